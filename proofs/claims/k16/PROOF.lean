import PyProof.Rows.All
import KE.KUnpack
import KE.KSortTup
import PyProof.SeqI3
import PyProof.DictItems
import KE.KPairComp
import PyProof.DictWalks
import PyProof.Rows.SortKeyStr
import KE.KItem
import KE.KTupSum
import KE.KEqDict
import KE.KFromBytes
import KE.KIntText
import KE.KRevIter
import KE.KDictOf
import KE.LcSums
import KE.KDictSum
import KE.KTryMore
import OpenK.KLine
import OpenK.KOwn
import Wide.Line
import Wide.FinOn
import Lean
import PySem.Challenge.RW_evenhall_k16_sums_by_months
set_option Elab.async false
set_option linter.all false
set_option maxRecDepth 100000
namespace L2
open PySem
noncomputable def eY (s : Stmt) (j : Nat) : Stmt := match s with
  | .ClassDef _ _ _ body _ _ _ _ _ _ _ => body.getD j (.Pass ⟨0, 0, 0, 0⟩)
  | _ => .Pass ⟨0, 0, 0, 0⟩
noncomputable def aI (s : Stmt) : Arguments := match s with
  | .FunctionDef _ a _ _ _ _ _ _ _ _ => a
  | _ => { posonlyargs := [], args := [], vararg := none, kwonlyargs := [], kw_defaults := [], kwarg := none, defaults := [] }
noncomputable def aB (s : Stmt) : List Stmt := match s with
  | .FunctionDef _ _ b _ _ _ _ _ _ _ => b
  | _ => []
noncomputable def ae (s : Stmt) : Scope := match s with
  | .FunctionDef _ _ _ _ _ _ sc _ _ _ => sc
  | _ => { kind := .function, names := [], isGenerator := false, isCoroutine := false }
end L2
namespace K16
open PySem L2
noncomputable def top (i : Nat) : Stmt := PySem.Challenge.pw_evenhall_k16_sums_by_months.main.body.getD i (.Pass ⟨0, 0, 0, 0⟩)
noncomputable abbrev bJ : Stmt := top 3
noncomputable abbrev bH : Stmt := top 4
noncomputable abbrev bS : Stmt := top 5
noncomputable abbrev bT : Stmt := top 6
noncomputable abbrev be : Stmt := top 10
noncomputable abbrev bq : Stmt := top 11
noncomputable abbrev br : Stmt := top 12
noncomputable abbrev bu : Stmt := top 13
noncomputable abbrev bv : Stmt := top 14
noncomputable abbrev aJ : Stmt := top 15
noncomputable abbrev aW : Stmt := top 16
noncomputable abbrev bN : Stmt := top 17
noncomputable abbrev bd : Stmt := top 18
noncomputable abbrev bI : Stmt := top 19
noncomputable abbrev aS : Stmt := top 20
noncomputable abbrev aR : Stmt := top 21
noncomputable abbrev bf : Stmt := top 22
noncomputable abbrev bn : Stmt := top 23
noncomputable abbrev aU : Stmt := eY (top 8) 0
noncomputable abbrev bO : Stmt := eY (top 8) 1
noncomputable abbrev aG : Stmt := eY (top 8) 2
noncomputable abbrev bU : Stmt := eY (top 8) 3
noncomputable abbrev aY : Stmt := eY (top 8) 4
noncomputable abbrev aD : Stmt := eY (top 8) 5
end K16
set_option Elab.async false
set_option linter.all false
namespace TR
open PySem PySem.W
def go (p : Program) (w : World) (lo : Nat) (an : Option Value) : Nat → SharedT → Thread → Option SharedT
  | 0, _, _ => none
  | k + 1, x, th => match through th with
    | true => some x
    | false => match stepOk lo an th with
      | false => none
      | true => match stepT (denote treeTable) p w x th with
        | none => none
        | some y => go p w lo an k y.1 y.2
theorem jw {p : Program} {w : World} {lo : Nat} {an : Option Value} (k : Nat) : ∀ {x y : SharedT} {th : Thread}, go p w lo an k x th = some y → topRun treeTable p w lo an k x.abs th = some y.abs := by
  induction k with
  | zero => intro x y th e; cases e
  | succ k ih =>
    intro x y th e
    unfold go at e
    unfold topRun
    revert e
    cases through th with
    | true => intro e; cases e; rfl
    | false =>
      cases stepOk lo an th with
      | false => intro e; cases e
      | true =>
        dsimp only
        cases z : stepT (denote treeTable) p w x th with
        | none => intro e; cases e
        | some v =>
          intro e
          obtain ⟨v1, v2⟩ := v
          rw [stepT_spec z]
          exact ih e
noncomputable def look (p : Program) (P : Params) (s : Shared) : Bool := staticsOk (importedModules p.main.body) (boot_heap P) s.heap && namesBound p s.heap && gensDone s && laidKept (boot_heap P) s.heap
theorem left {p q : Program} {ls : List Str} {Xt : Shared → Bool} {β : Type} {Yf : Shared → β} {Ya : World → β} {N lo : Nat} {an : Option Value} {tr : Params → BT}
    (ho : ∀ w : World, (fencedOpening treeTable p w N).map (fun s => (s.heap, s.gens, s.drawn, s.toks)) = some (boot_heap w.params, Array.mk [], boot_drawn, boot_toks))
    (hz : ∀ P : Params, ((boot_heap P).isNs mainGlobals, (boot_heap P).objs.size, (boot_heap P).nsMap mainGlobals "__annotations__") = (true, lo, an))
    (ht : ∀ P : Params, absHeap (tr P) lo (boot_heap P).life = boot_heap P)
    (hr : ∀ w : World, (fun os => (go p w lo an N ⟨tr w.params, lo, (boot_heap w.params).life, Array.mk [], boot_drawn, boot_toks, os⟩ (topStub p)).map fun x => (look p w.params x.abs, openSeen q ls (importedModules p.main.body) Xt true x.abs, Yf x.abs)) = fun _ => some (true, openGood q ls, Ya w)) :
    LeftO p q ls Xt Yf Ya N := by
  intro w
  obtain ⟨⟨h, g, d, k, os⟩, e1, e2⟩ := Option.map_eq_some_iff.mp (ho w)
  simp only [Prod.mk.injEq] at e2
  obtain ⟨rfl, rfl, rfl, rfl⟩ := e2
  have z := hz w.params
  simp only [Prod.mk.injEq] at z
  obtain ⟨z1, z2, z3⟩ := z
  obtain ⟨x, r1, r2⟩ := Option.map_eq_some_iff.mp (congrFun (hr w) os)
  simp only [Prod.mk.injEq] at r2
  obtain ⟨l1, l2, l3⟩ := r2
  have t := jw _ r1
  have ab : SharedT.abs ⟨tr w.params, lo, (boot_heap w.params).life, Array.mk [], boot_drawn, boot_toks, os⟩ = ⟨boot_heap w.params, Array.mk [], boot_drawn, boot_toks, os⟩ := by
    show Shared.mk (absHeap (tr w.params) lo (boot_heap w.params).life) _ _ _ _ = _
    rw [ht]
  rw [ab] at t
  have f : topFrom treeTable p w N ⟨boot_heap w.params, Array.mk [], boot_drawn, boot_toks, os⟩ = some x.abs := by
    unfold topFrom
    dsimp only
    rw [z1, z2, z3, t]
    show (match look p w.params x.abs with | true => some x.abs | false => none) = _
    rw [l1]
  unfold openEnds
  rw [e1]
  show (topFrom treeTable p w N _).map _ = _
  rw [f]
  show some (_, _) = _
  rw [l2, l3]
end TR
namespace K16
open PySem L2
abbrev kS (s : String) : Str := Str.ofString s
abbrev kR (a : Addr) : Value := .ref a
abbrev kY (s : String) : Value := .type s
abbrev kB (s : String) : Value := .builtin s
abbrev kZ (s : Str) (t : Tok) : Value := .str s t
abbrev kN : Value := .none
abbrev kD (h : Int) (k v : Value) : DictEntry := ⟨h, k, v⟩
abbrev kO (c : Value) (d : Option Addr) (t : Data) (s : Array (Option Value)) : Obj := ⟨c, d, t, s⟩
abbrev keyHash := PyData.keyHash
abbrev kE (P : Params) (s : String) (t : Tok) (v : Value) : DictEntry := ⟨keyHash P (kS s), kZ (kS s) t, v⟩
set_option maxRecDepth 100000 in
noncomputable def frag (P : Params) : PySem.W.Frag :=
  (nat_lit 2, (kO kN none (PySem.Data.dict #[] 0) #[]))::
  (nat_lit 3, (kO (kY "dict") none (PySem.Data.dict #[(kE P "__name__" 165 (kZ (kS "law_evenhall_k16_sums_by_months") 318)), (kE P "__doc__" 166 kN), (kE P "__package__" 167 kN), (kE P "__loader__" 168 (kB "__main__.__loader__#opaque")), (kE P "__spec__" 169 kN), (kE P "__annotations__" 170 (kR 6)), (kE P "__builtins__" 171 (kR 4)), (kE P "__file__" 173 (kZ (kS "/claim/cut.py") 172)), (kE P "__cached__" 174 kN), (kE P "_wall" 193 (kR 21)), (kE P "LENGTHS" 208 (kR 22)), (kE P "leap_days" 215 (kR 29)), (kE P "first_day" 225 (kR 36)), (kE P "last_day" 232 (kR 43)), (kE P "month_of" 240 (kR 50)), (kE P "Sums" 317 (kR 103)), (kE P "_law_cell_at" 327 (kR 114)), (kE P "_law_mixed" 335 (kR 121)), (kE P "_law_whole" 342 (kR 128)), (kE P "_law_names" 348 (kR 133)), (kE P "_law_paths" 362 (kR 140)), (kE P "_law_currencies" 368 (kR 145)), (kE P "_law_first" 379 (kR 152)), (kE P "_law_day" 387 (kR 159)), (kE P "_law_amount" 395 (kR 166)), (kE P "_law_rows" 408 (kR 173)), (kE P "_law_stretch" 418 (kR 180)), (kE P "_law_answers" 431 (kR 187)), (kE P "_law_told" 437 (kR 192)), (kE P "law" 443 (kR 197))] 30) #[]))::
  (nat_lit 15, (kO (kY "tuple") none (PySem.Data.seq #[] 0) #[]))::
  (nat_lit 17, (kO (kY "tuple") none (PySem.Data.seq #[(kZ (kS "k") 190)] 0) #[]))::
  (nat_lit 18, (kO (kY "tuple") none (PySem.Data.seq #[] 0) #[]))::
  (nat_lit 20, (kO (kY "code") none (PySem.Data.fields #[(kZ (kS "_wall") 187), (kZ (kS "_wall") 188), (kZ (kS "/claim/cut.py") 189), (PySem.Value.int (1 : Int) 0), (PySem.Value.int (1 : Int) 0), (PySem.Value.int (0 : Int) 0), (PySem.Value.int (0 : Int) 0), (PySem.Value.int (3 : Int) 0), (kR 15), (PySem.Value.bool true), (PySem.Value.int (181 : Int) 0), (kR 16), kN, (kR 17), (kR 18), (kR 19), (PySem.Value.int (191 : Int) 0), (PySem.Value.int (1 : Int) 0), (kZ (kS "/claim/cut.py") 192)]) #[]))::
  (nat_lit 21, (kO (kY "function") none (PySem.Data.func (PySem.FuncData.mk (kS "_wall") (kS "_wall") (PySem.Arguments.mk [] [(PySem.Arg.mk (kS "k") none (PySem.Pos.mk 1 10 1 11))] none [] [] none []) (PySem.FuncBody.stmts [(PySem.Stmt.While (PySem.Expr.Constant (PySem.Const.bool true) 0 (PySem.Pos.mk 2 10 2 14)) [(PySem.Stmt.Pass (PySem.Pos.mk 3 8 3 12))] [] (PySem.Pos.mk 2 4 3 12))]) (PySem.Scope.mk PySem.ScopeKind.function [((kS "k"), PySem.NameKind.local)] false false []) 3 [] kN kN kN (kZ (kS "__main__") 164) none (kR 20) kN 0)) #[]))::
  (nat_lit 22, (kO (kY "tuple") none (PySem.Data.seq #[(PySem.Value.int (31 : Int) 196), (PySem.Value.int (28 : Int) 197), (PySem.Value.int (31 : Int) 198), (PySem.Value.int (30 : Int) 199), (PySem.Value.int (31 : Int) 200), (PySem.Value.int (30 : Int) 201), (PySem.Value.int (31 : Int) 202), (PySem.Value.int (31 : Int) 203), (PySem.Value.int (30 : Int) 204), (PySem.Value.int (31 : Int) 205), (PySem.Value.int (30 : Int) 206), (PySem.Value.int (31 : Int) 207)] 0) #[]))::
  (nat_lit 23, (kO (kY "tuple") none (PySem.Data.seq #[] 0) #[]))::
  (nat_lit 25, (kO (kY "tuple") none (PySem.Data.seq #[(kZ (kS "years") 212)] 0) #[]))::
  (nat_lit 26, (kO (kY "tuple") none (PySem.Data.seq #[] 0) #[]))::
  (nat_lit 28, (kO (kY "code") none (PySem.Data.fields #[(kZ (kS "leap_days") 209), (kZ (kS "leap_days") 210), (kZ (kS "/claim/cut.py") 211), (PySem.Value.int (6 : Int) 0), (PySem.Value.int (1 : Int) 0), (PySem.Value.int (0 : Int) 0), (PySem.Value.int (0 : Int) 0), (PySem.Value.int (3 : Int) 0), (kR 23), (PySem.Value.bool true), (PySem.Value.int (181 : Int) 0), (kR 24), kN, (kR 25), (kR 26), (kR 27), (PySem.Value.int (213 : Int) 0), (PySem.Value.int (6 : Int) 0), (kZ (kS "/claim/cut.py") 214)]) #[]))::
  (nat_lit 29, (kO (kY "function") none (PySem.Data.func (PySem.W.fnOf (kS "leap_days") (kS "leap_days") (aI bJ) (aB bJ) (ae bJ) kN kN kN (kZ (kS "evenhall.days") 194) none (kR 28) kN)) #[]))::
  (nat_lit 30, (kO (kY "tuple") none (PySem.Data.seq #[] 0) #[]))::
  (nat_lit 32, (kO (kY "tuple") none (PySem.Data.seq #[(kZ (kS "month") 219), (kZ (kS "years") 220), (kZ (kS "ahead") 221), (kZ (kS "leaps") 222)] 0) #[]))::
  (nat_lit 33, (kO (kY "tuple") none (PySem.Data.seq #[] 0) #[]))::
  (nat_lit 35, (kO (kY "code") none (PySem.Data.fields #[(kZ (kS "first_day") 216), (kZ (kS "first_day") 217), (kZ (kS "/claim/cut.py") 218), (PySem.Value.int (8 : Int) 0), (PySem.Value.int (1 : Int) 0), (PySem.Value.int (0 : Int) 0), (PySem.Value.int (0 : Int) 0), (PySem.Value.int (3 : Int) 0), (kR 30), (PySem.Value.bool true), (PySem.Value.int (181 : Int) 0), (kR 31), kN, (kR 32), (kR 33), (kR 34), (PySem.Value.int (223 : Int) 0), (PySem.Value.int (8 : Int) 0), (kZ (kS "/claim/cut.py") 224)]) #[]))::
  (nat_lit 36, (kO (kY "function") none (PySem.Data.func (PySem.W.fnOf (kS "first_day") (kS "first_day") (aI bH) (aB bH) (ae bH) kN kN kN (kZ (kS "evenhall.days") 194) none (kR 35) kN)) #[]))::
  (nat_lit 37, (kO (kY "tuple") none (PySem.Data.seq #[] 0) #[]))::
  (nat_lit 39, (kO (kY "tuple") none (PySem.Data.seq #[(kZ (kS "month") 229)] 0) #[]))::
  (nat_lit 40, (kO (kY "tuple") none (PySem.Data.seq #[] 0) #[]))::
  (nat_lit 42, (kO (kY "code") none (PySem.Data.fields #[(kZ (kS "last_day") 226), (kZ (kS "last_day") 227), (kZ (kS "/claim/cut.py") 228), (PySem.Value.int (13 : Int) 0), (PySem.Value.int (1 : Int) 0), (PySem.Value.int (0 : Int) 0), (PySem.Value.int (0 : Int) 0), (PySem.Value.int (3 : Int) 0), (kR 37), (PySem.Value.bool true), (PySem.Value.int (181 : Int) 0), (kR 38), kN, (kR 39), (kR 40), (kR 41), (PySem.Value.int (230 : Int) 0), (PySem.Value.int (13 : Int) 0), (kZ (kS "/claim/cut.py") 231)]) #[]))::
  (nat_lit 43, (kO (kY "function") none (PySem.Data.func (PySem.W.fnOf (kS "last_day") (kS "last_day") (aI bS) (aB bS) (ae bS) kN kN kN (kZ (kS "evenhall.days") 194) none (kR 42) kN)) #[]))::
  (nat_lit 44, (kO (kY "tuple") none (PySem.Data.seq #[] 0) #[]))::
  (nat_lit 46, (kO (kY "tuple") none (PySem.Data.seq #[(kZ (kS "day") 236), (kZ (kS "month") 237)] 0) #[]))::
  (nat_lit 47, (kO (kY "tuple") none (PySem.Data.seq #[] 0) #[]))::
  (nat_lit 49, (kO (kY "code") none (PySem.Data.fields #[(kZ (kS "month_of") 233), (kZ (kS "month_of") 234), (kZ (kS "/claim/cut.py") 235), (PySem.Value.int (15 : Int) 0), (PySem.Value.int (1 : Int) 0), (PySem.Value.int (0 : Int) 0), (PySem.Value.int (0 : Int) 0), (PySem.Value.int (3 : Int) 0), (kR 44), (PySem.Value.bool true), (PySem.Value.int (181 : Int) 0), (kR 45), kN, (kR 46), (kR 47), (kR 48), (PySem.Value.int (238 : Int) 0), (PySem.Value.int (15 : Int) 0), (kZ (kS "/claim/cut.py") 239)]) #[]))::
  (nat_lit 50, (kO (kY "function") none (PySem.Data.func (PySem.W.fnOf (kS "month_of") (kS "month_of") (aI bT) (aB bT) (ae bT) kN kN kN (kZ (kS "evenhall.days") 194) none (kR 49) kN)) #[]))::
  (nat_lit 58, (kO (kY "tuple") none (PySem.Data.seq #[] 0) #[]))::
  (nat_lit 60, (kO (kY "tuple") none (PySem.Data.seq #[(kZ (kS "self") 258)] 0) #[]))::
  (nat_lit 61, (kO (kY "tuple") none (PySem.Data.seq #[] 0) #[]))::
  (nat_lit 63, (kO (kY "code") none (PySem.Data.fields #[(kZ (kS "__init__") 255), (kZ (kS "Sums.__init__") 256), (kZ (kS "/claim/cut.py") 257), (PySem.Value.int (25 : Int) 0), (PySem.Value.int (1 : Int) 0), (PySem.Value.int (0 : Int) 0), (PySem.Value.int (0 : Int) 0), (PySem.Value.int (3 : Int) 0), (kR 58), (PySem.Value.bool true), (PySem.Value.int (181 : Int) 0), (kR 59), kN, (kR 60), (kR 61), (kR 62), (PySem.Value.int (259 : Int) 0), (PySem.Value.int (25 : Int) 0), (kZ (kS "/claim/cut.py") 260)]) #[]))::
  (nat_lit 64, (kO (kY "function") none (PySem.Data.func (PySem.W.fnOf (kS "__init__") (kS "Sums.__init__") (aI aU) (aB aU) (ae aU) kN kN kN (kZ (kS "evenhall.sums") 241) none (kR 63) kN)) #[]))::
  (nat_lit 65, (kO (kY "tuple") none (PySem.Data.seq #[] 0) #[]))::
  (nat_lit 67, (kO (kY "tuple") none (PySem.Data.seq #[(kZ (kS "self") 265), (kZ (kS "booking") 266), (kZ (kS "month") 267), (kZ (kS "path") 268), (kZ (kS "currency") 269), (kZ (kS "amount") 270), (kZ (kS "by_month") 271)] 0) #[]))::
  (nat_lit 68, (kO (kY "tuple") none (PySem.Data.seq #[] 0) #[]))::
  (nat_lit 70, (kO (kY "code") none (PySem.Data.fields #[(kZ (kS "put") 262), (kZ (kS "Sums.put") 263), (kZ (kS "/claim/cut.py") 264), (PySem.Value.int (28 : Int) 0), (PySem.Value.int (2 : Int) 0), (PySem.Value.int (0 : Int) 0), (PySem.Value.int (0 : Int) 0), (PySem.Value.int (3 : Int) 0), (kR 65), (PySem.Value.bool true), (PySem.Value.int (181 : Int) 0), (kR 66), kN, (kR 67), (kR 68), (kR 69), (PySem.Value.int (272 : Int) 0), (PySem.Value.int (28 : Int) 0), (kZ (kS "/claim/cut.py") 273)]) #[]))::
  (nat_lit 71, (kO (kY "function") none (PySem.Data.func (PySem.W.fnOf (kS "put") (kS "Sums.put") (aI bO) (aB bO) (ae bO) kN kN kN (kZ (kS "evenhall.sums") 241) none (kR 70) kN)) #[]))::
  (nat_lit 72, (kO (kY "tuple") none (PySem.Data.seq #[] 0) #[]))::
  (nat_lit 74, (kO (kY "tuple") none (PySem.Data.seq #[(kZ (kS "self") 278), (kZ (kS "path") 279), (kZ (kS "currency") 280)] 0) #[]))::
  (nat_lit 75, (kO (kY "tuple") none (PySem.Data.seq #[] 0) #[]))::
  (nat_lit 77, (kO (kY "code") none (PySem.Data.fields #[(kZ (kS "months_of") 275), (kZ (kS "Sums.months_of") 276), (kZ (kS "/claim/cut.py") 277), (PySem.Value.int (34 : Int) 0), (PySem.Value.int (3 : Int) 0), (PySem.Value.int (0 : Int) 0), (PySem.Value.int (0 : Int) 0), (PySem.Value.int (3 : Int) 0), (kR 72), (PySem.Value.bool true), (PySem.Value.int (181 : Int) 0), (kR 73), kN, (kR 74), (kR 75), (kR 76), (PySem.Value.int (281 : Int) 0), (PySem.Value.int (34 : Int) 0), (kZ (kS "/claim/cut.py") 282)]) #[]))::
  (nat_lit 78, (kO (kY "function") none (PySem.Data.func (PySem.W.fnOf (kS "months_of") (kS "Sums.months_of") (aI aG) (aB aG) (ae aG) kN kN kN (kZ (kS "evenhall.sums") 241) none (kR 77) kN)) #[]))::
  (nat_lit 79, (kO (kY "tuple") none (PySem.Data.seq #[] 0) #[]))::
  (nat_lit 82, (kO (kY "code") none (PySem.Data.fields #[(kZ (kS "own") 284), (kZ (kS "Sums.own") 285), (kZ (kS "/claim/cut.py") 286), (PySem.Value.int (37 : Int) 0), (PySem.Value.int (5 : Int) 0), (PySem.Value.int (0 : Int) 0), (PySem.Value.int (0 : Int) 0), (PySem.Value.int (3 : Int) 0), (kR 79), (PySem.Value.bool true), (PySem.Value.int (181 : Int) 0), (kR 80), kN, kN, kN, (kR 81), (PySem.Value.int (287 : Int) 0), (PySem.Value.int (37 : Int) 0), (kZ (kS "/claim/cut.py") 288)]) #[]))::
  (nat_lit 83, (kO (kY "function") none (PySem.Data.func (PySem.W.fnOf (kS "own") (kS "Sums.own") (aI bU) (aB bU) (ae bU) kN kN kN (kZ (kS "evenhall.sums") 241) none (kR 82) kN)) #[]))::
  (nat_lit 84, (kO (kY "tuple") none (PySem.Data.seq #[] 0) #[]))::
  (nat_lit 87, (kO (kY "code") none (PySem.Data.fields #[(kZ (kS "standing") 290), (kZ (kS "Sums.standing") 291), (kZ (kS "/claim/cut.py") 292), (PySem.Value.int (40 : Int) 0), (PySem.Value.int (4 : Int) 0), (PySem.Value.int (0 : Int) 0), (PySem.Value.int (0 : Int) 0), (PySem.Value.int (3 : Int) 0), (kR 84), (PySem.Value.bool true), (PySem.Value.int (181 : Int) 0), (kR 85), kN, kN, kN, (kR 86), (PySem.Value.int (293 : Int) 0), (PySem.Value.int (40 : Int) 0), (kZ (kS "/claim/cut.py") 294)]) #[]))::
  (nat_lit 88, (kO (kY "function") none (PySem.Data.func (PySem.W.fnOf (kS "standing") (kS "Sums.standing") (aI aY) (aB aY) (ae aY) kN kN kN (kZ (kS "evenhall.sums") 241) none (kR 87) kN)) #[]))::
  (nat_lit 89, (kO (kY "tuple") none (PySem.Data.seq #[] 0) #[]))::
  (nat_lit 92, (kO (kY "code") none (PySem.Data.fields #[(kZ (kS "currencies") 296), (kZ (kS "Sums.currencies") 297), (kZ (kS "/claim/cut.py") 298), (PySem.Value.int (43 : Int) 0), (PySem.Value.int (2 : Int) 0), (PySem.Value.int (0 : Int) 0), (PySem.Value.int (0 : Int) 0), (PySem.Value.int (3 : Int) 0), (kR 89), (PySem.Value.bool true), (PySem.Value.int (181 : Int) 0), (kR 90), kN, kN, kN, (kR 91), (PySem.Value.int (299 : Int) 0), (PySem.Value.int (43 : Int) 0), (kZ (kS "/claim/cut.py") 300)]) #[]))::
  (nat_lit 93, (kO (kY "function") none (PySem.Data.func (PySem.W.fnOf (kS "currencies") (kS "Sums.currencies") (aI aD) (aB aD) (ae aD) kN kN kN (kZ (kS "evenhall.sums") 241) none (kR 92) kN)) #[]))::
  (nat_lit 94, (kO (kY "tuple") none (PySem.Data.seq #[] 0) #[]))::
  (nat_lit 96, (kO (kY "tuple") none (PySem.Data.seq #[(kZ (kS "self") 305)] 0) #[]))::
  (nat_lit 97, (kO (kY "tuple") none (PySem.Data.seq #[] 0) #[]))::
  (nat_lit 99, (kO (kY "code") none (PySem.Data.fields #[(kZ (kS "all_sums") 302), (kZ (kS "Sums.all_sums") 303), (kZ (kS "/claim/cut.py") 304), (PySem.Value.int (46 : Int) 0), (PySem.Value.int (1 : Int) 0), (PySem.Value.int (0 : Int) 0), (PySem.Value.int (0 : Int) 0), (PySem.Value.int (3 : Int) 0), (kR 94), (PySem.Value.bool true), (PySem.Value.int (181 : Int) 0), (kR 95), kN, (kR 96), (kR 97), (kR 98), (PySem.Value.int (306 : Int) 0), (PySem.Value.int (46 : Int) 0), (kZ (kS "/claim/cut.py") 307)]) #[]))::
  (nat_lit 100, (kO (kY "function") none (PySem.Data.func (PySem.FuncData.mk (kS "all_sums") (kS "Sums.all_sums") (PySem.Arguments.mk [] [(PySem.Arg.mk (kS "self") none (PySem.Pos.mk 46 17 46 21))] none [] [] none []) (PySem.FuncBody.stmts [(PySem.Stmt.Expr (PySem.Expr.Call (PySem.Expr.Name (kS "_wall") (PySem.Pos.mk 47 8 47 13)) [(PySem.Expr.Constant (PySem.Const.int (0 : Int)) 0 (PySem.Pos.mk 47 14 47 15))] [] (PySem.Pos.mk 47 8 47 16)) (PySem.Pos.mk 47 8 47 16))]) (PySem.Scope.mk PySem.ScopeKind.function [((kS "self"), PySem.NameKind.local), ((kS "_wall"), PySem.NameKind.globalImplicit)] false false []) 3 [] kN kN kN (kZ (kS "evenhall.sums") 241) none (kR 99) kN 0)) #[]))::
  (nat_lit 101, (kO (kY "tuple") none (PySem.Data.seq #[(kZ (kS "by_place") 309)] 0) #[]))::
  (nat_lit 102, (kO (kY "dict") none (PySem.Data.dict #[(kE P "__module__" 250 (kZ (kS "evenhall.sums") 241)), (kE P "__firstlineno__" 254 (PySem.Value.int (23 : Int) 253)), (kE P "__init__" 261 (kR 64)), (kE P "put" 274 (kR 71)), (kE P "months_of" 283 (kR 78)), (kE P "own" 289 (kR 83)), (kE P "standing" 295 (kR 88)), (kE P "currencies" 301 (kR 93)), (kE P "all_sums" 308 (kR 100)), (kE P "__static_attributes__" 310 (kR 101)), (kE P "__dict__" 312 (kR 104)), (kE P "__weakref__" 314 (kR 105)), (kE P "__doc__" 315 kN)] 4) #[]))::
  (nat_lit 103, (kO (kY "type") none (PySem.Data.cls (PySem.ClassData.mk (kS "Sums") [(kY "object")] [(kR 103), (kY "object")] 102 (kS "Sums") true [] [] false none false)) #[none, none, (some (kZ (kS "Sums") 243)), (some (kZ (kS "Sums") 251)), (some (kB "object.__new__")), (some (PySem.Value.bool true))]))::
  (nat_lit 104, (kO (kY "getset_descriptor") none (PySem.Data.fields #[(kZ (kS "__dict__") 311), (kR 103), (kB "function.__dict__"), (kB "function.__dict__#set")]) #[]))::
  (nat_lit 105, (kO (kY "getset_descriptor") none (PySem.Data.fields #[(kZ (kS "__weakref__") 313), (kR 103), (kB "ExceptionGroup.__weakref__"), kN]) #[]))::
  (nat_lit 108, (kO (kY "tuple") none (PySem.Data.seq #[] 0) #[]))::
  (nat_lit 110, (kO (kY "tuple") none (PySem.Data.seq #[(kZ (kS "_law_script") 323), (kZ (kS "_law_k") 324)] 0) #[]))::
  (nat_lit 111, (kO (kY "tuple") none (PySem.Data.seq #[] 0) #[]))::
  (nat_lit 113, (kO (kY "code") none (PySem.Data.fields #[(kZ (kS "_law_cell_at") 320), (kZ (kS "_law_cell_at") 321), (kZ (kS "/claim/cut.py") 322), (PySem.Value.int (49 : Int) 0), (PySem.Value.int (2 : Int) 0), (PySem.Value.int (0 : Int) 0), (PySem.Value.int (0 : Int) 0), (PySem.Value.int (3 : Int) 0), (kR 108), (PySem.Value.bool true), (PySem.Value.int (181 : Int) 0), (kR 109), kN, (kR 110), (kR 111), (kR 112), (PySem.Value.int (325 : Int) 0), (PySem.Value.int (49 : Int) 0), (kZ (kS "/claim/cut.py") 326)]) #[]))::
  (nat_lit 114, (kO (kY "function") none (PySem.Data.func (PySem.W.fnOf (kS "_law_cell_at") (kS "_law_cell_at") (aI be) (aB be) (ae be) kN kN kN (kZ (kS "law_evenhall_k16_sums_by_months") 318) none (kR 113) kN)) #[]))::
  (nat_lit 115, (kO (kY "tuple") none (PySem.Data.seq #[] 0) #[]))::
  (nat_lit 117, (kO (kY "tuple") none (PySem.Data.seq #[(kZ (kS "_law_cell") 331), (kZ (kS "_law_k") 332)] 0) #[]))::
  (nat_lit 118, (kO (kY "tuple") none (PySem.Data.seq #[] 0) #[]))::
  (nat_lit 120, (kO (kY "code") none (PySem.Data.fields #[(kZ (kS "_law_mixed") 328), (kZ (kS "_law_mixed") 329), (kZ (kS "/claim/cut.py") 330), (PySem.Value.int (53 : Int) 0), (PySem.Value.int (2 : Int) 0), (PySem.Value.int (0 : Int) 0), (PySem.Value.int (0 : Int) 0), (PySem.Value.int (3 : Int) 0), (kR 115), (PySem.Value.bool true), (PySem.Value.int (181 : Int) 0), (kR 116), kN, (kR 117), (kR 118), (kR 119), (PySem.Value.int (333 : Int) 0), (PySem.Value.int (53 : Int) 0), (kZ (kS "/claim/cut.py") 334)]) #[]))::
  (nat_lit 121, (kO (kY "function") none (PySem.Data.func (PySem.W.fnOf (kS "_law_mixed") (kS "_law_mixed") (aI bq) (aB bq) (ae bq) kN kN kN (kZ (kS "law_evenhall_k16_sums_by_months") 318) none (kR 120) kN)) #[]))::
  (nat_lit 122, (kO (kY "tuple") none (PySem.Data.seq #[] 0) #[]))::
  (nat_lit 124, (kO (kY "tuple") none (PySem.Data.seq #[(kZ (kS "_law_found") 339)] 0) #[]))::
  (nat_lit 125, (kO (kY "tuple") none (PySem.Data.seq #[] 0) #[]))::
  (nat_lit 127, (kO (kY "code") none (PySem.Data.fields #[(kZ (kS "_law_whole") 336), (kZ (kS "_law_whole") 337), (kZ (kS "/claim/cut.py") 338), (PySem.Value.int (55 : Int) 0), (PySem.Value.int (1 : Int) 0), (PySem.Value.int (0 : Int) 0), (PySem.Value.int (0 : Int) 0), (PySem.Value.int (3 : Int) 0), (kR 122), (PySem.Value.bool true), (PySem.Value.int (181 : Int) 0), (kR 123), kN, (kR 124), (kR 125), (kR 126), (PySem.Value.int (340 : Int) 0), (PySem.Value.int (55 : Int) 0), (kZ (kS "/claim/cut.py") 341)]) #[]))::
  (nat_lit 128, (kO (kY "function") none (PySem.Data.func (PySem.W.fnOf (kS "_law_whole") (kS "_law_whole") (aI br) (aB br) (ae br) kN kN kN (kZ (kS "law_evenhall_k16_sums_by_months") 318) none (kR 127) kN)) #[]))::
  (nat_lit 129, (kO (kY "tuple") none (PySem.Data.seq #[] 0) #[]))::
  (nat_lit 132, (kO (kY "code") none (PySem.Data.fields #[(kZ (kS "_law_names") 343), (kZ (kS "_law_names") 344), (kZ (kS "/claim/cut.py") 345), (PySem.Value.int (57 : Int) 0), (PySem.Value.int (1 : Int) 0), (PySem.Value.int (0 : Int) 0), (PySem.Value.int (0 : Int) 0), (PySem.Value.int (3 : Int) 0), (kR 129), (PySem.Value.bool true), (PySem.Value.int (181 : Int) 0), (kR 130), kN, kN, kN, (kR 131), (PySem.Value.int (346 : Int) 0), (PySem.Value.int (57 : Int) 0), (kZ (kS "/claim/cut.py") 347)]) #[]))::
  (nat_lit 133, (kO (kY "function") none (PySem.Data.func (PySem.W.fnOf (kS "_law_names") (kS "_law_names") (aI bu) (aB bu) (ae bu) kN kN kN (kZ (kS "law_evenhall_k16_sums_by_months") 318) none (kR 132) kN)) #[]))::
  (nat_lit 134, (kO (kY "tuple") none (PySem.Data.seq #[] 0) #[]))::
  (nat_lit 136, (kO (kY "tuple") none (PySem.Data.seq #[(kZ (kS "_law_script") 352), (kZ (kS "_law_many") 353), (kZ (kS "_law_names_here") 354), (kZ (kS "_law_paths_here") 355), (kZ (kS "_law_k") 356), (kZ (kS "_law_cell") 357), (kZ (kS "_law_ahead") 358), (kZ (kS "_law_path") 359)] 0) #[]))::
  (nat_lit 137, (kO (kY "tuple") none (PySem.Data.seq #[] 0) #[]))::
  (nat_lit 139, (kO (kY "code") none (PySem.Data.fields #[(kZ (kS "_law_paths") 349), (kZ (kS "_law_paths") 350), (kZ (kS "/claim/cut.py") 351), (PySem.Value.int (68 : Int) 0), (PySem.Value.int (2 : Int) 0), (PySem.Value.int (0 : Int) 0), (PySem.Value.int (0 : Int) 0), (PySem.Value.int (3 : Int) 0), (kR 134), (PySem.Value.bool true), (PySem.Value.int (181 : Int) 0), (kR 135), kN, (kR 136), (kR 137), (kR 138), (PySem.Value.int (360 : Int) 0), (PySem.Value.int (68 : Int) 0), (kZ (kS "/claim/cut.py") 361)]) #[]))::
  (nat_lit 140, (kO (kY "function") none (PySem.Data.func (PySem.W.fnOf (kS "_law_paths") (kS "_law_paths") (aI bv) (aB bv) (ae bv) kN kN kN (kZ (kS "law_evenhall_k16_sums_by_months") 318) none (kR 139) kN)) #[]))::
  (nat_lit 141, (kO (kY "tuple") none (PySem.Data.seq #[] 0) #[]))::
  (nat_lit 144, (kO (kY "code") none (PySem.Data.fields #[(kZ (kS "_law_currencies") 363), (kZ (kS "_law_currencies") 364), (kZ (kS "/claim/cut.py") 365), (PySem.Value.int (78 : Int) 0), (PySem.Value.int (1 : Int) 0), (PySem.Value.int (0 : Int) 0), (PySem.Value.int (0 : Int) 0), (PySem.Value.int (3 : Int) 0), (kR 141), (PySem.Value.bool true), (PySem.Value.int (181 : Int) 0), (kR 142), kN, kN, kN, (kR 143), (PySem.Value.int (366 : Int) 0), (PySem.Value.int (78 : Int) 0), (kZ (kS "/claim/cut.py") 367)]) #[]))::
  (nat_lit 145, (kO (kY "function") none (PySem.Data.func (PySem.W.fnOf (kS "_law_currencies") (kS "_law_currencies") (aI aJ) (aB aJ) (ae aJ) kN kN kN (kZ (kS "law_evenhall_k16_sums_by_months") 318) none (kR 144) kN)) #[]))::
  (nat_lit 146, (kO (kY "tuple") none (PySem.Data.seq #[] 0) #[]))::
  (nat_lit 148, (kO (kY "tuple") none (PySem.Data.seq #[(kZ (kS "_law_month") 372), (kZ (kS "_law_year") 373), (kZ (kS "_law_day_here") 374), (kZ (kS "_law_long_year") 375), (kZ (kS "_law_place") 376)] 0) #[]))::
  (nat_lit 149, (kO (kY "tuple") none (PySem.Data.seq #[] 0) #[]))::
  (nat_lit 151, (kO (kY "code") none (PySem.Data.fields #[(kZ (kS "_law_first") 369), (kZ (kS "_law_first") 370), (kZ (kS "/claim/cut.py") 371), (PySem.Value.int (83 : Int) 0), (PySem.Value.int (1 : Int) 0), (PySem.Value.int (0 : Int) 0), (PySem.Value.int (0 : Int) 0), (PySem.Value.int (3 : Int) 0), (kR 146), (PySem.Value.bool true), (PySem.Value.int (181 : Int) 0), (kR 147), kN, (kR 148), (kR 149), (kR 150), (PySem.Value.int (377 : Int) 0), (PySem.Value.int (83 : Int) 0), (kZ (kS "/claim/cut.py") 378)]) #[]))::
  (nat_lit 152, (kO (kY "function") none (PySem.Data.func (PySem.W.fnOf (kS "_law_first") (kS "_law_first") (aI aW) (aB aW) (ae aW) kN kN kN (kZ (kS "law_evenhall_k16_sums_by_months") 318) none (kR 151) kN)) #[]))::
  (nat_lit 153, (kO (kY "tuple") none (PySem.Data.seq #[] 0) #[]))::
  (nat_lit 155, (kO (kY "tuple") none (PySem.Data.seq #[(kZ (kS "_law_cell") 383), (kZ (kS "_law_month") 384)] 0) #[]))::
  (nat_lit 156, (kO (kY "tuple") none (PySem.Data.seq #[] 0) #[]))::
  (nat_lit 158, (kO (kY "code") none (PySem.Data.fields #[(kZ (kS "_law_day") 380), (kZ (kS "_law_day") 381), (kZ (kS "/claim/cut.py") 382), (PySem.Value.int (90 : Int) 0), (PySem.Value.int (2 : Int) 0), (PySem.Value.int (0 : Int) 0), (PySem.Value.int (0 : Int) 0), (PySem.Value.int (3 : Int) 0), (kR 153), (PySem.Value.bool true), (PySem.Value.int (181 : Int) 0), (kR 154), kN, (kR 155), (kR 156), (kR 157), (PySem.Value.int (385 : Int) 0), (PySem.Value.int (90 : Int) 0), (kZ (kS "/claim/cut.py") 386)]) #[]))::
  (nat_lit 159, (kO (kY "function") none (PySem.Data.func (PySem.W.fnOf (kS "_law_day") (kS "_law_day") (aI bN) (aB bN) (ae bN) kN kN kN (kZ (kS "law_evenhall_k16_sums_by_months") 318) none (kR 158) kN)) #[]))::
  (nat_lit 160, (kO (kY "tuple") none (PySem.Data.seq #[] 0) #[]))::
  (nat_lit 162, (kO (kY "tuple") none (PySem.Data.seq #[(kZ (kS "_law_cell") 391), (kZ (kS "_law_some") 392)] 0) #[]))::
  (nat_lit 163, (kO (kY "tuple") none (PySem.Data.seq #[] 0) #[]))::
  (nat_lit 165, (kO (kY "code") none (PySem.Data.fields #[(kZ (kS "_law_amount") 388), (kZ (kS "_law_amount") 389), (kZ (kS "/claim/cut.py") 390), (PySem.Value.int (96 : Int) 0), (PySem.Value.int (1 : Int) 0), (PySem.Value.int (0 : Int) 0), (PySem.Value.int (0 : Int) 0), (PySem.Value.int (3 : Int) 0), (kR 160), (PySem.Value.bool true), (PySem.Value.int (181 : Int) 0), (kR 161), kN, (kR 162), (kR 163), (kR 164), (PySem.Value.int (393 : Int) 0), (PySem.Value.int (96 : Int) 0), (kZ (kS "/claim/cut.py") 394)]) #[]))::
  (nat_lit 166, (kO (kY "function") none (PySem.Data.func (PySem.W.fnOf (kS "_law_amount") (kS "_law_amount") (aI bd) (aB bd) (ae bd) kN kN kN (kZ (kS "law_evenhall_k16_sums_by_months") 318) none (kR 165) kN)) #[]))::
  (nat_lit 167, (kO (kY "tuple") none (PySem.Data.seq #[] 0) #[]))::
  (nat_lit 169, (kO (kY "tuple") none (PySem.Data.seq #[(kZ (kS "_law_cell") 399), (kZ (kS "_law_paths_here") 400), (kZ (kS "_law_currencies_here") 401), (kZ (kS "_law_rows_here") 402), (kZ (kS "_law_k") 403), (kZ (kS "_law_path") 404), (kZ (kS "_law_currency") 405)] 0) #[]))::
  (nat_lit 170, (kO (kY "tuple") none (PySem.Data.seq #[] 0) #[]))::
  (nat_lit 172, (kO (kY "code") none (PySem.Data.fields #[(kZ (kS "_law_rows") 396), (kZ (kS "_law_rows") 397), (kZ (kS "/claim/cut.py") 398), (PySem.Value.int (103 : Int) 0), (PySem.Value.int (3 : Int) 0), (PySem.Value.int (0 : Int) 0), (PySem.Value.int (0 : Int) 0), (PySem.Value.int (3 : Int) 0), (kR 167), (PySem.Value.bool true), (PySem.Value.int (181 : Int) 0), (kR 168), kN, (kR 169), (kR 170), (kR 171), (PySem.Value.int (406 : Int) 0), (PySem.Value.int (103 : Int) 0), (kZ (kS "/claim/cut.py") 407)]) #[]))::
  (nat_lit 173, (kO (kY "function") none (PySem.Data.func (PySem.W.fnOf (kS "_law_rows") (kS "_law_rows") (aI bI) (aB bI) (ae bI) kN kN kN (kZ (kS "law_evenhall_k16_sums_by_months") 318) none (kR 172) kN)) #[]))::
  (nat_lit 174, (kO (kY "tuple") none (PySem.Data.seq #[] 0) #[]))::
  (nat_lit 176, (kO (kY "tuple") none (PySem.Data.seq #[(kZ (kS "_law_cell") 412), (kZ (kS "_law_base") 413), (kZ (kS "_law_first_here") 414), (kZ (kS "_law_last") 415)] 0) #[]))::
  (nat_lit 177, (kO (kY "tuple") none (PySem.Data.seq #[] 0) #[]))::
  (nat_lit 179, (kO (kY "code") none (PySem.Data.fields #[(kZ (kS "_law_stretch") 409), (kZ (kS "_law_stretch") 410), (kZ (kS "/claim/cut.py") 411), (PySem.Value.int (110 : Int) 0), (PySem.Value.int (2 : Int) 0), (PySem.Value.int (0 : Int) 0), (PySem.Value.int (0 : Int) 0), (PySem.Value.int (3 : Int) 0), (kR 174), (PySem.Value.bool true), (PySem.Value.int (181 : Int) 0), (kR 175), kN, (kR 176), (kR 177), (kR 178), (PySem.Value.int (416 : Int) 0), (PySem.Value.int (110 : Int) 0), (kZ (kS "/claim/cut.py") 417)]) #[]))::
  (nat_lit 180, (kO (kY "function") none (PySem.Data.func (PySem.W.fnOf (kS "_law_stretch") (kS "_law_stretch") (aI aS) (aB aS) (ae aS) kN kN kN (kZ (kS "law_evenhall_k16_sums_by_months") 318) none (kR 179) kN)) #[]))::
  (nat_lit 181, (kO (kY "tuple") none (PySem.Data.seq #[] 0) #[]))::
  (nat_lit 183, (kO (kY "tuple") none (PySem.Data.seq #[(kZ (kS "_law_found") 422), (kZ (kS "_law_path") 423), (kZ (kS "_law_currency") 424), (kZ (kS "_law_stretch_here") 425), (kZ (kS "_law_turn") 426), (kZ (kS "_law_answers_here") 427), (kZ (kS "_law_way") 428)] 0) #[]))::
  (nat_lit 184, (kO (kY "tuple") none (PySem.Data.seq #[] 0) #[]))::
  (nat_lit 186, (kO (kY "code") none (PySem.Data.fields #[(kZ (kS "_law_answers") 419), (kZ (kS "_law_answers") 420), (kZ (kS "/claim/cut.py") 421), (PySem.Value.int (118 : Int) 0), (PySem.Value.int (5 : Int) 0), (PySem.Value.int (0 : Int) 0), (PySem.Value.int (0 : Int) 0), (PySem.Value.int (3 : Int) 0), (kR 181), (PySem.Value.bool true), (PySem.Value.int (181 : Int) 0), (kR 182), kN, (kR 183), (kR 184), (kR 185), (PySem.Value.int (429 : Int) 0), (PySem.Value.int (118 : Int) 0), (kZ (kS "/claim/cut.py") 430)]) #[]))::
  (nat_lit 187, (kO (kY "function") none (PySem.Data.func (PySem.W.fnOf (kS "_law_answers") (kS "_law_answers") (aI aR) (aB aR) (ae aR) kN kN kN (kZ (kS "law_evenhall_k16_sums_by_months") 318) none (kR 186) kN)) #[]))::
  (nat_lit 188, (kO (kY "tuple") none (PySem.Data.seq #[] 0) #[]))::
  (nat_lit 191, (kO (kY "code") none (PySem.Data.fields #[(kZ (kS "_law_told") 432), (kZ (kS "_law_told") 433), (kZ (kS "/claim/cut.py") 434), (PySem.Value.int (128 : Int) 0), (PySem.Value.int (7 : Int) 0), (PySem.Value.int (0 : Int) 0), (PySem.Value.int (0 : Int) 0), (PySem.Value.int (3 : Int) 0), (kR 188), (PySem.Value.bool true), (PySem.Value.int (181 : Int) 0), (kR 189), kN, kN, kN, (kR 190), (PySem.Value.int (435 : Int) 0), (PySem.Value.int (128 : Int) 0), (kZ (kS "/claim/cut.py") 436)]) #[]))::
  (nat_lit 192, (kO (kY "function") none (PySem.Data.func (PySem.W.fnOf (kS "_law_told") (kS "_law_told") (aI bf) (aB bf) (ae bf) kN kN kN (kZ (kS "law_evenhall_k16_sums_by_months") 318) none (kR 191) kN)) #[]))::
  (nat_lit 193, (kO (kY "tuple") none (PySem.Data.seq #[] 0) #[]))::
  (nat_lit 196, (kO (kY "code") none (PySem.Data.fields #[(kZ (kS "law") 438), (kZ (kS "law") 439), (kZ (kS "/claim/cut.py") 440), (PySem.Value.int (143 : Int) 0), (PySem.Value.int (1 : Int) 0), (PySem.Value.int (0 : Int) 0), (PySem.Value.int (0 : Int) 0), (PySem.Value.int (3 : Int) 0), (kR 193), (PySem.Value.bool true), (PySem.Value.int (181 : Int) 0), (kR 194), kN, kN, kN, (kR 195), (PySem.Value.int (441 : Int) 0), (PySem.Value.int (143 : Int) 0), (kZ (kS "/claim/cut.py") 442)]) #[]))::
  (nat_lit 197, (kO (kY "function") none (PySem.Data.func (PySem.W.fnOf (kS "law") (kS "law") (aI bn) (aB bn) (ae bn) kN kN kN (kZ (kS "law_evenhall_k16_sums_by_months") 318) none (kR 196) kN)) #[])) :: []
def adrs : List Addr := [nat_lit 2, nat_lit 3, nat_lit 15, nat_lit 17, nat_lit 18, nat_lit 20, nat_lit 21, nat_lit 22, nat_lit 23, nat_lit 25, nat_lit 26, nat_lit 28, nat_lit 29, nat_lit 30, nat_lit 32, nat_lit 33, nat_lit 35, nat_lit 36, nat_lit 37, nat_lit 39, nat_lit 40, nat_lit 42, nat_lit 43, nat_lit 44, nat_lit 46, nat_lit 47, nat_lit 49, nat_lit 50, nat_lit 58, nat_lit 60, nat_lit 61, nat_lit 63, nat_lit 64, nat_lit 65, nat_lit 67, nat_lit 68, nat_lit 70, nat_lit 71, nat_lit 72, nat_lit 74, nat_lit 75, nat_lit 77, nat_lit 78, nat_lit 79, nat_lit 82, nat_lit 83, nat_lit 84, nat_lit 87, nat_lit 88, nat_lit 89, nat_lit 92, nat_lit 93, nat_lit 94, nat_lit 96, nat_lit 97, nat_lit 99, nat_lit 100, nat_lit 101, nat_lit 102, nat_lit 103, nat_lit 104, nat_lit 105, nat_lit 108, nat_lit 110, nat_lit 111, nat_lit 113, nat_lit 114, nat_lit 115, nat_lit 117, nat_lit 118, nat_lit 120, nat_lit 121, nat_lit 122, nat_lit 124, nat_lit 125, nat_lit 127, nat_lit 128, nat_lit 129, nat_lit 132, nat_lit 133, nat_lit 134, nat_lit 136, nat_lit 137, nat_lit 139, nat_lit 140, nat_lit 141, nat_lit 144, nat_lit 145, nat_lit 146, nat_lit 148, nat_lit 149, nat_lit 151, nat_lit 152, nat_lit 153, nat_lit 155, nat_lit 156, nat_lit 158, nat_lit 159, nat_lit 160, nat_lit 162, nat_lit 163, nat_lit 165, nat_lit 166, nat_lit 167, nat_lit 169, nat_lit 170, nat_lit 172, nat_lit 173, nat_lit 174, nat_lit 176, nat_lit 177, nat_lit 179, nat_lit 180, nat_lit 181, nat_lit 183, nat_lit 184, nat_lit 186, nat_lit 187, nat_lit 188, nat_lit 191, nat_lit 192, nat_lit 193, nat_lit 196, nat_lit 197]
theorem adrs_eq (P : Params) : adrs = (frag P).map (·.1) := by kernel_rfl
def vw : Program := PySem.W.view PySem.Challenge.pw_evenhall_k16_sums_by_months [0, 2, 3, 4, 5, 6, 8, 10, 11, 12, 13, 14, 15, 16, 17, 18, 19, 20, 21, 22, 23]
open PySem.W in
noncomputable def tree0 (P : Params) : BT := (.node (boot_o_0 P) (.node (boot_o_1 P) (.node (boot_o_3 P) (.node (boot_o_7 P) .nil .nil) .nil) (.node (boot_o_5 P) (.node (boot_o_9 P) .nil .nil) .nil)) (.node (boot_o_2 P) (.node (boot_o_4 P) (.node (boot_o_8 P) .nil .nil) .nil) (.node (boot_o_6 P) (.node (boot_o_10 P) .nil .nil) .nil)))
open PySem.W PyProof.Rows in
noncomputable def run (w : World) (os : OsState) := (TR.go PySem.Challenge.pw_evenhall_k16_sums_by_months w 11 (some (.ref 6)) 2182 ⟨tree0 w.params, 11, (boot_heap w.params).life, Array.mk [], boot_drawn, boot_toks, os⟩ (topStub PySem.Challenge.pw_evenhall_k16_sums_by_months)).map fun x => (TR.look PySem.Challenge.pw_evenhall_k16_sums_by_months w.params x.abs, openSeen vw [] (importedModules PySem.Challenge.pw_evenhall_k16_sums_by_months.main.body) (fun s => PySem.W.xlAt vw [] s && PySem.W.recOk (PySem.W.RowW.records (PySem.W.OpenRow.toRowW (PySem.W.OpenLaw.row PySem.Challenge.rw_evenhall_k16_sums_by_months))) s) true x.abs, adrs.map x.abs.heap.get?)
noncomputable def good (x : List (Option Obj)) (_ : OsState) := some (true, PySem.W.openGood vw [], x)
set_option maxRecDepth 100000 in
set_option maxHeartbeats 0 in
lay_quick K16.run
set_option maxRecDepth 100000 in
set_option maxHeartbeats 0 in
lay_quick K16.good
set_option maxRecDepth 100000 in
set_option maxHeartbeats 0 in
theorem left : PySem.W.LeftO PySem.Challenge.pw_evenhall_k16_sums_by_months vw [] (fun s => PySem.W.xlAt vw [] s && PySem.W.recOk (PySem.W.RowW.records (PySem.W.OpenRow.toRowW (PySem.W.OpenLaw.row PySem.Challenge.rw_evenhall_k16_sums_by_months))) s) (PySem.W.kHook frag adrs adrs_eq).obs (PySem.W.kHook frag adrs adrs_eq).val 2182 :=
  TR.left (lo := 11) (an := some (.ref 6)) (tr := tree0) (PySem.W.boot_open (by kernel_rfl) (by decide) (fun s => by kernel_rfl)) (fun P => by kernel_rfl) (fun P => by kernel_rfl) fun w =>
    (congrFun PySem.W.Fast.te5521069809488773295 w).trans ((show PySem.W.Fast.tw5521069809488773295 w = PySem.W.Fast.tw1044807466362435545 ((frag w.params).map fun p => some p.2) by kernel_rfl).trans (congrFun PySem.W.Fast.te1044807466362435545 _).symm)
end K16
set_option Elab.async false
set_option linter.all false
set_option maxRecDepth 100000
namespace L2
open PySem PySem.Spec PyProof.Rows
abbrev Key := Sum Int Str
def jh : Key → Value → Bool
  | .inl k, v => Value.isInt k v
  | .inr x, v => Value.isStrOf x v
def yd (w : World) : Key → Int
  | .inl k => hashInt k
  | .inr x => hashStr w x
theorem bK : ∀ {k : Key} {v : Value}, jh k v = true → (∃ i t, k = Sum.inl i ∧ v = Value.int i t) ∨ (∃ x t, k = Sum.inr x ∧ v = Value.str x t)
  | .inl i, v, h => by
    obtain ⟨t, e⟩ := Value.isInt_shape (k := i) (v := v) h
    exact .inl ⟨i, t, rfl, e⟩
  | .inr x, v, h => by
    obtain ⟨t, e⟩ := Value.isStrOf_shape (x := x) (v := v) h
    exact .inr ⟨x, t, rfl, e⟩
theorem pI (i : Int) (t : Tok) : jh (.inl i) (.int i t) = true := by simp [jh, Value.isInt]
theorem pE (x : Str) (t : Tok) : jh (.inr x) (.str x t) = true := by simp [jh, Value.isStrOf]
theorem v9 (a b : Int) : decide ((Sum.inl a : Key) = Sum.inl b) = (a == b) := by
  by_cases e : a = b
  · subst e; simp
  · have h : ¬ (Sum.inl a : Key) = Sum.inl b := fun q => e (Sum.inl.inj q)
    rw [decide_eq_false h]
    exact (beq_eq_false_iff_ne.mpr e).symm
theorem uS (a b : Str) : decide ((Sum.inr a : Key) = Sum.inr b) = decide (a = b) := by
  by_cases e : a = b
  · subst e; simp
  · have h : ¬ (Sum.inr a : Key) = Sum.inr b := fun q => e (Sum.inr.inj q)
    rw [decide_eq_false h, decide_eq_false e]
theorem uH (a : Int) (b : Str) : decide ((Sum.inl a : Key) = Sum.inr b) = false := decide_eq_false (fun q => nomatch q)
theorem uV (a : Str) (b : Int) : decide ((Sum.inr a : Key) = Sum.inl b) = false := decide_eq_false (fun q => nomatch q)
def bM (prog : Program) (w : World) : PySem.KeyKind prog w Key where
  is := jh
  hash := yd w
  inj := fun v a b ha hb => by
    rcases bK ha with ⟨i, t, rfl, rfl⟩ | ⟨x, t, rfl, rfl⟩
    · rcases bK hb with ⟨j, u, rfl, e⟩ | ⟨y, u, rfl, e⟩
      · injection e with e1 _; rw [e1]
      · exact nomatch e
    · rcases bK hb with ⟨j, u, rfl, e⟩ | ⟨y, u, rfl, e⟩
      · exact nomatch e
      · injection e with e1 _; rw [e1]
  byValue := fun k v h => by
    rcases bK h with ⟨i, t, rfl, rfl⟩ | ⟨x, t, rfl, rfl⟩ <;> rfl
  pyHash := fun hv h => by
    rcases bK hv with ⟨i, t, rfl, rfl⟩ | ⟨x, t, rfl, rfl⟩
    · exact wpAny_pyHash_int h
    · exact wpAny_pyHash_str h
  eqBool := fun hu hv h => by
    rcases bK hu with ⟨i, t, rfl, rfl⟩ | ⟨x, t, rfl, rfl⟩
    · rcases bK hv with ⟨j, u, rfl, rfl⟩ | ⟨y, u, rfl, rfl⟩
      · rw [v9] at h; exact wpAny_eqBool_int h
      · rw [uH] at h; exact SeqAt.EqAt.int_str i t y u _ _ _ _ h
    · rcases bK hv with ⟨j, u, rfl, rfl⟩ | ⟨y, u, rfl, rfl⟩
      · rw [uV] at h; exact SeqAt.EqAt.str_int x t j u _ _ _ _ h
      · rw [uS] at h; exact wpAny_eqBool_str h
  «strs» := fun k x t v h => by
    rcases bK h with ⟨i, u, rfl, e⟩ | ⟨y, u, rfl, e⟩
    · exact nomatch e
    · injection e with e1 _
      subst e1
      cases v <;> rfl
theorem kL (prog : Program) (w : World) (i : Int) (t : Tok) : (bM prog w).is (.inl i) (.int i t) = true := pI i t
theorem mn (prog : Program) (w : World) (x : Str) (t : Tok) : (bM prog w).is (.inr x) (.str x t) = true := pE x t
end L2
namespace L2
open PySem PySem.Spec PyProof.Rows
inductive V where
  | non | bl (b : Bool) | int (i : Int) | str (x : Str) | byt (b : Array UInt8) | flt (b : UInt64) | ref (a : Addr) | ty (n : String)
  deriving DecidableEq
def RelV : V → Value → Prop
  | .non, u => u = Value.none
  | .bl b, u => u = Value.bool b
  | .int i, u => ∃ t, u = Value.int i t
  | .str x, u => ∃ t, u = Value.str x t
  | .byt b, u => ∃ t, u = Value.bytes b t
  | .flt b, u => ∃ t, u = Value.float b t
  | .ref a, u => u = Value.ref a
  | .ty n, u => u = Value.type n
abbrev Vals : List V → List Value → Prop := Paired RelV
theorem Vals.length {xs : List V} {us : List Value} (r : Vals xs us) : xs.length = us.length := Paired.length r
theorem Vals.get : ∀ {xs : List V} {us : List Value} {i : Nat} {x : V}, Vals xs us → xs[i]? = some x → ∃ u, us[i]? = some u ∧ RelV x u
  | _, _, _, _, .nil, e => by simp at e
  | _, _, 0, _, .cons r _, e => by simp at e; subst e; exact ⟨_, rfl, r⟩
  | _, _, i + 1, x, .cons _ t, e => by
    obtain ⟨u, h1, h2⟩ := Vals.get (i := i) (x := x) t (by simpa using e)
    exact ⟨u, by simpa using h1, h2⟩
theorem Vals.set {x : V} {u : Value} (r : RelV x u) : ∀ {xs : List V} {us : List Value} (i : Nat), Vals xs us → Vals (xs.set i x) (us.set i u)
  | _, _, _, .nil => .nil
  | _, _, 0, .cons _ t => .cons r t
  | _, _, i + 1, .cons q t => .cons q (Vals.set r i t)
theorem Vals.append : ∀ {xs ys : List V} {us ws : List Value}, Vals xs us → Vals ys ws → Vals (xs ++ ys) (us ++ ws)
  | _, _, _, _, .nil, s => s
  | _, _, _, _, .cons r t, s => .cons r (Vals.append t s)
theorem Vals.take : ∀ {xs : List V} {us : List Value} (n : Nat), Vals xs us → Vals (xs.take n) (us.take n)
  | _, _, 0, _ => .nil
  | _, _, _ + 1, .nil => .nil
  | _, _, n + 1, .cons r t => .cons r (Vals.take n t)
theorem Vals.drop : ∀ {xs : List V} {us : List Value} (n : Nat), Vals xs us → Vals (xs.drop n) (us.drop n)
  | _, _, 0, r => r
  | _, _, _ + 1, .nil => .nil
  | _, _, n + 1, .cons _ t => Vals.drop n t
def RelO : Option V → Option Value → Prop
  | some v, some u => RelV v u
  | none, none => True
  | _, _ => False
def KV {κ : Type} : List (κ × V) → List (κ × Value) → Prop := Paired fun (p : κ × V) (q : κ × Value) => p.1 = q.1 ∧ RelV p.2 q.2
def kV : Key → V
  | .inl i => .int i
  | .inr x => .str x
inductive HO where
  | lst (xs : List V)
  | tup (xs : List V)
  | dK (kvs : List (Key × V)) | dT (kvs : List (List Key × V))
  | set (S : Int → Bool) (n : Nat)
  | ins (C dx : Addr) (fs : List (Str × V))
  | own (x : Addr)
  | xd (fs : List (Str × V))
  | met (f x : Addr)
  | rng (lo hi : Int)
  | frz (o : Obj) (u : HO)
  | tbl (ps : Array Value)
  | ext (φ : Heap → Prop)
abbrev Hp := Addr → Option HO
def upd (H : Hp) (a : Addr) (o : HO) : Hp := fun b => if b = a then some o else H b
theorem ad {H : Hp} {a : Addr} {o : HO} : upd H a o a = some o := by unfold upd; rw [if_pos rfl]
theorem ai {H : Hp} {a b : Addr} {o : HO} (h : b ≠ a) : upd H a o b = H b := by unfold upd; rw [if_neg h]
theorem sj {H : Hp} {a : Addr} {o u : HO} : upd (upd H a o) a u = upd H a u := by
  funext b; unfold upd; split <;> rfl
theorem hJ {H : Hp} {a b : Addr} {o u : HO} (h : H a = some o) (h' : H b = some u) (d : o ≠ u) : a ≠ b := by
  intro e; subst e; rw [h] at h'; exact d (Option.some.inj h')
theorem ak {H : Hp} {a b : Addr} {o : HO} (h : H a = some o) (h' : H b = none) : a ≠ b := by
  intro e; subst e; rw [h] at h'; cases h'
section
variable (P : Program) (w : World)
def ObjOk (H : Hp) (h : Heap) (a : Addr) : HO → Prop
  | .lst xs => xs.length ≤ sizeLine ∧ ∃ (its : List Value) (n : Nat), Vals xs its ∧ h.get? a = some { cls := .type "list", data := .seq its.toArray n }
  | .tup xs => xs.length ≤ sizeLine ∧ ∃ its : List Value, Vals xs its ∧ IsTup h a its.toArray
  | .dK kvs => kvs.length ≤ sizeLine ∧ (a == sysModules) = false ∧ ∃ vs, KV kvs vs ∧ h.DictOf (bM P w) a vs
  | .dT kvs => kvs.length ≤ sizeLine ∧ (a == sysModules) = false ∧ ∃ xs : List (List Key × Addr × Value),
      Paired (fun (p : List Key × V) (q : List Key × Addr × Value) => p.1 = q.1 ∧ H q.2.1 = some (.tup (p.1.map kV)) ∧ RelV p.2 q.2.2) kvs xs ∧
      ∃ o es ep, h.get? a = some o ∧ o.ExactDict ∧ o.data = .dict es ep ∧ es.toList = xs.map (entryOfKey (tupleKind (bM P w))) ∧ (xs.map (·.1)).Nodup
  | .set S n => h.SetOf (intKind P w) a S n
  | .ins C dx fs => H dx = some (.own a) ∧ fs.length ≤ 1000 ∧ dx ≠ a ∧ h.get? a = some (PySem.W.instObj C dx) ∧
      ∃ mA, h.Ns1 dx mA ∧ (∀ f, RelO (fs.lookup f) (mA f)) ∧ PySem.Within mA (fs.map (·.1))
  | .own _ => ∃ o, h.get? a = some o
  | .xd fs => ∃ mA, h.Ns1 a mA ∧ ∀ f, RelO (fs.lookup f) (mA f)
  | .rng lo hi => ∃ t u v, h.get? a = some { cls := .type "range", data := .fields #[.int lo t, .int hi u, .int 1 v] }
  | .frz o u => h.get? a = some o ∧ ObjOk H h a u
  | .tbl ps => h.get? a = some { cls := .none, data := .fields ps }
  | .met f x => h.get? a = some (PySem.W.methodObj (.ref f) (.ref x))
  | .ext φ => φ h ∧ (∃ o, h.get? a = some o) ∧ ∀ h1 h2 : Heap, φ h1 → (∀ o, h1.get? a = some o → h2.get? a = some o) → φ h2
def HOk (H : Hp) (h : Heap) : Prop := ∀ a o, H a = some o → ObjOk P w H h a o
end
section
variable {P : Program} {w : World} {H H' : Hp} {h h' : Heap} {a : Addr} {o : HO}
theorem ObjOk.lt (x : ObjOk P w H h a o) : a < h.objs.size := by
  cases o with
  | lst xs => obtain ⟨_, _, _, _, e⟩ := x; exact Heap.lt_size e
  | tup xs => obtain ⟨_, _, _, p⟩ := x; exact p.lt
  | dK kvs => obtain ⟨_, _, _, _, o, _, _, e, _⟩ := x; exact Heap.lt_size e
  | dT kvs => obtain ⟨_, _, _, _, o, _, _, e, _⟩ := x; exact Heap.lt_size e
  | set S n => obtain ⟨o, _, _, _, e, _⟩ := x; exact Heap.lt_size e
  | ins C dx fs => obtain ⟨_, _, _, e, _⟩ := x; exact Heap.lt_size e
  | own y => obtain ⟨_, e⟩ := x; exact Heap.lt_size e
  | xd fs => obtain ⟨_, ⟨_, _, _, e, _⟩, _⟩ := x; exact Heap.lt_size e
  | rng lo hi => obtain ⟨_, _, _, e⟩ := x; exact Heap.lt_size e
  | frz ob u => obtain ⟨e, _⟩ := x; exact Heap.lt_size e
  | tbl ps => exact Heap.lt_size (show h.get? a = some _ from x)
  | met f y => exact Heap.lt_size (show h.get? a = some _ from x)
  | ext φ => obtain ⟨_, ⟨_, e⟩, _⟩ := x; exact Heap.lt_size e
theorem Paired.mapP {α β : Type} {F G : α → β → Prop} : ∀ {l₁ : List α} {l₂ : List β}, Paired F l₁ l₂ → (∀ a b, F a b → G a b) → Paired G l₁ l₂
  | _, _, .nil, _ => .nil
  | _, _, .cons r t, f => .cons (f _ _ r) (Paired.mapP t f)
theorem ObjOk.stay (x : ObjOk P w H h a o) (k : ∀ b u, (b = a ∨ H b = some (.own a)) → h.get? b = some u → h'.get? b = some u)
    (ho : ∀ b, H b = some (.own a) → H' b = some (.own a)) (ht : ∀ b xs, H b = some (.tup xs) → H' b = some (.tup xs)) : ObjOk P w H' h' a o := by
  induction o with
  | lst xs => obtain ⟨z, its, n, r, e⟩ := x; exact ⟨z, its, n, r, k _ _ (.inl rfl) e⟩
  | tup xs => obtain ⟨z, its, r, ob, e, c⟩ := x; exact ⟨z, its, r, ob, k _ _ (.inl rfl) e, c⟩
  | dK kvs => obtain ⟨z, y, vs, r, ob, es, ep, e, c⟩ := x; exact ⟨z, y, vs, r, ob, es, ep, k _ _ (.inl rfl) e, c⟩
  | dT kvs =>
    obtain ⟨z, y, xs, r, ob, es, ep, e, c⟩ := x
    exact ⟨z, y, xs, Paired.mapP r fun p q z => ⟨z.1, ht _ _ z.2.1, z.2.2⟩, ob, es, ep, k _ _ (.inl rfl) e, c⟩
  | set S n => obtain ⟨ob, es, ep, t, e, c⟩ := x; exact ⟨ob, es, ep, t, k _ _ (.inl rfl) e, c⟩
  | ins C dx fs =>
    obtain ⟨d, z, ne, e, mA, ⟨od, es, ep, e2, c⟩, r⟩ := x
    exact ⟨ho _ d, z, ne, k _ _ (.inl rfl) e, mA, ⟨od, es, ep, k _ _ (.inr d) e2, c⟩, r⟩
  | own y => obtain ⟨ob, e⟩ := x; exact ⟨ob, k _ _ (.inl rfl) e⟩
  | xd fs => obtain ⟨mA, ⟨od, es, ep, e, c⟩, r⟩ := x; exact ⟨mA, ⟨od, es, ep, k _ _ (.inl rfl) e, c⟩, r⟩
  | rng lo hi => obtain ⟨t, u, v, e⟩ := x; exact ⟨t, u, v, k _ _ (.inl rfl) e⟩
  | frz ob u ih => obtain ⟨e, q⟩ := x; exact ⟨k _ _ (.inl rfl) e, ih q⟩
  | tbl ps =>
    have e : h.get? a = some { cls := .none, data := .fields ps } := x
    show h'.get? a = some { cls := .none, data := .fields ps }
    exact k a _ (.inl rfl) e
  | met f y =>
    have e : h.get? a = some (PySem.W.methodObj (.ref f) (.ref y)) := x
    show h'.get? a = some (PySem.W.methodObj (.ref f) (.ref y))
    exact k a _ (.inl rfl) e
  | ext φ => obtain ⟨p, ⟨o, e⟩, st⟩ := x; exact ⟨st _ _ p fun o q => k _ _ (.inl rfl) q, ⟨o, k _ _ (.inl rfl) e⟩, st⟩
theorem HOk.lt (x : HOk P w H h) (e : H a = some o) : a < h.objs.size := (x a o e).lt
theorem HOk.fresh (x : HOk P w H h) (e : h.objs.size ≤ a) : H a = none := by
  cases q : H a with
  | none => rfl
  | some u => exact absurd (Nat.lt_of_lt_of_le (x.lt q) e) (Nat.lt_irrefl _)
theorem HOk.kept (x : HOk P w H h) (k : ∀ b u, h.get? b = some u → h'.get? b = some u) : HOk P w H h' := fun a o e =>
  (x a o e).stay (fun b u _ q => k b u q) (fun _ q => q) fun _ _ q => q
theorem HOk.laid (x : HOk P w H h) (k : ∀ b u, h.get? b = some u → h'.get? b = some u) (hp : h.objs.size ≤ a) (new : ObjOk P w (upd H a o) h' a o) : HOk P w (upd H a o) h' := fun b u e => by
  have hn := x.fresh hp
  by_cases hb : b = a
  · subst hb; rw [ad] at e; cases e; exact new
  · rw [ai hb] at e
    exact (x b u e).stay (fun c v _ q => k c v q) (fun c q => by rw [ai (ak q hn)]; exact q) fun c xs q => by rw [ai (ak q hn)]; exact q
end
def Rd (H : Hp) (a : Addr) (u : HO) : Prop := H a = some u ∨ ∃ o, H a = some (.frz o u)
theorem Rd.ok {P : Program} {w : World} {H : Hp} {h : Heap} {a : Addr} {u : HO} (r : Rd H a u) (x : HOk P w H h) : ObjOk P w H h a u := by
  rcases r with r | ⟨o, r⟩
  · exact x a u r
  · obtain ⟨_, q⟩ := x a _ r
    exact q
def Mut : Option HO → Prop
  | some (.lst _) => True
  | some (.dK _) => True
  | some (.dT _) => True
  | some (.set _ _) => True
  | some (.ins _ _ _) => True
  | some (.ext _) => True
  | _ => False
section
variable {P : Program} {w : World} {H : Hp} {h h' : Heap} {x e : Addr} {o' : HO}
theorem HOk.write (ok : HOk P w H h) (mu : Mut (H x)) (he : e = x ∨ H e = some (.own x)) (k : ∀ b u, b ≠ e → h.get? b = some u → h'.get? b = some u) (heo : ∃ u, h'.get? e = some u)
    (new : ObjOk P w (upd H x o') h' x o') : HOk P w (upd H x o') h' := fun b u q => by
  have nown : ∀ c y, H c = some (.own y) → c ≠ x := fun c y r z => by subst z; rw [r] at mu; exact mu
  have ntup : ∀ c xs, H c = some (.tup xs) → c ≠ x := fun c xs r z => by subst z; rw [r] at mu; exact mu
  by_cases hb : b = x
  · subst hb; rw [ad] at q; cases q; exact new
  · rw [ai hb] at q
    by_cases hbe : b = e
    · have q' : H b = some (.own x) := by
        rcases he with z | z
        · exact absurd (hbe.trans z) hb
        · rw [hbe]; exact z
      rw [q] at q'; cases q'
      obtain ⟨v, hv⟩ := heo
      exact ⟨v, by rw [hbe]; exact hv⟩
    · refine (ok b u q).stay (fun c v hc r => k c v ?_ r) (fun c r => by rw [ai (nown c b r)]; exact r) fun c xs r => by rw [ai (ntup c xs r)]; exact r
      rcases hc with rfl | hc
      · exact hbe
      · rintro rfl
        rcases he with z | z
        · exact nown c b hc z
        · rw [hc] at z; cases z; exact hb rfl
end
structure Un (fs ex : List Addr) (H H' : Hp) (h h' : Heap) : Prop where
  keep : ∀ b o, h.get? b = some o → H b = none → b ∉ fs → b ∉ ex → h'.get? b = some o
  slot : ∀ b o, h.get? b = some o → H b = none → b ∈ fs → b ∉ ex → ∃ sl, h'.get? b = some { o with slots := sl }
  free : ∀ b o, h.get? b = some o → H b = none → b ∉ ex → H' b = none
  there : ∀ b o, h.get? b = some o → b ∉ ex → ∃ o', h'.get? b = some o'
  tups : ∀ b xs, H b = some (.tup xs) → H' b = some (.tup xs)
  frzs : ∀ b o u, H b = some (.frz o u) → H' b = some (.frz o u)
  tbls : ∀ b ps, H b = some (.tbl ps) → ∃ more, H' b = some (.tbl (ps ++ more))
section
variable {fs fs' ex ex' : List Addr} {H H1 H2 : Hp} {h h1 h2 h' : Heap} {a x e : Addr} {o : HO}
theorem Un.any (u : Un fs ex H H1 h h1) {b : Addr} {ob : Obj} (q : h.get? b = some ob) (n : H b = none) (hx : b ∉ ex) : ∃ sl, h1.get? b = some { ob with slots := sl } := by
  by_cases hb : b ∈ fs
  · exact u.slot b ob q n hb hx
  · exact ⟨ob.slots, u.keep b ob q n hb hx⟩
theorem Un.kept (k : ∀ b u, h.get? b = some u → h'.get? b = some u) : Un fs ex H H h h' :=
  ⟨fun b ob q _ _ _ => k b ob q, fun b ob q _ _ _ => ⟨ob.slots, k b ob q⟩, fun _ _ _ n _ => n, fun b ob q _ => ⟨ob, k b ob q⟩, fun _ _ q => q, fun _ _ _ q => q, fun _ ps q => ⟨#[], by rw [q]; simp⟩⟩
theorem Un.refl : Un fs ex H H h h := Un.kept fun _ _ q => q
theorem Un.laid (k : ∀ b u, h.get? b = some u → h'.get? b = some u) (hp : h.objs.size ≤ a) (hn : H a = none) : Un fs ex H (upd H a o) h h' where
  keep := fun b u q _ _ _ => k b u q
  slot := fun b u q _ _ _ => ⟨u.slots, k b u q⟩
  free := fun b u q n _ => by rw [ai (Nat.ne_of_lt (Nat.lt_of_lt_of_le (Heap.lt_size q) hp))]; exact n
  there := fun b u q _ => ⟨u, k b u q⟩
  tups := fun b xs q => by rw [ai (ak q hn)]; exact q
  frzs := fun b u xs q => by rw [ai (ak q hn)]; exact q
  tbls := fun b ps q => ⟨#[], by rw [ai (ak q hn), q]; simp⟩
theorem Un.write (mu : Mut (H x)) (he : e = x ∨ H e = some (.own x)) (k : ∀ b u, b ≠ e → h.get? b = some u → h'.get? b = some u) (heo : ∃ u, h'.get? e = some u) : Un fs ex H (upd H x o) h h' := by
  have hx : ∀ b, H b = none → b ≠ x := fun b n z => by subst z; rw [n] at mu; exact mu
  have hb : ∀ b, H b = none → b ≠ e := fun b n z => by
    subst z
    rcases he with r | r
    · exact hx b n r
    · rw [n] at r; cases r
  have hm : ∀ b u, H b = some u → ¬ Mut (some u) → b ≠ x := fun b u q nm z => by subst z; rw [q] at mu; exact nm mu
  refine ⟨fun b u q n _ _ => k b u (hb b n) q, fun b u q n _ _ => ⟨u.slots, k b u (hb b n) q⟩, fun b u q n _ => by rw [ai (hx b n)]; exact n, fun b u q _ => ?_,
    fun b xs q => by rw [ai (hm b _ q fun z => z)]; exact q, fun b u xs q => by rw [ai (hm b _ q fun z => z)]; exact q, fun b ps q => ⟨#[], by rw [ai (hm b _ q fun z => z), q]; simp⟩⟩
  by_cases hbe : b = e
  · subst hbe; exact heo
  · exact ⟨u, k b u hbe q⟩
end
def trk (h : Heap) (H : Hp) : List Addr := (List.range h.objs.size).filter fun a => (H a).isSome
def kx (h : Heap) (H : Hp) : Heap := PySem.W.hideAll h (trk h H)
theorem pq (h : Heap) (H : Hp) : (kx h H).objs.size = h.objs.size := PySem.W.hideAll_size _ _
theorem qa {h : Heap} {H : Hp} {b : Addr} {o : Obj} (e : h.get? b = some o) (n : H b = none) : (kx h H).get? b = some o :=
  PySem.W.hideAll_get _ e fun hm => by
    have q : (H b).isSome = true := (List.mem_filter.mp hm).2
    rw [n] at q; simp at q
theorem sI {h : Heap} {H : Hp} {b : Addr} {o : Obj} (e : (kx h H).get? b = some o) : h.get? b = some o ∧ H b = none := by
  have e' : h.get? b = some o := PySem.W.of_hideAll (trk h H) e
  refine ⟨e', ?_⟩
  cases q : H b with
  | none => rfl
  | some x =>
    have hm : b ∈ trk h H := List.mem_filter.mpr ⟨List.mem_range.mpr (Heap.lt_size e'), by simp [q]⟩
    have z : (kx h H).get? b = none := PySem.W.hideAll_none (trk h H) hm
    rw [z] at e; cases e
def sW (g h : Heap) (L : Addr) : List (Addr × Obj) := (List.range h.objs.size).filterMap fun a => if a = L ∨ (g.get? a).isSome = true then none else (h.get? a).map fun o => (a, o)
def rest (g h : Heap) (L d : Addr) : List (Addr × Obj) := (sW g h L).filter fun p => decide (p.1 ≠ d)
end L2
namespace L2
open PySem PySem.Spec PyProof.Rows
structure Mod (K : PySem.W.Frag) (mg : Str → Option Value) (base : Heap) : Prop where
  kin : K.In base
  glob : base.Ns mainGlobals mg
  blt : ∃ mb, base.Ns builtinsNs mb ∧ ∀ x : Str, x ≠ "__name__" → mb x = bootBuiltins x
  nolimit : base.NoLimit
structure Cx where
  prog : Program
  w : World
  K : PySem.W.Frag
  mg : Str → Option Value
  base : Heap
  A : Around
  N : List Str
  s₀ : Shared
  H₀ : Hp
  env : Env
  outer : List Env
  stack : List Env
  ex : List Addr
  fn : Str → Bool
  calm : Bool
  pn : List (Addr × Obj)
  xe : Value → Shared → Prop
def frs (l : List Env) : List Addr := l.filterMap (·.frame)
abbrev Cx.fs (X : Cx) : List Addr := frs X.outer
def Vis (sc : Scope) (x : Str) : Prop := sc.names.lookup x = some .local ∨ sc.names.lookup x = some .cell ∨ sc.names.lookup x = some .free
def Loc (sc : Scope) (x : Str) : Prop := sc.names.lookup x = some .local ∨ sc.names.lookup x = some .cell
def xY (env : Env) (h : Heap) (m : Str → Option Value) (x : Str) (u : Value) : Prop :=
  (env.kindOf x = some .local ∧ m x = some u) ∨ ((env.kindOf x = some .cell ∨ env.kindOf x = some .free) ∧ ∃ c, env.cells.lookup x = some c ∧ h.IsCell c (some u))
structure Cx.Ok (X : Cx) : Prop where
  mod : Mod X.K X.mg X.base
  kind : X.env.scope.kind = .function
  glob : X.env.globals = mainGlobals
  blt : X.env.builtins = builtinsNs
  above : X.s₀.heap.objs.size ≤ X.env.locals
  inj : ∀ x y c, X.env.cells.lookup x = some c → X.env.cells.lookup y = some c → x = y
  has : ∀ x, (X.env.kindOf x = some .cell ∨ X.env.kindOf x = some .free) → ∃ c, X.env.cells.lookup x = some c
  cab : ∀ x c, X.fn x = true → X.env.cells.lookup x = some c → X.s₀.heap.objs.size ≤ c
  hd : X.calm = true → X.A.handled = none
  frames : X.A.frames = some X.stack
  stk : X.stack = X.outer ∨ (X.stack = X.env :: X.outer ∧ X.env.frame = some X.env.locals)
  exf : ∀ b ∈ X.ex, b ≠ X.env.locals ∧ ∀ x c, X.env.cells.lookup x = some c → c ≠ b
  bs : ∀ b o, X.base.get? b = some o → X.s₀.heap.get? b = some o ∧ X.H₀ b = none
  bsz : X.base.objs.size ≤ X.s₀.heap.objs.size
  noex : ∀ b o, X.base.get? b = some o → b ∉ X.ex
  exfs : ∀ b ∈ X.ex, b ∉ X.fs
  funs : X.s₀.heap.FunFrames X.base X.outer
  frf : ∀ b ∈ X.fs, X.H₀ b = none
structure Inv (X : Cx) (pins : List (Addr × Obj)) (σ : List (Option V)) (H : Hp) (s : Shared) : Prop where
  ok : X.Ok
  os : s.os = X.s₀.os
  bare : AllBare s.gens
  base : Un X.fs X.ex X.H₀ H X.s₀.heap s.heap
  loc : ∃ m, s.heap.Ns X.env.locals m ∧ ∀ (i : Nat) (x : Str) (v : V), X.N[i]? = some x → σ[i]? = some (some v) → Vis X.env.scope x → ∃ u, RelV v u ∧ xY X.env s.heap m x u
  cell : ∀ x c, X.env.cells.lookup x = some c → ∃ v, s.heap.IsCell c v
  free : H X.env.locals = none
  freeC : ∀ x c, X.env.cells.lookup x = some c → H c = none
  pin : ∀ p ∈ X.pn ++ pins, s.heap.get? p.1 = some p.2 ∧ H p.1 = none ∧ p.1 ≠ X.env.locals ∧ p.1 ∉ X.fs ∧ ∀ v, p.2.data ≠ .cell v
  hok : HOk X.prog X.w H s.heap
  len : σ.length = X.N.length
section
variable {X : Cx} {pins : List (Addr × Obj)} {σ : List (Option V)} {H H' : Hp} {s : Shared} {h' : Heap}
theorem Cx.Ok.nofr (ok : X.Ok) {b : Addr} {o : Obj} (e : X.base.get? b = some o) : b ∉ X.fs := fun hb => by
  have := (ok.funs.mem hb).1
  rw [e] at this; cases this
theorem Inv.bs (I : Inv X pins σ H s) : ∀ b o, X.base.get? b = some o → s.heap.get? b = some o ∧ H b = none := fun b o e =>
  ⟨I.base.keep b o (I.ok.bs b o e).1 (I.ok.bs b o e).2 (I.ok.nofr e) (I.ok.noex b o e), I.base.free b o (I.ok.bs b o e).1 (I.ok.bs b o e).2 (I.ok.noex b o e)⟩
theorem Inv.bk (I : Inv X pins σ H s) : ∀ b o, X.base.get? b = some o → s.heap.get? b = some o := fun b o e => (I.bs b o e).1
theorem Inv.mod (I : Inv X pins σ H s) : Mod X.K X.mg X.base := I.ok.mod
theorem Inv.kIn (I : Inv X pins σ H s) : X.K.In s.heap := I.ok.mod.kin.keeps I.bk
theorem Inv.lt (I : Inv X pins σ H s) : X.env.locals < s.heap.objs.size := let ⟨_, hn, _⟩ := I.loc; hn.lt
theorem Inv.sz (I : Inv X pins σ H s) : X.s₀.heap.objs.size ≤ s.heap.objs.size := Nat.le_trans I.ok.above (Nat.le_of_lt I.lt)
theorem Inv.nofs (I : Inv X pins σ H s) {a : Addr} (h : s.heap.objs.size ≤ a) : a ∉ X.fs := fun hb => by
  obtain ⟨_, o, ho, _⟩ := I.ok.funs.mem hb
  exact absurd (Nat.lt_of_lt_of_le (Heap.lt_size ho) (Nat.le_trans I.sz h)) (Nat.lt_irrefl _)
theorem Inv.cne (I : Inv X pins σ H s) : ∀ x c, X.env.cells.lookup x = some c → c ≠ X.env.locals := fun x c e z => by
  obtain ⟨v, o, ho, hd⟩ := I.cell x c e
  obtain ⟨m, ⟨o', es, ep, ho', hd', _⟩, _⟩ := I.loc
  rw [z, ho'] at ho; cases ho; rw [hd'] at hd; cases hd
theorem Inv.funs (I : Inv X pins σ H s) : s.heap.FunFrames X.base X.outer := by
  have all : ∀ (l : List Env), (∀ b ∈ frs l, b ∈ X.fs) → X.s₀.heap.FunFrames X.base l → s.heap.FunFrames X.base l := by
    intro l
    induction l with
    | nil => intro _ _; trivial
    | cons env r ih =>
      intro hs hl
      obtain ⟨hk, ⟨L, o, hf, hn, ho, hd⟩, hr⟩ := hl
      have hL : L ∈ X.fs := hs L (by unfold frs; rw [List.filterMap_cons, hf]; exact List.mem_cons_self)
      obtain ⟨sl, e⟩ := I.base.slot L o ho (I.ok.frf L hL) hL fun z => I.ok.exfs L z hL
      exact ⟨hk, ⟨L, _, hf, hn, e, hd⟩, ih (fun b hb => hs b (by unfold frs; rw [List.filterMap_cons, hf]; exact List.mem_cons_of_mem _ hb)) hr⟩
  exact all X.outer (fun _ hb => hb) I.ok.funs
theorem Inv.stack (I : Inv X pins σ H s) : s.heap.FunFrames X.base X.stack := by
  rcases I.ok.stk with e | ⟨e, hf⟩
  · rw [e]; exact I.funs
  · rw [e]
    obtain ⟨m, hn, _⟩ := I.loc
    refine .cons (by rw [I.ok.kind]; decide) hf hn ?_ I.funs
    exact Heap.get?_none_of_le (Nat.le_trans I.ok.bsz I.ok.above)
theorem Inv.stkSub (I : Inv X pins σ H s) : ∀ b ∈ frs X.stack, b ∈ X.env.locals :: X.fs := fun b hb => by
  rcases I.ok.stk with e | ⟨e, hf⟩
  · rw [e] at hb; exact List.mem_cons_of_mem _ hb
  · rw [e] at hb
    unfold frs at hb
    rw [List.filterMap_cons, hf] at hb
    exact hb
theorem Inv.stkFree (I : Inv X pins σ H s) : ∀ b ∈ frs X.stack, H b = none := fun b hb => by
  rcases List.mem_cons.mp (I.stkSub b hb) with e | hb
  · rw [e]; exact I.free
  · obtain ⟨_, o, ho, _⟩ := I.ok.funs.mem hb
    exact I.base.free b o ho (I.ok.frf b hb) fun z => I.ok.exfs b z hb
theorem Inv.step {g' : Array GenState} {t' : Nat} {d' : Drawn} {ch : List Addr} (I : Inv X pins σ H s)
    (hch : ∀ b ∈ ch, (b ∈ X.ex ∨ X.s₀.heap.objs.size ≤ b) ∧ b ≠ X.env.locals ∧ (∀ x c, X.env.cells.lookup x = some c → c ≠ b) ∧ ∀ p ∈ X.pn ++ pins, p.1 ≠ b)
    (keep : ∀ b o, b ≠ X.env.locals → b ∉ X.fs → b ∉ ch → s.heap.get? b = some o → H b = none → h'.get? b = some o)
    (slot : ∀ b o, b ≠ X.env.locals → b ∈ X.fs → b ∉ ch → s.heap.get? b = some o → H b = none → ∃ sl, h'.get? b = some { o with slots := sl }) (free : ∀ b o, b ∉ ch → s.heap.get? b = some o → H b = none → H' b = none)
    (there : ∀ b o, b ∉ ch → s.heap.get? b = some o → ∃ o', h'.get? b = some o')
    (tups : ∀ b xs, H b = some (.tup xs) → H' b = some (.tup xs)) (frzs : ∀ b o u, H b = some (.frz o u) → H' b = some (.frz o u)) (tbls : ∀ b ps, H b = some (.tbl ps) → ∃ more, H' b = some (.tbl (ps ++ more)))
    (ns : ∀ m, s.heap.Ns X.env.locals m → h'.Ns X.env.locals m) (hok : HOk X.prog X.w H' h') (hg : AllBare g') :
    Inv X pins σ H' { s with heap := h', gens := g', drawn := d', toks := t' } := by
  have neL : ∀ b o, X.s₀.heap.get? b = some o → b ≠ X.env.locals := fun b o e => Nat.ne_of_lt (Nat.lt_of_lt_of_le (Heap.lt_size e) I.ok.above)
  have neC : ∀ b o, X.s₀.heap.get? b = some o → b ∉ X.ex → b ∉ ch := fun b o e hx hb => by
    rcases (hch b hb).1 with z | z
    · exact hx z
    · exact absurd (Nat.lt_of_lt_of_le (Heap.lt_size e) z) (Nat.lt_irrefl _)
  have cellK : ∀ x c, X.env.cells.lookup x = some c → ∀ v, s.heap.IsCell c v → h'.IsCell c v := fun x c e v ⟨o, ho, hd⟩ => by
    have nch : c ∉ ch := fun z => (hch c z).2.2.1 x c e rfl
    by_cases hc : c ∈ X.fs
    · obtain ⟨sl, q⟩ := slot c o (I.cne x c e) hc nch ho (I.freeC x c e)
      exact ⟨_, q, hd⟩
    · exact ⟨o, keep c o (I.cne x c e) hc nch ho (I.freeC x c e), hd⟩
  refine ⟨I.ok, I.os, hg, ⟨fun b o e n hb hx => ?_, fun b o e n hb hx => ?_, fun b o e n hx => ?_, fun b o e hx => ?_, fun b xs e => tups b xs (I.base.tups b xs e), fun b o xs e => frzs b o xs (I.base.frzs b o xs e), fun b ps e => ?_⟩, ?_, fun x c e => ?_, ?_, fun x c e => ?_, fun p hp => ?_, hok, I.len⟩
  · exact keep b o (neL b o e) hb (neC b o e hx) (I.base.keep b o e n hb hx) (I.base.free b o e n hx)
  · obtain ⟨sl, e1⟩ := I.base.slot b o e n hb hx
    obtain ⟨sl', e2⟩ := slot b _ (neL b o e) hb (neC b o e hx) e1 (I.base.free b o e n hx)
    exact ⟨sl', e2⟩
  · obtain ⟨o', e1⟩ := I.base.there b o e hx
    exact free b o' (neC b o e hx) e1 (I.base.free b o e n hx)
  · obtain ⟨o', e1⟩ := I.base.there b o e hx
    exact there b o' (neC b o e hx) e1
  · obtain ⟨m1, e1⟩ := I.base.tbls b ps e
    obtain ⟨m2, e2⟩ := tbls b _ e1
    exact ⟨m1 ++ m2, by rw [e2, Array.append_assoc]⟩
  · obtain ⟨m, hn, hl⟩ := I.loc
    refine ⟨m, ns m hn, fun i x v e1 e2 e3 => ?_⟩
    obtain ⟨u, r, l⟩ := hl i x v e1 e2 e3
    refine ⟨u, r, ?_⟩
    rcases l with l | ⟨k, c, e, z⟩
    · exact .inl l
    · exact .inr ⟨k, c, e, cellK x c e _ z⟩
  · obtain ⟨v, z⟩ := I.cell x c e
    exact ⟨v, cellK x c e v z⟩
  · obtain ⟨m, ⟨o, _, _, ho, _⟩, _⟩ := I.loc
    exact free _ o (fun z => (hch _ z).2.1 rfl) ho I.free
  · obtain ⟨v, o, ho, hd⟩ := I.cell x c e
    exact free c o (fun z => (hch c z).2.2.1 x c e rfl) ho (I.freeC x c e)
  · obtain ⟨e, n, ne, nf, d⟩ := I.pin p hp
    have nch : p.1 ∉ ch := fun z => (hch p.1 z).2.2.2 p hp rfl
    exact ⟨keep p.1 p.2 ne nf nch e n, free p.1 p.2 nch e n, ne, nf, d⟩
theorem Inv.un {t' : Nat} (I : Inv X pins σ H s) (u : Un X.fs [] H H' s.heap h') (hok : HOk X.prog X.w H' h') : Inv X pins σ H' { s with heap := h', toks := t' } := by
  obtain ⟨m, ⟨o, es, ep, ho, r⟩, _⟩ := id I.loc
  obtain ⟨sl, hL⟩ := u.any ho I.free (by simp)
  exact I.step (g' := s.gens) (d' := s.drawn) (ch := []) (fun _ z => nomatch z) (fun b o _ hb _ e n => u.keep b o e n hb (by simp)) (fun b o _ hb _ e n => u.slot b o e n hb (by simp)) (fun b o _ e n => u.free b o e n (by simp)) (fun b o _ e => u.there b o e (by simp)) u.tups u.frzs u.tbls (fun m' hm => by
    obtain ⟨o', es', ep', ho', r'⟩ := hm
    rw [ho] at ho'; cases ho'
    exact ⟨_, es', ep', hL, r'⟩) hok I.bare
theorem Inv.call {g' : Array GenState} {t' : Nat} {d' : Drawn} {ch : List Addr} (I : Inv X pins σ H s) (u : Un (frs X.stack) ch H H' s.heap h') (hok : HOk X.prog X.w H' h') (hg : AllBare g')
    (hch : ∀ b ∈ ch, (b ∈ X.ex ∨ X.s₀.heap.objs.size ≤ b) ∧ b ≠ X.env.locals ∧ (∀ x c, X.env.cells.lookup x = some c → c ≠ b) ∧ ∀ p ∈ X.pn ++ pins, p.1 ≠ b) :
    Inv X pins σ H' { s with heap := h', gens := g', drawn := d', toks := t' } := by
  obtain ⟨m, ⟨o, es, ep, ho, r⟩, _⟩ := id I.loc
  obtain ⟨sl, hL⟩ := u.any ho I.free fun z => (hch _ z).2.1 rfl
  exact I.step (ch := ch) hch (fun b o hL hb hc e n => u.keep b o e n (fun z => (List.mem_cons.mp (I.stkSub b z)).elim hL hb) hc) (fun b o _ _ hc e n => u.any e n hc) (fun b o hc e n => u.free b o e n hc) (fun b o hc e => u.there b o e hc) u.tups u.frzs u.tbls (fun m' hm => by
    obtain ⟨o', es', ep', ho', r'⟩ := hm
    rw [ho] at ho'; cases ho'
    exact ⟨_, es', ep', hL, r'⟩) hok hg
theorem Inv.turned {t' : Nat} {it : Addr} (I : Inv X pins σ H s) (k : ∀ b o, b ≠ it → s.heap.get? b = some o → h'.get? b = some o) (hn : H it = none) (hL : it ≠ X.env.locals)
    (h1 : it ∈ X.ex ∨ X.s₀.heap.objs.size ≤ it) (h2 : ∀ x c, X.env.cells.lookup x = some c → c ≠ it) (h3 : ∀ p ∈ X.pn ++ pins, p.1 ≠ it) : Inv X pins σ H { s with heap := h', toks := t' } := by
  have nit : ∀ b u, H b = some u → b ≠ it := fun b u e z => by rw [z, hn] at e; cases e
  refine I.step (g' := s.gens) (d' := s.drawn) (ch := [it]) (fun b hb => ?_) (fun b o _ _ hc e _ => k b o (fun z => hc (by simp [z])) e) (fun b o _ _ hc e _ => ⟨o.slots, k b o (fun z => hc (by simp [z])) e⟩) (fun _ _ _ _ n => n)
    (fun b o hc e => ⟨o, k b o (fun z => hc (by simp [z])) e⟩) (fun _ _ e => e) (fun _ _ _ e => e) (fun b ps e => ⟨#[], by rw [e]; simp⟩) (fun m hm => ?_) (fun b u e => ?_) I.bare
  · have e : b = it := by simpa using hb
    subst e
    exact ⟨h1, hL, h2, h3⟩
  · obtain ⟨o, es, ep, ho, r⟩ := hm
    exact ⟨o, es, ep, k _ o (Ne.symm hL) ho, r⟩
  · refine (I.hok b u e).stay (fun c v hc q => k c v ?_ q) (fun _ q => q) fun _ _ q => q
    rcases hc with z | z
    · rw [z]; exact nit b u e
    · exact nit c _ z
theorem Inv.tok (I : Inv X pins σ H s) (t : Nat) : Inv X pins σ H { s with toks := t } := I.un (h' := s.heap) (t' := t) Un.refl I.hok
theorem Inv.kept {t' : Nat} (I : Inv X pins σ H s) (k : ∀ b u, s.heap.get? b = some u → h'.get? b = some u) : Inv X pins σ H { s with heap := h', toks := t' } := I.un (Un.kept k) (I.hok.kept k)
theorem Inv.laid {a : Addr} {o : HO} {t' : Nat} (I : Inv X pins σ H s) (k : ∀ b u, s.heap.get? b = some u → h'.get? b = some u) (hp : s.heap.objs.size ≤ a) (new : ObjOk X.prog X.w (upd H a o) h' a o) :
    Inv X pins σ (upd H a o) { s with heap := h', toks := t' } := I.un (Un.laid k hp (I.hok.fresh hp)) (I.hok.laid k hp new)
theorem Inv.write {x e : Addr} {o : HO} {t' : Nat} (I : Inv X pins σ H s) (mu : Mut (H x)) (he : e = x ∨ H e = some (.own x)) (k : ∀ b u, b ≠ e → s.heap.get? b = some u → h'.get? b = some u) (heo : ∃ u, h'.get? e = some u)
    (new : ObjOk X.prog X.w (upd H x o) h' x o) : Inv X pins σ (upd H x o) { s with heap := h', toks := t' } := I.un (Un.write mu he k heo) (I.hok.write mu he k heo new)
theorem Inv.pins_of {pins' : List (Addr × Obj)} (I : Inv X pins σ H s) (h : ∀ p ∈ pins', s.heap.get? p.1 = some p.2 ∧ H p.1 = none ∧ p.1 ≠ X.env.locals ∧ p.1 ∉ X.fs ∧ ∀ v, p.2.data ≠ .cell v) : Inv X pins' σ H s :=
  ⟨I.ok, I.os, I.bare, I.base, I.loc, I.cell, I.free, I.freeC, fun p hp => (List.mem_append.mp hp).elim (fun z => I.pin p (List.mem_append_left _ z)) (h p), I.hok, I.len⟩
theorem lG {N : List Str} (hN : N.Nodup) {i j : Nat} {x : Str} (a : N[i]? = some x) (b : N[j]? = some x) : i = j := by
  obtain ⟨h1, e1⟩ := List.getElem?_eq_some_iff.mp a
  obtain ⟨h2, e2⟩ := List.getElem?_eq_some_iff.mp b
  exact (List.getElem_inj hN).mp (e1.trans e2.symm)
theorem jm {M : Model} {A : Around} {E : Value → Shared → Prop} {i : Nat} {x : Str} {v : V} {u : Value} {Q : Unit → Shared → Prop} (I : Inv X pins σ H s) (hN : X.N.Nodup) (hi : X.N[i]? = some x) (hx : Loc X.env.scope x) (r : RelV v u)
    (h : ∀ s', Inv X pins (σ.set i (some v)) H s' → (∃ a, Heap.SameBut a s.heap s'.heap ∧ (a = X.env.locals ∨ X.env.cells.lookup x = some a)) → Q () s') (hf : X.fn x = true ∨ X.env.scope.names.lookup x = some .local := by first | exact .inl rfl | exact .inr rfl | assumption) : wpAny M A (storeName X.env x u) Q E s := by
  obtain ⟨m, hn, hl⟩ := id I.loc
  have hcls : (X.env.scope.kind == .class || (X.env.scope.kind == .module && X.env.locals != X.env.globals)) = false := by rw [I.ok.kind]; rfl
  have hiσ : i < σ.length := by rw [I.len]; exact (List.getElem?_eq_some_iff.mp hi).1
  have cne := I.cne
  have tracked : ∀ {a : Addr} {h' : Heap}, (∃ o, s.heap.get? a = some o ∧ H a = none) → Heap.SameBut a s.heap h' → HOk X.prog X.w H h' := fun {a h'} ha hs b ob e => by
    obtain ⟨_, _, hfree⟩ := ha
    refine (I.hok b ob e).stay (fun c w' hc q => (hs.2 c ?_).trans q) (fun _ q => q) fun _ _ q => q
    rintro rfl
    rcases hc with rfl | hc
    · rw [hfree] at e; cases e
    · rw [hfree] at hc; cases hc
  rcases hx with hk | hk
  · refine wpAny_storeName_local hk hn (fun h' hn' hs => ?_) hcls
    obtain ⟨oL, _, _, hoL, _⟩ := id hn
    refine h _ ⟨I.ok, I.os, I.bare, ⟨fun b o e n hb hx => ?_, fun b o e n hb hx => ?_, I.base.free, fun b o e hx => ?_, I.base.tups, I.base.frzs, I.base.tbls⟩, ⟨_, hn', fun j y v' e1 e2 e3 => ?_⟩, fun y c e => ?_, I.free, I.freeC, fun p hp => ?_, tracked ⟨oL, hoL, I.free⟩ hs, by simpa using I.len⟩ ⟨_, hs, .inl rfl⟩
    · exact (hs.2 b (Nat.ne_of_lt (Nat.lt_of_lt_of_le (Heap.lt_size e) I.ok.above))).trans (I.base.keep b o e n hb hx)
    · obtain ⟨sl, e1⟩ := I.base.slot b o e n hb hx
      exact ⟨sl, (hs.2 b (Nat.ne_of_lt (Nat.lt_of_lt_of_le (Heap.lt_size e) I.ok.above))).trans e1⟩
    · obtain ⟨o', e1⟩ := I.base.there b o e hx
      exact ⟨o', (hs.2 b (Nat.ne_of_lt (Nat.lt_of_lt_of_le (Heap.lt_size e) I.ok.above))).trans e1⟩
    · by_cases hj : j = i
      · subst hj
        rw [hi] at e1; cases e1
        rw [List.getElem?_set_self hiσ] at e2
        cases e2
        exact ⟨u, r, .inl ⟨hk, by simp⟩⟩
      · rw [List.getElem?_set_ne (Ne.symm hj)] at e2
        obtain ⟨u', r', q⟩ := hl j y v' e1 e2 e3
        refine ⟨u', r', ?_⟩
        rcases q with ⟨k, e⟩ | ⟨k, c, e, z⟩
        · refine .inl ⟨k, ?_⟩
          have : y ≠ x := fun e => hj (lG hN e1 (e ▸ hi))
          simp [this, e]
        · exact .inr ⟨k, c, e, z.sameBut hs (cne y c e)⟩
    · obtain ⟨w', z⟩ := I.cell y c e
      exact ⟨w', z.sameBut hs (cne y c e)⟩
    · obtain ⟨e, n, ne, nf, d⟩ := I.pin p hp
      exact ⟨(hs.2 p.1 ne).trans e, n, ne, nf, d⟩
  · have hfn : X.fn x = true := by
      rcases hf with z | z
      · exact z
      · rw [z] at hk; cases hk
    obtain ⟨c, hc⟩ := I.ok.has x (.inl hk)
    obtain ⟨w', z⟩ := I.cell x c hc
    refine wpAny_storeName_cell I.ok.kind hk hc z (fun h' hc' hs => ?_)
    obtain ⟨oc, hoc, hocd⟩ := id z
    refine h { s with heap := h' } ⟨I.ok, I.os, I.bare, ⟨fun b o e n hb hx => ?_, fun b o e n hb hx => ?_, I.base.free, fun b o e hx => ?_, I.base.tups, I.base.frzs, I.base.tbls⟩, ⟨m, hn.sameBut hs (Ne.symm (cne x c hc)), fun j y v' e1 e2 e3 => ?_⟩, fun y c' e => ?_, I.free, I.freeC, fun p hp => ?_, tracked ⟨oc, hoc, I.freeC x c hc⟩ hs, by simpa using I.len⟩ ⟨c, hs, .inr hc⟩
    · exact (hs.2 b (Nat.ne_of_lt (Nat.lt_of_lt_of_le (Heap.lt_size e) (I.ok.cab x c hfn hc)))).trans (I.base.keep b o e n hb hx)
    · obtain ⟨sl, e1⟩ := I.base.slot b o e n hb hx
      exact ⟨sl, (hs.2 b (Nat.ne_of_lt (Nat.lt_of_lt_of_le (Heap.lt_size e) (I.ok.cab x c hfn hc)))).trans e1⟩
    · obtain ⟨o', e1⟩ := I.base.there b o e hx
      exact ⟨o', (hs.2 b (Nat.ne_of_lt (Nat.lt_of_lt_of_le (Heap.lt_size e) (I.ok.cab x c hfn hc)))).trans e1⟩
    · by_cases hj : j = i
      · subst hj
        rw [hi] at e1; cases e1
        rw [List.getElem?_set_self hiσ] at e2
        cases e2
        exact ⟨u, r, .inr ⟨.inl hk, c, hc, hc'⟩⟩
      · rw [List.getElem?_set_ne (Ne.symm hj)] at e2
        obtain ⟨u', r', q⟩ := hl j y v' e1 e2 e3
        refine ⟨u', r', ?_⟩
        rcases q with q | ⟨k, c', e, z'⟩
        · exact .inl q
        · refine .inr ⟨k, c', e, z'.sameBut hs ?_⟩
          rintro rfl
          exact hj (lG hN e1 (I.ok.inj _ _ _ e hc ▸ hi))
    · by_cases hcc : c' = c
      · subst hcc; exact ⟨_, hc'⟩
      · obtain ⟨w2, z2⟩ := I.cell y c' e
        exact ⟨w2, z2.sameBut hs hcc⟩
    · obtain ⟨e, n, ne, nf, d⟩ := I.pin p hp
      refine ⟨(hs.2 p.1 ?_).trans e, n, ne, nf, d⟩
      intro q
      rw [q, hoc] at e
      have q' : oc = p.2 := Option.some.inj e
      exact d w' (by rw [← q']; exact hocd)
theorem mh {M : Model} {A : Around} {E : Value → Shared → Prop} {i : Nat} {x : Str} {v : V} {u : Value} {Q : Unit → Shared → Prop} (I : Inv X pins σ H s) (hN : X.N.Nodup) (hi : X.N[i]? = some x) (hx : Loc X.env.scope x) (r : RelV v u)
    (h : ∀ s', Inv X pins (σ.set i (some v)) H s' → Q () s') (hf : X.fn x = true ∨ X.env.scope.names.lookup x = some .local := by first | exact .inl rfl | exact .inr rfl | assumption) : wpAny M A (storeName X.env x u) Q E s :=
  jm I hN hi hx r (fun s' I' _ => h s' I') hf
theorem Inv.call' {s' : Shared} {ch : List Addr} (I : Inv X pins σ H s) (ho : s'.os = s.os) (u : Un (frs X.stack) ch H H' s.heap s'.heap) (hok : HOk X.prog X.w H' s'.heap) (hg : AllBare s'.gens)
    (hch : ∀ b ∈ ch, (b ∈ X.ex ∨ X.s₀.heap.objs.size ≤ b) ∧ b ≠ X.env.locals ∧ (∀ x c, X.env.cells.lookup x = some c → c ≠ b) ∧ ∀ p ∈ X.pn ++ pins, p.1 ≠ b) : Inv X pins σ H' s' := by
  obtain ⟨h', g', d', t', o'⟩ := s'
  have e : o' = s.os := ho
  subst e
  exact I.call (g' := g') (t' := t') (d' := d') u hok hg hch
end
abbrev XK := Value → Option Addr → Hp → Prop
abbrev St := List (Option V)
abbrev VK := V → Hp → Prop
abbrev TE := St → Hp → VK → Prop
abbrev TT := St → Hp → (Bool → Hp → Prop) → Prop
abbrev TA := St → Hp → (List V → Hp → Prop) → Prop
structure d4 where
  nx : St → Hp → Prop
  rt : VK
  bk : St → Hp → Prop := fun _ _ => False
  ct : St → Hp → Prop := fun _ _ => False
abbrev TS := d4 → St → Hp → Prop
def EP (X : Cx) (pins : List (Addr × Obj)) (σ : St) (Q : VK) (u : Value) (s' : Shared) : Prop := ∃ v H', Inv X pins σ H' s' ∧ RelV v u ∧ Q v H'
def TP (X : Cx) (pins : List (Addr × Obj)) (σ : St) (Q : Bool → Hp → Prop) (b : Bool) (s' : Shared) : Prop := ∃ H', Inv X pins σ H' s' ∧ Q b H'
def AP (X : Cx) (pins : List (Addr × Obj)) (σ : St) (Q : List V → Hp → Prop) (us : List Value) (s' : Shared) : Prop := ∃ vs H', Inv X pins σ H' s' ∧ Vals vs us ∧ Q vs H'
def SP (X : Cx) (pins : List (Addr × Obj)) (D : d4) (f : Flow) (s' : Shared) : Prop :=
  match f with
  | .next => ∃ σ' H', Inv X pins σ' H' s' ∧ D.nx σ' H'
  | .brk => ∃ σ' H', Inv X pins σ' H' s' ∧ D.bk σ' H'
  | .cont => ∃ σ' H', Inv X pins σ' H' s' ∧ D.ct σ' H'
  | .ret u => ∃ v σ' H', Inv X pins σ' H' s' ∧ RelV v u ∧ D.rt v H'
def PE (X : Cx) (e : Expr) (t : TE) : Prop :=
  ∀ (pins : List (Addr × Obj)) (s : Shared) (σ : St) (H : Hp) (Q : VK), Inv X pins σ H s → t σ H Q → wpAny (model X.prog X.w) X.A (eval e X.env) (EP X pins σ Q) X.xe s
def PT (X : Cx) (e : Expr) (t : TT) : Prop :=
  ∀ (pins : List (Addr × Obj)) (s : Shared) (σ : St) (H : Hp) (Q : Bool → Hp → Prop), Inv X pins σ H s → t σ H Q → wpAny (model X.prog X.w) X.A (isTrue e X.env (eval e X.env)) (TP X pins σ Q) X.xe s
def PW (X : Cx) (e : Expr) (t : TT) : Prop :=
  ∀ (whole : Sem Value) (pins : List (Addr × Obj)) (s : Shared) (σ : St) (H : Hp) (Q : Bool → Hp → Prop), Inv X pins σ H s → t σ H Q → wpAny (model X.prog X.w) X.A (isTrue e X.env whole) (TP X pins σ Q) X.xe s
theorem PW.pt {X : Cx} {e : Expr} {t : TT} (h : PW X e t) : PT X e t := h _
def PA (X : Cx) (es : List Expr) (t : TA) : Prop :=
  ∀ (pos : Pos) (pins : List (Addr × Obj)) (s : Shared) (σ : St) (H : Hp) (Q : List V → Hp → Prop), Inv X pins σ H s → t σ H Q → wpAny (model X.prog X.w) X.A (spliced (backTo pos (starEach es X.env))) (AP X pins σ Q) X.xe s
def PS (X : Cx) (st : Stmt) (t : TS) : Prop :=
  ∀ (pins : List (Addr × Obj)) (s : Shared) (σ : St) (H : Hp) (D : d4), Inv X pins σ H s → t D σ H → wpAny (model X.prog X.w) X.A (exec st X.env) (SP X pins D) X.xe s
def PSs (X : Cx) (st : List Stmt) (t : TS) : Prop :=
  ∀ (pins : List (Addr × Obj)) (s : Shared) (σ : St) (H : Hp) (D : d4), Inv X pins σ H s → t D σ H → wpAny (model X.prog X.w) X.A (execs st X.env) (SP X pins D) X.xe s
theorem thn {α : Type} {t : Sem α} {Q Q' : α → Shared → Prop} {M : Model} {A : Around} {E : Value → Shared → Prop} {s : Shared} (h : wpAny M A t Q E s) (hQ : ∀ a s, Q a s → Q' a s) : wpAny M A t Q' E s := wpAny_mono h hQ fun _ _ x => x
end L2
namespace L2
open PySem PySem.Spec PyProof.Rows
section
variable {X : Cx}
theorem bin {a b : Expr} {ta tb : TE} (ha : PE X a ta) (hb : PE X b tb) {pins : List (Addr × Obj)} {s : Shared} {σ : St} {H : Hp} {R : V → V → Hp → Prop} (I : Inv X pins σ H s) (h : ta σ H fun x H1 => tb σ H1 fun y H2 => R x y H2)
    {α : Type} {Q : α → Shared → Prop} {f : Value → Value → Sem α}
    (hf : ∀ v u s2 x y H2, Inv X pins σ H2 s2 → RelV x v → RelV y u → R x y H2 → wpAny (model X.prog X.w) X.A (f v u) Q X.xe s2) :
    wpAny (model X.prog X.w) X.A (eval a X.env) (fun v s₁ => wpAny (model X.prog X.w) X.A (eval b X.env) (fun u s₂ => wpAny (model X.prog X.w) X.A (f v u) Q X.xe s₂) X.xe s₁) X.xe s := by
  refine thn (ha pins s σ H _ I h) fun v s1 ⟨x, H1, I1, r1, q1⟩ => ?_
  refine thn (hb pins s1 σ H1 _ I1 q1) fun u s2 ⟨y, H2, I2, r2, q2⟩ => ?_
  exact hf v u s2 x y H2 I2 r1 r2 q2
def xQ (i : Nat) : TE := fun σ H Q => ∃ v, σ[i]? = some (some v) ∧ Q v H
def tC (v : V) : TE := fun _ H Q => Q v H
theorem wv {i : Nat} {x : Str} {pos : Pos} (hN : X.N[i]? = some x) (hv : Vis X.env.scope x) (hd : (x == ("__debug__" : Str)) = false := by decide) (hcd : (x == ("__classdict__" : Str)) = false := by decide) : PE X (.Name x pos) (xQ i) := by
  intro pins s σ H Q I h
  obtain ⟨v, e, h⟩ := h
  obtain ⟨m, hn, hl⟩ := I.loc
  obtain ⟨u, r, l⟩ := hl i x v hN e hv
  have fin : EP X pins σ Q u s := ⟨v, H, I, r, h⟩
  rcases l with ⟨hk, hm⟩ | ⟨hk, c, hc, hcell⟩
  · exact wpAny_Name (wpAny_loadName_local I.ok.kind hk hn hm fin) hd
  · rcases hk with hk | hk
    · exact wpAny_Name (wpAny_loadName_cell I.ok.kind hk hc hcell fin) hd
    · exact wpAny_Name (wpAny_loadName_free I.ok.kind hk hc hcell fin hcd) hd
theorem ac {i j pos} : PE X (.Constant (.int i) j pos) (tC (.int i)) := fun _ _ _ H _ I h => wpAny_Constant_int ⟨.int i, H, I.tok _, ⟨_, rfl⟩, h⟩
theorem gX {b j pos} : PE X (.Constant (.bool b) j pos) (tC (.bl b)) := fun _ _ _ H _ I h => Constant_bool ⟨.bl b, H, I, rfl, h⟩
theorem jT {j pos} : PE X (.Constant .none j pos) (tC .non) := fun _ _ _ H _ I h => Constant_none ⟨.non, H, I, rfl, h⟩
theorem vc {x j pos} : PE X (.Constant (.str x) j pos) (tC (.str x)) := fun _ _ _ H _ I h => Calls.Constant_str ⟨.str x, H, I.tok _, ⟨_, rfl⟩, h⟩
def Gl (X : Cx) (x : Str) : Prop := X.env.kindOf x = some .globalImplicit
theorem ka {E : Value → Shared → Prop} {pins : List (Addr × Obj)} {s : Shared} {σ : St} {H : Hp} {x : Str} {u : Value} {pos : Pos} {Q : Value → Shared → Prop} (I : Inv X pins σ H s) (hg : Gl X x) (hm : X.mg x = some u) (h : Q u s)
    (hd : (x == ("__debug__" : Str)) = false := by decide) : wpAny (model X.prog X.w) X.A (eval (.Name x pos) X.env) Q E s :=
  Calls.Name_function_global I.ok.kind hg (Calls.loadGlobal_global (by rw [I.ok.glob]; exact I.mod.glob.keeps I.bk) hm h) hd
theorem fu {E : Value → Shared → Prop} {pins : List (Addr × Obj)} {s : Shared} {σ : St} {H : Hp} {x : Str} {u : Value} {pos : Pos} {Q : Value → Shared → Prop} (I : Inv X pins σ H s) (hg : Gl X x) (hm : X.mg x = none) (hv : bootBuiltins x = some u) (h : Q u s)
    (hn : x ≠ "__name__" := by decide) (hd : (x == ("__debug__" : Str)) = false := by decide) : wpAny (model X.prog X.w) X.A (eval (.Name x pos) X.env) Q E s := by
  obtain ⟨mb, h1, h2⟩ := I.mod.blt
  exact Calls.Name_function_global I.ok.kind hg (Calls.loadGlobal_builtin (by rw [I.ok.glob]; exact I.mod.glob.keeps I.bk) hm (by rw [I.ok.blt]; exact h1.keeps I.bk) ((h2 x hn).trans hv) h) hd
theorem sd {x : Str} {v : V} {u : Value} {pos : Pos} (hg : Gl X x) (hm : X.mg x = some u) (r : RelV v u) (hd : (x == ("__debug__" : Str)) = false := by decide) : PE X (.Name x pos) (tC v) :=
  fun _ _ _ H _ I h => ka I hg hm ⟨v, H, I, r, h⟩ hd
theorem kh {x : Str} {v : V} {u : Value} {pos : Pos} (hg : Gl X x) (hm : X.mg x = none) (hv : bootBuiltins x = some u) (r : RelV v u) (hn : x ≠ "__name__" := by decide) (hd : (x == ("__debug__" : Str)) = false := by decide) : PE X (.Name x pos) (tC v) :=
  fun _ _ _ H _ I h => fu I hg hm hv ⟨v, H, I, r, h⟩ hn hd
variable {a b : Expr} {ta tb : TE} {pos : Pos}
def PC (X : Cx) (op : CmpOp) (a b : Expr) (t : TE) : Prop :=
  ∀ (pins : List (Addr × Obj)) (s : Shared) (σ : St) (H : Hp) (Q : VK), Inv X pins σ H s → t σ H Q →
    wpAny (model X.prog X.w) X.A (eval a X.env) (fun v s₁ => wpAny (model X.prog X.w) X.A (eval b X.env) (fun u s₂ => wpAny (model X.prog X.w) X.A (compareOp op v u) (EP X pins σ Q) X.xe s₂) X.xe s₁) X.xe s
theorem qj (b : Expr) {op : CmpOp} (h : op ≠ .In) (h2 : op ≠ .NotIn) : behindInMarks op b = false := by
  have e1 : (op == CmpOp.In) = false := by cases op <;> first | rfl | exact absurd rfl h
  have e2 : (op == CmpOp.NotIn) = false := by cases op <;> first | rfl | exact absurd rfl h2
  cases b <;> simp [behindInMarks, e1, e2]
def tR (ta : TE) : TE := fun σ H Q => ta σ H fun x H1 => Q (.bl (!decide (x = .non))) H1
theorem RelV.none_iff {x : V} {v : Value} (r : RelV x v) : (v == Value.none) = decide (x = .non) := by
  cases x with
  | non => cases r; rfl
  | bl _ => cases r; rfl
  | int _ => obtain ⟨t, rfl⟩ := r; rfl
  | str _ => obtain ⟨t, rfl⟩ := r; rfl
  | byt _ => obtain ⟨t, rfl⟩ := r; rfl
  | flt _ => obtain ⟨t, rfl⟩ := r; rfl
  | ref _ => cases r; rfl
  | ty _ => cases r; rfl
theorem rZ {j pos'} (ha : PE X a ta) : PC X .IsNot a (.Constant .none j pos') (tR ta) := by
  intro pins s σ H Q I h
  refine thn (ha pins s σ H _ I h) fun v s1 ⟨x, H1, I1, r1, q1⟩ => ?_
  exact Constant_none (isnot_none_gen ⟨.bl _, H1, I1, by rw [r1.none_iff]; rfl, q1⟩)
variable {tA tB' : TT} {rest : List Expr}
def wU (t u : TT) : TT := fun σ H Q => t σ H fun c H1 => if c = true then u σ H1 Q else Q false H1
def tOr (t u : TT) : TT := fun σ H Q => t σ H fun c H1 => if c = true then Q true H1 else u σ H1 Q
def xP (t : TT) : TT := fun σ H Q => t σ H fun c H1 => Q (!c) H1
theorem tN (ha : PT X a tA) : PW X (.BoolOp .And [a] pos) tA := by
  intro wh pins s σ H Q I h
  refine isTrue_and (thn (ha pins s σ H Q I h) fun c s1 e => ?_)
  cases c with
  | true => exact isTrue_and_nil e
  | false => exact e
theorem ni (ha : PT X a tA) : PW X (.BoolOp .Or [a] pos) tA := by
  intro wh pins s σ H Q I h
  refine isTrue_or (thn (ha pins s σ H Q I h) fun c s1 e => ?_)
  cases c with
  | false => exact isTrue_or_nil e
  | true => exact e
theorem wA (ha : PT X a tA) (hb : PW X (.BoolOp .And (b :: rest) pos) tB') : PW X (.BoolOp .And (a :: b :: rest) pos) (wU tA tB') := by
  intro wh pins s σ H Q I h
  refine isTrue_and (thn (ha pins s σ H _ I h) fun c s1 ⟨H1, I1, q1⟩ => ?_)
  cases c with
  | true => exact hb wh pins s1 σ H1 Q I1 q1
  | false => exact ⟨H1, I1, q1⟩
theorem pQ (ha : PT X a tA) (hb : PW X (.BoolOp .Or (b :: rest) pos) tB') : PW X (.BoolOp .Or (a :: b :: rest) pos) (tOr tA tB') := by
  intro wh pins s σ H Q I h
  refine isTrue_or (thn (ha pins s σ H _ I h) fun c s1 ⟨H1, I1, q1⟩ => ?_)
  cases c with
  | true => exact ⟨H1, I1, q1⟩
  | false => exact hb wh pins s1 σ H1 Q I1 q1
theorem fH (ha : PT X a tA) : PT X (.UnaryOp .Not a pos) (xP tA) := by
  intro pins s σ H Q I h
  exact isTrue_not (ha pins s σ H (fun c H1 => Q (!c) H1) I h)
theorem iO {op} {t : TE} (h : PE X a t) : PE X (.BoolOp op [a] pos) t := fun pins s σ H Q I hw => BoolOp_one (h pins s σ H Q I hw)
def tIf (t : TT) (ta tb : TE) : TE := fun σ H Q => t σ H fun c H1 => if c = true then ta σ H1 Q else tb σ H1 Q
theorem ra {c : Expr} (hc : PT X c tA) (ha : PE X a ta) (hb : PE X b tb) : PE X (.IfExp c a b pos) (tIf tA ta tb) := by
  intro pins s σ H Q I h
  refine wpAny_IfExp (thn (hc pins s σ H _ I h) fun d s1 ⟨H1, I1, q1⟩ => ?_)
  cases d with
  | true => exact ha pins s1 σ H1 Q I1 q1
  | false => exact hb pins s1 σ H1 Q I1 q1
end
end L2
namespace L2
open PySem PySem.Spec PyProof.Rows
def SqL (K : PySem.W.Frag) (H : Hp) (a : Addr) (xs : List V) : Prop :=
  Rd H a (.lst xs) ∨
    ∃ (o : Obj) (its : Array Value) (n : Nat), K.lookup a = some o ∧ o.cls = .type "list" ∧ o.dict = none ∧ o.data = .seq its n ∧ its.size ≤ sizeLine ∧ Vals xs its.toList
def SqT (K : PySem.W.Frag) (H : Hp) (a : Addr) (xs : List V) : Prop :=
  Rd H a (.tup xs) ∨
    ∃ (o : Obj) (its : Array Value) (n : Nat), K.lookup a = some o ∧ o.cls = .type "tuple" ∧ o.data = .seq its n ∧ its.size ≤ sizeLine ∧ Vals xs its.toList
def yf : Value → Option V
  | .none => some .non
  | .bool b => some (.bl b)
  | .int i _ => some (.int i)
  | .str x _ => some (.str x)
  | .bytes b _ => some (.byt b)
  | .float b _ => some (.flt b)
  | .ref a => some (.ref a)
  | .type n => some (.ty n)
  | _ => none
theorem RelV.abs {x : V} {u : Value} (r : RelV x u) : yf u = some x := by
  cases x with
  | non => cases r; rfl
  | bl _ => cases r; rfl
  | int _ => obtain ⟨t, rfl⟩ := r; rfl
  | str _ => obtain ⟨t, rfl⟩ := r; rfl
  | byt _ => obtain ⟨t, rfl⟩ := r; rfl
  | flt _ => obtain ⟨t, rfl⟩ := r; rfl
  | ref _ => cases r; rfl
  | ty _ => cases r; rfl
theorem RelV.inj {x y : V} {u : Value} (r : RelV x u) (q : RelV y u) : x = y := Option.some.inj (r.abs.symm.trans q.abs)
theorem Vals.inj : ∀ {xs ys : List V} {us : List Value}, Vals xs us → Vals ys us → xs = ys
  | _, _, _, .nil, .nil => rfl
  | _, _, _, .cons r t, .cons r' t' => by rw [r.inj r', Vals.inj t t']
section
variable {X : Cx} {pins : List (Addr × Obj)} {σ : St} {H : Hp} {s : Shared} {a : Addr} {xs ys : List V}
theorem SqL.of {K : PySem.W.Frag} (h : H a = some (.lst xs)) : SqL K H a xs := .inl (.inl h)
theorem SqT.of {K : PySem.W.Frag} (h : H a = some (.tup xs)) : SqT K H a xs := .inl (.inl h)
theorem Inv.list (I : Inv X pins σ H s) (h : SqL X.K H a xs) : ∃ its : List Value, Vals xs its ∧ PlainL s.heap a its.toArray ∧ xs.length ≤ sizeLine := by
  rcases h with h | ⟨o, its, n, hk, hc, hd, hs, hz, r⟩
  · obtain ⟨z, its, n, r, e⟩ := h.ok I.hok
    exact ⟨its, r, ⟨_, n, e, rfl, rfl, rfl⟩, z⟩
  · refine ⟨its.toList, r, ⟨o, n, I.kIn a o hk, hc, hd, by simpa using hs⟩, ?_⟩
    have e := r.length
    simp only [Array.length_toList] at e
    omega
theorem Inv.tuple (I : Inv X pins σ H s) (h : SqT X.K H a xs) : ∃ its : List Value, Vals xs its ∧ IsTup s.heap a its.toArray ∧ xs.length ≤ sizeLine := by
  rcases h with h | ⟨o, its, n, hk, hc, hs, hz, r⟩
  · obtain ⟨z, its, r, p⟩ := h.ok I.hok
    exact ⟨its, r, p, z⟩
  · refine ⟨its.toList, r, ⟨o, I.kIn a o hk, hc, n, by simpa using hs⟩, ?_⟩
    have e := r.length
    simp only [Array.length_toList] at e
    omega
theorem Inv.list_inj (I : Inv X pins σ H s) (h : SqL X.K H a xs) (h' : SqL X.K H a ys) : xs = ys := by
  obtain ⟨its, r, ⟨o, n, e, _, _, d⟩, _⟩ := I.list h
  obtain ⟨its', r', ⟨o', n', e', _, _, d'⟩, _⟩ := I.list h'
  rw [e] at e'; cases e'
  rw [d] at d'
  injection d' with d1 _
  have : its = its' := by simpa using congrArg Array.toList d1
  subst this
  exact r.inj r'
theorem Inv.tuple_inj (I : Inv X pins σ H s) (h : SqT X.K H a xs) (h' : SqT X.K H a ys) : xs = ys := by
  obtain ⟨its, r, ⟨o, e, _, n, d⟩, _⟩ := I.tuple h
  obtain ⟨its', r', ⟨o', e', _, n', d'⟩, _⟩ := I.tuple h'
  rw [e] at e'; cases e'
  rw [d] at d'
  injection d' with d1 _
  have : its = its' := by simpa using congrArg Array.toList d1
  subst this
  exact r.inj r'
end
abbrev Cx.wish (X : Cx) (E : Value → Shared → Prop) : Cx := { X with xe := E }
abbrev Cx.nox (X : Cx) : Cx := X.wish fun _ _ => False
section
variable {X : Cx} {pins : List (Addr × Obj)} {σ : St} {H : Hp} {s : Shared} {E : Value → Shared → Prop}
end
section
variable {X : Cx} {st : Stmt} {rest : List Stmt} {t u : TS} {e : Expr} {te : TE} {pos : Pos}
def ut : TS := fun D σ H => D.nx σ H
def w6 (t u : TS) : TS := fun D σ H => t { D with nx := u D } σ H
theorem bQ : PSs X [] ut := fun _ _ σ H _ I h => wpAny_execs_nil ⟨σ, H, I, h⟩
theorem ag (h1 : PS X st t) (h2 : PSs X rest u) : PSs X (st :: rest) (w6 t u) := by
  intro pins s σ H D I h
  refine wpAny_execs_cons (thn (h1 pins s σ H { D with nx := u D } I h) fun f s1 q => ?_)
  cases f with
  | next =>
    obtain ⟨σ', H', I', q⟩ := q
    exact h2 pins s1 σ' H' D I' q
  | ret v => exact q
  | brk => exact q
  | cont => exact q
theorem al (h1 : PS X st t) : PSs X [st] t := by
  intro pins s σ H D I h
  refine wpAny_execs_cons (thn (h1 pins s σ H D I h) fun f s1 q => ?_)
  cases f with
  | next => exact wpAny_execs_nil q
  | ret v => exact q
  | brk => exact q
  | cont => exact q
theorem Inv.quiet {pins : List (Addr × Obj)} {σ : St} {H : Hp} {s : Shared} (I : Inv X pins σ H s) : interactive X.env = false := by simp [interactive, I.ok.kind]
def ua (te : TE) : TS := fun D σ H => te σ H fun _ H1 => D.nx σ H1
theorem gn (he : PE X e te) (hs : swapsWith e none pos.line X.env = pure false := by rfl) : PS X (.Expr e pos) (ua te) := by
  intro pins s σ H D I h
  exact wpAny_Expr_any (thn (he pins s σ H _ I h) fun v s1 ⟨x, H1, I1, r1, q1⟩ => ⟨σ, H1, I1, q1⟩) I.quiet hs
def xI (te : TE) : TS := fun D σ H => te σ H D.rt
theorem aQ (he : PE X e te) : PS X (.Return (some e) pos) (xI te) := by
  intro pins s σ H D I h
  exact wpAny_Return_some (thn (he pins s σ H _ I h) fun v s1 ⟨x, H1, I1, r1, q1⟩ => ⟨x, σ, H1, I1, r1, q1⟩)
def wD (c : TT) (t u : TS) : TS := fun D σ H => c σ H fun b H1 => if b = true then t D σ H1 else u D σ H1
theorem cO {c : Expr} {a b : List Stmt} {tc : TT} (hc : PT X c tc) (ha : PSs X a t) (hb : PSs X b u) : PS X (.If c a b pos) (wD tc t u) := by
  intro pins s σ H D I h
  refine wpAny_If (thn (hc pins s σ H _ I h) fun d s1 ⟨H1, I1, q1⟩ => ?_)
  cases d with
  | true => exact ha pins s1 σ H1 D I1 q1
  | false => exact hb pins s1 σ H1 D I1 q1
end
abbrev TG := V → St → Hp → (St → Hp → Prop) → Prop
abbrev TGs := List V → St → Hp → (St → Hp → Prop) → Prop
def PG (X : Cx) (target : Expr) (t : TG) : Prop :=
  ∀ (pins : List (Addr × Obj)) (s : Shared) (σ : St) (H : Hp) (v : V) (u : Value) (Q : St → Hp → Prop), Inv X pins σ H s → RelV v u → t v σ H Q →
    wpAny (model X.prog X.w) X.A (assign target X.env u) (fun _ s' => ∃ σ' H', Inv X pins σ' H' s' ∧ Q σ' H') X.xe s
def PGs (X : Cx) (ts : List Expr) (t : TGs) : Prop :=
  ∀ (pins : List (Addr × Obj)) (s : Shared) (σ : St) (H : Hp) (vs : List V) (us : List Value) (Q : St → Hp → Prop), Inv X pins σ H s → Vals vs us → t vs σ H Q →
    wpAny (model X.prog X.w) X.A (assignInOrder ((assignEach ts X.env).map (·.2)) us) (fun _ s' => ∃ σ' H', Inv X pins σ' H' s' ∧ Q σ' H') X.xe s
abbrev wf := V → V → V → Hp → (Hp → Prop) → Prop
def wZ (X : Cx) (t : wf) : Prop :=
  ∀ (pins : List (Addr × Obj)) (s : Shared) (σ : St) (H : Hp) (o i v : V) (ov iv u : Value) (Q : Hp → Prop), Inv X pins σ H s → RelV o ov → RelV i iv → RelV v u → t o i v H Q →
    wpAny (model X.prog X.w) X.A (setItem ov iv u) (fun _ s' => ∃ H', Inv X pins σ H' s' ∧ Q H') X.xe s
section
variable {X : Cx} {pos : Pos}
def e_ (i : Nat) : TG := fun v σ H Q => Q (σ.set i (some v)) H
theorem aF {i : Nat} {x : Str} (hN : X.N.Nodup) (hi : X.N[i]? = some x) (hx : Loc X.env.scope x) (hf : X.fn x = true ∨ X.env.scope.names.lookup x = some .local := by first | exact .inl rfl | exact .inr rfl | assumption) : PG X (.Name x pos) (e_ i) := by
  intro pins s σ H v u Q I r h
  exact wpAny_assign_Name (mh I hN hi hx r (fun s' I' => ⟨_, H, I', h⟩) hf)
def vz : TGs := fun vs σ H Q => vs = [] ∧ Q σ H
def nW (t : TG) (u : TGs) : TGs := fun vs σ H Q => ∃ v r, vs = v :: r ∧ t v σ H fun σ' H' => u r σ' H' Q
theorem fQ : PGs X [] vz := by
  intro pins s σ H vs us Q I r h
  obtain ⟨e, h⟩ := h
  subst e
  cases r
  exact assignInOrder_nil ⟨σ, H, I, h⟩
theorem bX {e : Expr} {es : List Expr} {t : TG} {u : TGs} (h1 : PG X e t) (h2 : PGs X es u)
    (hs : (assignEach (e :: es) X.env).map (·.2) = assign e X.env :: (assignEach es X.env).map (·.2) := by rfl) : PGs X (e :: es) (nW t u) := by
  intro pins s σ H vs us Q I r h
  obtain ⟨v, vr, e1, h⟩ := h
  subst e1
  cases r with
  | cons r rr =>
    rw [hs]
    refine assignInOrder_cons (thn (h1 pins s σ H _ _ _ I r h) fun _ s1 ⟨σ1, H1, I1, q1⟩ => ?_)
    exact h2 pins s1 σ1 H1 _ _ Q I1 rr q1
def r9 (K : PySem.W.Frag) (n : Nat) (t : TGs) : TG := fun v σ H Q => ∃ a xs, v = .ref a ∧ SqT K H a xs ∧ xs.length = n ∧ t xs σ H Q
theorem u5 {es : List Expr} {k : Nat} {t : TGs} {n : Nat} (hc : X.calm = true) (h : PGs X es t)
    (hn : (assignEach es X.env).length = n := by rfl) (hst : (assignEach es X.env).findIdx? (·.1) = none := by rfl) : PG X (.Tuple es k pos) (r9 X.K n t) := by
  intro pins s σ H v u Q I r hw
  obtain ⟨a, xs, e1, hq, hl, hw⟩ := hw
  subst e1
  cases r
  obtain ⟨its, rv, ht, hz⟩ := I.tuple hq
  refine assign_Tuple_tuple (I.ok.hd hc) ht (by simp [hn, ← hl, rv.length]) hst fun h' hx => ?_
  have I1 : Inv X pins σ H { s with heap := h' } := I.kept (t' := s.toks) fun b o e => hx b o (Nat.ne_of_lt (Heap.lt_size e)) e
  exact h pins _ σ H xs _ Q I1 (by simpa using rv) hw
def xl (to ti : TE) (t : wf) : TG := fun v σ H Q => to σ H fun o H1 => ti σ H1 fun i H2 => t o i v H2 fun H3 => Q σ H3
theorem j_ {o i : Expr} {to ti : TE} {t : wf} (ho : PE X o to) (hi : PE X i ti) (hs : wZ X t)
    (ha : ∀ v, assign (.Subscript o i pos) X.env v = (do
      let ov ← holding [v] (eval o X.env)
      let iv ← holding [v, ov] (eval i X.env)
      standAt pos
      holding [v, ov, iv] (setItem ov iv v)
      release [v, ov, iv] []) := by intro _; rfl) : PG X (.Subscript o i pos) (xl to ti t) := by
  intro pins s σ H v u Q I r h
  rw [ha]
  refine wpAny_bind (wpAny_holding (thn (ho pins s σ H _ I h) fun ov s1 ⟨x, H1, I1, r1, q1⟩ => ?_))
  refine wpAny_bind (wpAny_holding (thn (hi pins s1 σ H1 _ I1 q1) fun iv s2 ⟨y, H2, I2, r2, q2⟩ => ?_))
  refine wpAny_bind (wpAny_standAt (wpAny_bind (wpAny_holding (thn (hs pins s2 σ H2 x y v ov iv u _ I2 r1 r2 r q2) fun _ s3 ⟨H3, I3, q3⟩ => ?_))))
  exact wpAny_release ⟨σ, H3, I3, q3⟩
def sv (te : TE) (g : TG) : TS := fun D σ H => te σ H fun x H1 => g x σ H1 D.nx
theorem gv {tg e : Expr} {te : TE} {g : TG} (he : PE X e te) (hg : PG X tg g) (hs : swapsWithSole [tg] e pos.line X.env = pure false := by rfl) (hw : swappedStores [tg] e X.env = pure none := by rfl)
    (h1 : (assignEach [tg] X.env).map (·.2) = [assign tg X.env] := by rfl) : PS X (.Assign [tg] e pos) (sv te g) := by
  intro pins s σ H D I h
  refine wpAny_Assign_stores (thn (he pins s σ H _ I h) fun v s1 ⟨x, H1, I1, r1, q1⟩ => ?_) hs hw
  rw [h1]
  exact thn (hg pins s1 σ H1 x v _ I1 r1 q1) fun _ s2 q => q
theorem ar {i : Nat} {x : Str} {e : Expr} {te : TE} {pos' : Pos} (hN : X.N.Nodup) (hi : X.N[i]? = some x) (hx : Loc X.env.scope x) (he : PE X e te) (hs : swapsWith e (some (.Name x pos')) pos.line X.env = pure false := by rfl) (hf : X.fn x = true ∨ X.env.scope.names.lookup x = some .local := by first | exact .inl rfl | exact .inr rfl | assumption) :
    PS X (.Assign [.Name x pos'] e pos) (sv te (e_ i)) := by
  intro pins s σ H D I h
  refine wpAny_Assign_Name (thn (he pins s σ H _ I h) fun v s1 ⟨y, H1, I1, r1, q1⟩ => ?_) hs
  exact mh I1 hN hi hx r1 (fun s2 I2 => ⟨_, H1, I2, q1⟩) hf
end
section
variable {X : Cx} {pos : Pos}
def vX (c : TT) (tb : TS) : TS := fun D σ H => ∃ W : Nat → St → Hp → Prop, (∃ m, W m σ H) ∧ ∀ m σ H, W m σ H →
  c σ H fun b H1 => if b = true then ∃ N : St → Hp → Prop, (∀ σ' H', N σ' H' → ∃ m', m' < m ∧ W m' σ' H') ∧ tb { D with nx := N, ct := N, bk := D.nx } σ H1 else D.nx σ H1
theorem kW {c : Expr} {body : List Stmt} {tc : TT} {tb : TS} (hp : PassesOwn (model X.prog X.w) X.A X.env X.xe) (hc : PT X c tc) (hb : PSs X body tb) : PS X (.While c body [] pos) (vX tc tb) := by
  intro pins s σ H D I h
  obtain ⟨W, ⟨m0, w0⟩, turn⟩ := h
  refine wpAny_While (codeAny_whileLoop (fun n s' => ∃ σ' H', Inv X pins σ' H' s' ∧ W n σ' H') ?_ m0 ⟨σ, H, I, w0⟩)
  rintro n s1 ⟨σ1, H1, I1, w1⟩
  refine wpAny_passesOwn hp (thn (hc pins s1 σ1 H1 _ I1 (turn n σ1 H1 w1)) fun b s2 ⟨H2, I2, q2⟩ => ?_)
  cases b with
  | true =>
    obtain ⟨N, hN, q2⟩ := q2
    rw [if_pos rfl]
    refine wpAny_passesOwn hp (thn (hb pins s2 σ1 H2 _ I2 q2) fun f s3 q3 => ?_)
    cases f with
    | next =>
      obtain ⟨σ3, H3, I3, n3⟩ := q3
      obtain ⟨m', hm, w3⟩ := hN σ3 H3 n3
      exact ⟨m', hm, σ3, H3, I3, w3⟩
    | cont =>
      obtain ⟨σ3, H3, I3, n3⟩ := q3
      obtain ⟨m', hm, w3⟩ := hN σ3 H3 n3
      exact ⟨m', hm, σ3, H3, I3, w3⟩
    | brk => exact q3
    | ret v => exact q3
  | false =>
    rw [if_neg Bool.false_ne_true]
    exact wpAny_execs_nil ⟨σ1, H2, I2, q2⟩
end
structure It where
  go : Nat → Hp → Prop
  yld : Nat → Hp → V → Hp → Prop
  stop : Nat → Hp → Prop
def kj (X : Cx) (pins : List (Addr × Obj)) (H : Hp) (b : Addr) : Prop :=
  H b = none ∧ b ≠ X.env.locals ∧ b ∉ X.fs ∧ (b ∈ X.ex ∨ X.s₀.heap.objs.size ≤ b) ∧ (∀ x c, X.env.cells.lookup x = some c → c ≠ b) ∧ ∀ p ∈ X.pn ++ pins, p.1 ≠ b
theorem Inv.fpOk {X : Cx} {pins : List (Addr × Obj)} {σ : St} {H H' : Hp} {s : Shared} {b : Addr} (I : Inv X pins σ H s) (hb : s.heap.objs.size ≤ b) (hn : H' b = none) : kj X pins H' b := by
  refine ⟨hn, Nat.ne_of_gt (Nat.lt_of_lt_of_le I.lt hb), I.nofs hb, .inr (Nat.le_trans I.sz hb), fun x c e z => ?_, fun p hp z => ?_⟩
  · obtain ⟨v, q⟩ := I.cell x c e
    exact absurd (Nat.lt_of_lt_of_le q.lt (by rw [z]; exact hb)) (Nat.lt_irrefl _)
  · exact absurd (Nat.lt_of_lt_of_le (Heap.lt_size (I.pin p hp).1) (by rw [z]; exact hb)) (Nat.lt_irrefl _)
structure pF (P : Program) (w : World) (K : PySem.W.Frag) (tg : Expr) (J : It) (fp : List Addr) (it : Addr) (tn : Nat → Heap → Prop) : Prop where
  mem : it ∈ fp
  obj : ∀ i h, tn i h → ∀ b ∈ fp, ∃ o, h.get? b = some o ∧ ∀ v, o.data ≠ .cell v
  keep : ∀ i h h', tn i h → (∀ b ∈ fp, ∀ o, h.get? b = some o → h'.get? b = some o) → tn i h'
  item : ∀ (X : Cx), X.prog = P → X.w = w → X.K = K → X.calm = true → ∀ (i : Nat) (pins : List (Addr × Obj)) (s : Shared) (σ : St) (H : Hp) (E : Value → Shared → Prop), Inv X pins σ H s → (∀ b ∈ fp, kj X pins H b) → tn i s.heap → J.go i H →
    wpAny (model P w) X.A (pyNext (.ref it)) (fun r s1 => ∃ u, r = some u ∧
      wpAny (model P w) X.A (letOwnedTupleGo tg (.ref it) u) (fun _ s2 => ∃ x H', Inv X pins σ H' s2 ∧ RelV x u ∧ J.yld i H x H' ∧ tn (i + 1) s2.heap ∧ ∀ b ∈ fp, H' b = none) E s1) E s
  done : ∀ (X : Cx), X.prog = P → X.w = w → X.K = K → X.calm = true → ∀ (i : Nat) (pins : List (Addr × Obj)) (s : Shared) (σ : St) (H : Hp) (E : Value → Shared → Prop), Inv X pins σ H s → (∀ b ∈ fp, kj X pins H b) → tn i s.heap → J.stop i H →
    wpAny (model P w) X.A (pyNext (.ref it)) (fun r s1 => r = none ∧ Inv X pins σ H s1) E s
  self : ∀ (A : Around) (i : Nat) (s : Shared) (Q : Value → Shared → Prop) (E : Value → Shared → Prop), tn i s.heap → Q (.ref it) s → wpAny (model P w) A (pyIter (.ref it)) Q E s
abbrev TI := St → Hp → (It → Hp → Prop) → Prop
def PIE (X : Cx) (pins : List (Addr × Obj)) (σ : St) (tg : Expr) (R : It → Hp → Prop) (itv : Value) (s2 : Shared) : Prop :=
  ∃ (it : Addr) (fp : List Addr) (tn : Nat → Heap → Prop) (J : It) (H' : Hp), itv = .ref it ∧ Inv X pins σ H' s2 ∧ pF X.prog X.w X.K tg J fp it tn ∧ tn 0 s2.heap ∧ (∀ b ∈ fp, kj X pins H' b) ∧ R J H'
def PI (X : Cx) (tg iter : Expr) (wi : TI) : Prop :=
  ∀ (pins : List (Addr × Obj)) (s : Shared) (σ : St) (H : Hp) (R : It → Hp → Prop), Inv X pins σ H s → wi σ H R →
    wpAny (model X.prog X.w) X.A (eval iter X.env) (fun v s1 => wpAny (model X.prog X.w) X.A (pyIter v) (PIE X pins σ tg R) X.xe s1) X.xe s
theorem jw {M : Model} {A : Around} {E : Value → Shared → Prop} {s : Shared} {tg : Expr} {it : Addr} {u : Value} {o : Obj} {n : String} {vs : Array Value} {Q : Unit → Shared → Prop} (ho : s.heap.get? it = some o) (hc : o.cls = .type n) (hd : o.data = .fields vs)
    (hn : ["enumerate", "zip", "dict_itemiterator", "dict_reverseitemiterator", "odict_iterator", "itertools.zip_longest", "itertools.pairwise"].contains n = false) (hQ : Q () s) : wpAny M A (letOwnedTupleGo tg (.ref it) u) Q E s := by
  unfold letOwnedTupleGo
  cases tg <;> first
    | exact wpAny_pure hQ
    | (cases u <;> first
        | exact wpAny_pure hQ
        | (refine wpAny_bind (wpAny_load ho ?_)
           rw [hc, hd]
           show wpAny M A (if (["enumerate", "zip", "dict_itemiterator", "dict_reverseitemiterator", "odict_iterator", "itertools.zip_longest", "itertools.pairwise"].contains n && vs[0]? == some (rawInt _)) = true then _ else _) Q E s
           rw [if_neg (by intro h; rw [hn, Bool.false_and] at h; cases h)]
           exact wpAny_pure hQ))
def Itl (K : PySem.W.Frag) (a : Addr) : It :=
  ⟨fun i H => ∃ xs x, SqL K H a xs ∧ xs[i]? = some x, fun i H x H' => H' = H ∧ ∀ xs, SqL K H a xs → xs[i]? = some x, fun i H => ∃ xs, SqL K H a xs ∧ xs.length ≤ i⟩
def Itt (K : PySem.W.Frag) (a : Addr) : It :=
  ⟨fun i H => ∃ xs x, SqT K H a xs ∧ xs[i]? = some x, fun i H x H' => H' = H ∧ ∀ xs, SqT K H a xs → xs[i]? = some x, fun i H => ∃ xs, SqT K H a xs ∧ xs.length ≤ i⟩
def Itr (lo : Int) (n : Nat) : It := ⟨fun i _ => i < n, fun i H x H' => H' = H ∧ x = .int (lo + i), fun i _ => n ≤ i⟩
theorem pH {P : Program} {w : World} {K : PySem.W.Frag} {tg : Expr} (a it : Addr) : pF P w K tg (Itl K a) [it] it (fun i h => h.IsListIter it a i) where
  mem := by simp
  obj := fun i h st b hb => by
    have e : b = it := by simpa using hb
    subst e
    obtain ⟨o, e, c, d⟩ := st
    exact ⟨o, e, fun v z => by rw [d] at z; cases z⟩
  keep := fun i h h' st k => st.at fun o e => k it (by simp) o e
  item := by
    intro X hP hw hK hc i pins s σ H E I hf st hg
    subst hP hw hK
    obtain ⟨xs, x, hq, hx⟩ := hg
    obtain ⟨its, rv, p, hz⟩ := I.list hq
    obtain ⟨u, hu, ru⟩ := rv.get hx
    obtain ⟨f0, f1, f2, f3, f4, f5⟩ := hf it (by simp)
    refine wpAny_pyNext_list_item st p.isList (x := u) (by simpa using hu) fun h' st' sb => ?_
    have I1 : Inv X pins σ H { s with heap := h' } := I.turned (t' := s.toks) (fun b o hb e => (sb.2 b hb).trans e) f0 f1 f3 f4 f5
    obtain ⟨o, e, c, d⟩ := id st'
    exact ⟨u, rfl, jw (s := { s with heap := h' }) e c d (by decide) ⟨x, H, I1, ru, ⟨rfl, fun ys hy => by rw [I.list_inj hy hq]; exact hx⟩, st', fun b hb => (hf b hb).1⟩⟩
  done := by
    intro X hP hw hK hc i pins s σ H E I hf st hg
    subst hP hw hK
    obtain ⟨xs, hq, hx⟩ := hg
    obtain ⟨its, rv, p, hz⟩ := I.list hq
    obtain ⟨f0, f1, f2, f3, f4, f5⟩ := hf it (by simp)
    have hl := rv.length
    exact wpAny_pyNext_list_end (I.ok.hd hc) st p.isList (by simp; omega) fun h' eb => ⟨rfl, I.turned (t' := s.toks) (fun b o hb e => eb b o hb e) f0 f1 f3 f4 f5⟩
  self := fun _ _ _ _ _ st h => wpAny_pyIter_listiter st h
theorem nE {P : Program} {w : World} {K : PySem.W.Frag} {tg : Expr} (a it : Addr) : pF P w K tg (Itt K a) [it] it (fun i h => h.IsTupleIter it a i) where
  mem := by simp
  obj := fun i h st b hb => by
    have e : b = it := by simpa using hb
    subst e
    obtain ⟨o, e, c, d⟩ := st
    exact ⟨o, e, fun v z => by rw [d] at z; cases z⟩
  keep := fun i h h' st k => st.at fun o e => k it (by simp) o e
  item := by
    intro X hP hw hK hc i pins s σ H E I hf st hg
    subst hP hw hK
    obtain ⟨xs, x, hq, hx⟩ := hg
    obtain ⟨its, rv, p, hz⟩ := I.tuple hq
    obtain ⟨u, hu, ru⟩ := rv.get hx
    obtain ⟨f0, f1, f2, f3, f4, f5⟩ := hf it (by simp)
    refine wpAny_pyNext_tuple_item st (show s.heap.IsTuple a its.toArray from p) (x := u) (by simpa using hu) fun h' st' sb => ?_
    have I1 : Inv X pins σ H { s with heap := h' } := I.turned (t' := s.toks) (fun b o hb e => (sb.2 b hb).trans e) f0 f1 f3 f4 f5
    obtain ⟨o, e, c, d⟩ := id st'
    exact ⟨u, rfl, jw (s := { s with heap := h' }) e c d (by decide) ⟨x, H, I1, ru, ⟨rfl, fun ys hy => by rw [I.tuple_inj hy hq]; exact hx⟩, st', fun b hb => (hf b hb).1⟩⟩
  done := by
    intro X hP hw hK hc i pins s σ H E I hf st hg
    subst hP hw hK
    obtain ⟨xs, hq, hx⟩ := hg
    obtain ⟨its, rv, p, hz⟩ := I.tuple hq
    obtain ⟨f0, f1, f2, f3, f4, f5⟩ := hf it (by simp)
    have hl := rv.length
    exact wpAny_pyNext_tuple_end (I.ok.hd hc) st (show s.heap.IsTuple a its.toArray from p) (by simp; omega) fun h' eb => ⟨rfl, I.turned (t' := s.toks) (fun b o hb e => eb b o hb e) f0 f1 f3 f4 f5⟩
  self := fun _ _ _ _ _ st h => wpAny_pyIter_tupleiter st h
theorem ng {P : Program} {w : World} {K : PySem.W.Frag} {tg : Expr} (it : Addr) (lo : Int) (n : Nat) : pF P w K tg (Itr lo n) [it] it (fun i h => IsRangeIter h it (lo + (i : Nat) * 1) ((n : Int) - (i : Nat)) 1) where
  mem := by simp
  obj := fun i h st b hb => by
    have e : b = it := by simpa using hb
    subst e
    exact ⟨_, st, fun v z => by
      have z' : Data.fields _ = Data.cell v := z
      cases z'⟩
  keep := fun i h h' st k => k it (by simp) _ st
  item := by
    intro X hP hw hK hc i pins s σ H E I hf st hg
    subst hP hw hK
    obtain ⟨f0, f1, f2, f3, f4, f5⟩ := hf it (by simp)
    have W := Walks.range (prog := X.prog) (w := X.w) (I.ok.hd hc) it lo 1 n
    refine W.item i s _ _ hg st fun v h' tk hv st' kk => ?_
    obtain ⟨t, rfl⟩ := hv
    have I1 : Inv X pins σ H { s with heap := h', toks := tk } := I.turned (fun b o hb e => kk b o (by simpa using hb) e) f0 f1 f3 f4 f5
    refine ⟨_, rfl, jw (s := { s with heap := h', toks := tk }) (n := "range_iterator") st' rfl rfl (by decide) ⟨.int (lo + i), H, I1, ⟨t, ?_⟩, ⟨rfl, rfl⟩, st', fun b hb => (hf b hb).1⟩⟩
    rw [Int.mul_one]
  done := by
    intro X hP hw hK hc i pins s σ H E I hf st hg
    subst hP hw hK
    obtain ⟨f0, f1, f2, f3, f4, f5⟩ := hf it (by simp)
    exact wpAny_pyNext_range_end (I.ok.hd hc) st (by have : n ≤ i := hg; omega) fun h' eb => ⟨rfl, I.turned (t' := s.toks) (fun b o hb e => eb b o hb e) f0 f1 f3 f4 f5⟩
  self := fun _ _ _ _ _ st h => wpAny_pyIter_rangeiter st h
end L2
namespace L2
open PySem PySem.Spec PyProof.Rows
section
variable {X : Cx} {tg : Expr}
def lJ (K : PySem.W.Frag) (tl : TE) : TI := fun σ H R => tl σ H fun x H1 => ∃ a, x = .ref a ∧ (∃ xs, SqL K H1 a xs) ∧ R (Itl K a) H1
def rT (K : PySem.W.Frag) (tl : TE) : TI := fun σ H R => tl σ H fun x H1 => ∃ a, x = .ref a ∧ (∃ xs, SqT K H1 a xs) ∧ R (Itt K a) H1
theorem rJ {l : Expr} {tl : TE} (hl : PE X l tl) : PI X tg l (lJ X.K tl) := by
  intro pins s σ H R I h
  refine thn (hl pins s σ H _ I h) fun v s1 ⟨x, H1, I1, r1, q1⟩ => ?_
  obtain ⟨a, e, ⟨xs, hq⟩, q⟩ := q1
  subst e
  cases r1
  obtain ⟨its, rv, p, hz⟩ := I1.list hq
  refine wpAny_pyIter_list p.isList ?_
  refine ⟨s1.heap.objs.size, [s1.heap.objs.size], _, _, H1, rfl, I1.kept (t' := s1.toks) fun b o e => Heap.get?_push_of_some _ e, pH a _, ⟨_, Heap.get?_push_size _ rfl, rfl, rfl⟩, fun b hb => ?_, q⟩
  have e : b = s1.heap.objs.size := by simpa using hb
  subst e
  exact I1.fpOk (Nat.le_refl _) (I1.hok.fresh (Nat.le_refl _))
theorem uL {l : Expr} {tl : TE} (hl : PE X l tl) : PI X tg l (rT X.K tl) := by
  intro pins s σ H R I h
  refine thn (hl pins s σ H _ I h) fun v s1 ⟨x, H1, I1, r1, q1⟩ => ?_
  obtain ⟨a, e, ⟨xs, hq⟩, q⟩ := q1
  subst e
  cases r1
  obtain ⟨its, rv, p, hz⟩ := I1.tuple hq
  refine wpAny_pyIter_tuple (show s1.heap.IsTuple a its.toArray from p) ?_
  refine ⟨s1.heap.objs.size, [s1.heap.objs.size], _, _, H1, rfl, I1.kept (t' := s1.toks) fun b o e => Heap.get?_push_of_some _ e, nE a _, ⟨_, Heap.get?_push_size _ rfl, rfl, rfl⟩, fun b hb => ?_, q⟩
  have e : b = s1.heap.objs.size := by simpa using hb
  subst e
  exact I1.fpOk (Nat.le_refl _) (I1.hok.fresh (Nat.le_refl _))
theorem kX {pins : List (Addr × Obj)} {σ : St} {H : Hp} {s : Shared} {R : It → Hp → Prop} {E : Value → Shared → Prop} {lo hi : Int} {t u v : Tok} {tk : Nat} (I : Inv X pins σ H s) (h1 : -(2 ^ 62) ≤ lo) (h2 : lo < 2 ^ 62) (h3 : -(2 ^ 62) ≤ hi) (h4 : hi < 2 ^ 62)
    (q : R (Itr lo (hi - lo).toNat) H) : wpAny (model X.prog X.w) X.A (pyIter (.ref s.heap.objs.size)) (PIE X pins σ tg R) E { s with heap := s.heap.push { cls := .type "range", data := .fields #[.int lo t, .int hi u, .int 1 v] }, toks := tk } := by
  refine wpAny_pyIter_range (IsRange.new ..) (small_one h1 h2 h3 h4) ?_
  have I1 : Inv X pins σ H { s with heap := s.heap.push { cls := .type "range", data := .fields #[.int lo t, .int hi u, .int 1 v] }, toks := tk } := I.kept fun b o e => Heap.get?_push_of_some _ e
  refine ⟨(s.heap.push { cls := .type "range", data := .fields #[.int lo t, .int hi u, .int 1 v] }).objs.size, [(s.heap.push { cls := .type "range", data := .fields #[.int lo t, .int hi u, .int 1 v] }).objs.size], _, _, H, rfl,
    I1.kept (t' := tk) fun b o e => Heap.get?_push_of_some _ e, ng _ lo (hi - lo).toNat, ?_, fun b hb => ?_, q⟩
  · have e1 : lo + ((0 : Nat) : Int) * 1 = lo := by simp
    have e2 : (((hi - lo).toNat : Nat) : Int) - ((0 : Nat) : Int) = Builtin.Range.rangeSize lo hi 1 := by rw [rangeSize_one]; split <;> omega
    show IsRangeIter _ _ (lo + ((0 : Nat) : Int) * 1) ((((hi - lo).toNat : Nat) : Int) - ((0 : Nat) : Int)) 1
    rw [e1, e2]
    exact Heap.get?_push_size _ rfl
  · have e : b = (s.heap.push { cls := .type "range", data := .fields #[.int lo t, .int hi u, .int 1 v] }).objs.size := by simpa using hb
    subst e
    exact I1.fpOk (Nat.le_refl _) (I1.hok.fresh (Nat.le_refl _))
def pZ (ta : TA) : TI := fun σ H R => ta σ H fun vs H1 => ∃ j : Int, vs = [.int j] ∧ -(2 ^ 62) ≤ j ∧ j < 2 ^ 62 ∧ R (Itr 0 j.toNat) H1
def tT (ta : TA) : TI := fun σ H R => ta σ H fun vs H1 => ∃ i j : Int, vs = [.int i, .int j] ∧ (-(2 ^ 62) ≤ i ∧ i < 2 ^ 62 ∧ -(2 ^ 62) ≤ j ∧ j < 2 ^ 62) ∧ R (Itr i (j - i).toNat) H1
theorem cP {a : Expr} {ta : TA} {p pos : Pos} (hg : Gl X "range") (hm : X.mg "range" = none) (ha : PA X [a] ta) (hs : starEach [a] X.env = [(false, eval a X.env)] := by rfl) : PI X tg (.Call (.Name "range" p) [a] [] pos) (pZ ta) := by
  intro pins s σ H R I h
  refine Call_ (fu I hg hm boot_range (PyProof.Rows.callWith_type1 (thn (ha pos pins s σ H _ I h) fun us s1 ⟨vs, H1, I1, r1, q1⟩ => ?_) hs rfl))
  obtain ⟨j, e, q1, q2, q⟩ := q1
  subst e
  cases r1 with
  | cons r rr =>
    cases rr
    obtain ⟨t, rfl⟩ := r
    exact call_range_1 (kX I1 (by omega) (by omega) q1 q2 (by simpa using q))
theorem oU {a b : Expr} {ta : TA} {p pos : Pos} (hg : Gl X "range") (hm : X.mg "range" = none) (ha : PA X [a, b] ta) (hs : starEach [a, b] X.env = [(false, eval a X.env), (false, eval b X.env)] := by rfl) (hs2 : starEach [b] X.env = [(false, eval b X.env)] := by rfl) :
    PI X tg (.Call (.Name "range" p) [a, b] [] pos) (tT ta) := by
  intro pins s σ H R I h
  refine Call_ (fu I hg hm boot_range (PyProof.Rows.callWith_type1 (thn (ha pos pins s σ H _ I h) fun us s1 ⟨vs, H1, I1, r1, q1⟩ => ?_) (by rw [hs, hs2]) (by rw [hs2]; rfl)))
  obtain ⟨i, j, e, ⟨q1, q2, q3, q4⟩, q⟩ := q1
  subst e
  cases r1 with
  | cons r rr =>
    cases rr with
    | cons r' rr =>
      cases rr
      obtain ⟨t, rfl⟩ := r
      obtain ⟨t', rfl⟩ := r'
      exact call_range_2 (kX I1 q1 q2 q3 q4 q)
def pM (wi : TI) (g : TG) (tb : TS) : TS := fun D σ H => wi σ H fun J H1 => ∃ W : Nat → Nat → St → Hp → Prop, (∃ m, W 0 m σ H1) ∧ ∀ i m σ H, W i m σ H →
  (J.stop i H ∧ D.nx σ H) ∨ (J.go i H ∧ ∃ N : St → Hp → Prop, (∀ σ' H', N σ' H' → ∃ m', m' < m ∧ W (i + 1) m' σ' H') ∧ ∀ x H', J.yld i H x H' → g x σ H' fun σ2 H2 => tb { D with nx := N, ct := N, bk := D.nx } σ2 H2)
def iA (fp : List Addr) (h : Heap) : List (Addr × Obj) := fp.filterMap fun b => (h.get? b).map fun o => (b, o)
theorem eh {fp : List Addr} {h : Heap} {b : Addr} {o : Obj} (hb : b ∈ fp) (e : h.get? b = some o) : (b, o) ∈ iA fp h := List.mem_filterMap.mpr ⟨b, hb, by rw [e]; rfl⟩
theorem o7 {fp : List Addr} {h : Heap} {p : Addr × Obj} (hp : p ∈ iA fp h) : p.1 ∈ fp ∧ h.get? p.1 = some p.2 := by
  obtain ⟨b, hb, e⟩ := List.mem_filterMap.mp hp
  cases q : h.get? b with
  | none => rw [q] at e; cases e
  | some o =>
    rw [q] at e
    have e' : (b, o) = p := Option.some.inj e
    subst e'
    exact ⟨hb, q⟩
theorem Inv.pinned {pins : List (Addr × Obj)} {σ : St} {H : Hp} {s : Shared} {fp : List Addr} (I : Inv X pins σ H s) (hf : ∀ b ∈ fp, kj X pins H b) (ho : ∀ b ∈ fp, ∃ o, s.heap.get? b = some o ∧ ∀ v, o.data ≠ .cell v) : Inv X (pins ++ iA fp s.heap) σ H s :=
  I.pins_of fun p hp => (List.mem_append.mp hp).elim (fun z => I.pin p (List.mem_append_right _ z)) fun z => by
    obtain ⟨hb, e⟩ := o7 z
    obtain ⟨f0, f1, f2, _⟩ := hf p.1 hb
    obtain ⟨o, e', d⟩ := ho p.1 hb
    rw [e] at e'; cases e'
    exact ⟨e, f0, f1, f2, d⟩
theorem Inv.unpinned {pins pl : List (Addr × Obj)} {σ : St} {H : Hp} {s : Shared} (I : Inv X (pins ++ pl) σ H s) : Inv X pins σ H s := I.pins_of fun p hp => I.pin p (List.mem_append_right _ (List.mem_append_left _ hp))
theorem d8 {iter : Expr} {body : List Stmt} {wi : TI} {g : TG} {tb : TS} {pos : Pos} (hp : PassesOwn (model X.prog X.w) X.A X.env X.xe) (hc : X.calm = true) (hi : PI X tg iter wi) (hg : PG X tg g) (hb : PSs X body tb)
    (hs : ∀ x, foldedSetIterable iter X.env x = pure x := by intro _; rfl) : PS X (.For tg iter body [] pos) (pM wi g tb) := by
  intro pins s σ H D I h
  refine wpAny_For (thn (hi pins s σ H _ I h) fun v s1 h1 => thn h1 fun itv s2 h2 => ?_) hs
  obtain ⟨it, fp, tn, J, H2, e, I2, T, st2, f2, W, ⟨m0, w0⟩, turn⟩ := h2
  subst e
  have stat : ∀ {H' : Hp}, (∀ b ∈ fp, H' b = none) → ∀ b ∈ fp, kj X pins H' b := fun hn b hb => ⟨hn b hb, (f2 b hb).2⟩
  refine codeAny_forLoop_any (fun n s' => ∃ i σ' H', Inv X pins σ' H' s' ∧ tn i s'.heap ∧ (∀ b ∈ fp, H' b = none) ∧ W i n σ' H') ?_ m0 ⟨0, σ, H2, I2, st2, fun b hb => (f2 b hb).1, w0⟩
  rintro n s3 ⟨i, σ3, H3, I3, st3, fr3, w3⟩
  rcases turn i n σ3 H3 w3 with ⟨stop, qn⟩ | ⟨go, N, hN, step⟩
  · refine wpAny_passesOwn hp (thn (T.done X rfl rfl rfl hc i pins s3 σ3 H3 X.xe I3 (stat fr3) st3 stop) fun r s4 ⟨hr, I4⟩ => ?_)
    subst hr
    exact wpAny_execs_nil ⟨σ3, H3, I4, qn⟩
  · refine wpAny_passesOwn hp (thn (T.item X rfl rfl rfl hc i pins s3 σ3 H3 X.xe I3 (stat fr3) st3 go) fun r s4 ⟨u, hr, h4⟩ => ?_)
    subst hr
    refine wpAny_passesOwn hp (thn h4 fun _ s5 ⟨x, H5, I5, r5, y5, st5, fr5⟩ => ?_)
    have I5' := I5.pinned (stat fr5) (T.obj _ _ st5)
    refine wpAny_passesOwn hp (thn (hg _ s5 σ3 H5 x u _ I5' r5 (step x H5 y5)) fun _ s6 ⟨σ6, H6, I6, q6⟩ => ?_)
    refine wpAny_passesOwn hp (thn (hb _ s6 σ6 H6 _ I6 q6) fun f s7 q7 => ?_)
    have again : ∀ {σ7 : St} {H7 : Hp}, Inv X (pins ++ iA fp s5.heap) σ7 H7 s7 → N σ7 H7 → ∃ m, m < n ∧ ∃ i σ' H', Inv X pins σ' H' s7 ∧ tn i s7.heap ∧ (∀ b ∈ fp, H' b = none) ∧ W i m σ' H' := fun {σ7 H7} I7 n7 => by
      obtain ⟨m', hm, w7⟩ := hN σ7 H7 n7
      refine ⟨m', hm, i + 1, σ7, H7, I7.unpinned, T.keep _ _ _ st5 fun b hb o e => (I7.pin (b, o) (List.mem_append_right _ (List.mem_append_right _ (eh hb e)))).1, fun b hb => ?_, w7⟩
      obtain ⟨o, e, d⟩ := T.obj _ _ st5 b hb
      exact (I7.pin (b, o) (List.mem_append_right _ (List.mem_append_right _ (eh hb e)))).2.1
    cases f with
    | next => obtain ⟨σ7, H7, I7, n7⟩ := q7; exact again I7 n7
    | cont => obtain ⟨σ7, H7, I7, n7⟩ := q7; exact again I7 n7
    | brk => obtain ⟨σ7, H7, I7, q7⟩ := q7; exact ⟨σ7, H7, I7.unpinned, q7⟩
    | ret v => obtain ⟨x7, σ7, H7, I7, r7, q7⟩ := q7; exact ⟨x7, σ7, H7, I7.unpinned, r7, q7⟩
end
theorem c_ {lo : Int} {n : Nat} {g : TG} {tb : TS} {D : d4} {σ : St} {H : Hp} (Pv : Nat → St → Hp → Prop) (h0 : Pv 0 σ H)
    (hs : ∀ i σ H, i < n → Pv i σ H → g (.int (lo + i)) σ H fun σ2 H2 => tb { D with nx := Pv (i + 1), ct := Pv (i + 1), bk := D.nx } σ2 H2) (hd : ∀ σ H, Pv n σ H → D.nx σ H) :
    ∃ W : Nat → Nat → St → Hp → Prop, (∃ m, W 0 m σ H) ∧ ∀ i m σ H, W i m σ H →
      ((Itr lo n).stop i H ∧ D.nx σ H) ∨ ((Itr lo n).go i H ∧ ∃ N : St → Hp → Prop, (∀ σ' H', N σ' H' → ∃ m', m' < m ∧ W (i + 1) m' σ' H') ∧ ∀ x H', (Itr lo n).yld i H x H' → g x σ H' fun σ2 H2 => tb { D with nx := N, ct := N, bk := D.nx } σ2 H2) := by
  refine ⟨fun i m σ H => m = n - i ∧ i ≤ n ∧ Pv i σ H, ⟨n, by simp, Nat.zero_le _, h0⟩, ?_⟩
  rintro i m σ H ⟨rfl, hi, p⟩
  by_cases hlt : i < n
  · refine .inr ⟨hlt, Pv (i + 1), fun σ' H' p' => ⟨n - (i + 1), by omega, rfl, hlt, p'⟩, fun x H' y => ?_⟩
    obtain ⟨e, y⟩ := y
    subst e y
    exact hs i σ _ hlt p
  · have e : i = n := by omega
    subst e
    exact .inl ⟨Nat.le_refl _, hd σ H p⟩
end L2
namespace L2
open PySem PySem.Spec PyProof.Rows
abbrev R2 := V → V → Hp → VK → Prop
def OpR (X : Cx) (f : Value → Value → Sem Value) (r : R2) : Prop :=
  ∀ (pins : List (Addr × Obj)) (s : Shared) (σ : St) (H : Hp) (x y : V) (v u : Value) (Q : VK), Inv X pins σ H s → RelV x v → RelV y u → r x y H Q →
    wpAny (model X.prog X.w) X.A (f v u) (EP X pins σ Q) X.xe s
def UnR (X : Cx) (f : Value → Sem Value) (r : V → Hp → VK → Prop) : Prop :=
  ∀ (pins : List (Addr × Obj)) (s : Shared) (σ : St) (H : Hp) (x : V) (v : Value) (Q : VK), Inv X pins σ H s → RelV x v → r x H Q →
    wpAny (model X.prog X.w) X.A (f v) (EP X pins σ Q) X.xe s
def CallR (X : Cx) (f : Value) (r : List V → Hp → VK → Prop) : Prop :=
  ∀ (pins : List (Addr × Obj)) (s : Shared) (σ : St) (H : Hp) (xs : List V) (us : List Value) (Q : VK), Inv X pins σ H s → Vals xs us → r xs H Q →
    wpAny (model X.prog X.w) X.A (call f us) (EP X pins σ Q) X.xe s
def yb (X : Cx) (r : V → Hp → (Bool → Hp → Prop) → Prop) : Prop :=
  ∀ (pins : List (Addr × Obj)) (s : Shared) (σ : St) (H : Hp) (x : V) (v : Value) (Q : Bool → Hp → Prop), Inv X pins σ H s → RelV x v → r x H Q →
    wpAny (model X.prog X.w) X.A (truthy v) (TP X pins σ Q) X.xe s
def tOp (r : R2) (ta tb : TE) : TE := fun σ H Q => ta σ H fun x H1 => tb σ H1 fun y H2 => r x y H2 Q
def rI (C : Int → Int → Prop) (g : Int → Int → V) : R2 := fun x y H Q => ∃ i j, x = .int i ∧ y = .int j ∧ C i j ∧ Q (g i j) H
def rI0 (g : Int → Int → V) : R2 := fun x y H Q => ∃ i j, x = .int i ∧ y = .int j ∧ Q (g i j) H
section
variable {X : Cx} {a b c : Expr} {ta tb tc : TE} {pos : Pos}
theorem vM (ha : PE X a ta) (hb : PE X b tb) {pins : List (Addr × Obj)} {s : Shared} {σ : St} {H : Hp} {R : V → V → Hp → Prop} (I : Inv X pins σ H s)
    (h : ta σ H fun x H1 => tb σ H1 fun y H2 => R x y H2) {Q : Value → Shared → Prop} {f : Value → Value → Sem Value}
    (hf : ∀ v u s2 x y H2, Inv X pins σ H2 s2 → RelV x v → RelV y u → R x y H2 → wpAny (model X.prog X.w) X.A (f v u) Q X.xe s2) :
    wpAny (model X.prog X.w) X.A (eval a X.env) (fun v s₁ => wpAny (model X.prog X.w) X.A (eval b X.env) (fun u s₂ => wpAny (model X.prog X.w) X.A (f v u) Q X.xe s₂) X.xe s₁) X.xe s := by
  refine thn (ha pins s σ H _ I h) fun v s1 ⟨x, H1, I1, r1, q1⟩ => ?_
  refine thn (hb pins s1 σ H1 _ I1 q1) fun u s2 ⟨y, H2, I2, r2, q2⟩ => ?_
  exact hf v u s2 x y H2 I2 r1 r2 q2
theorem af {op : Operator} {r : R2} (ho : OpR X (binaryOp op) r) (ha : PE X a ta) (hb : PE X b tb) : PE X (.BinOp a op b pos) (tOp r ta tb) := by
  intro pins s σ H Q I h
  exact wpAny_BinOp (vM ha hb I h fun v u s2 x y H2 I2 rx ry q => ho pins s2 σ H2 x y v u Q I2 rx ry q)
theorem opI {f : Value → Value → Sem Value} {C : Int → Int → Prop} {g : Int → Int → Int}
    (rule : ∀ (i j : Int) (t u : Tok) (s : Shared) (Q : Value → Shared → Prop) (E : Value → Shared → Prop), C i j → Q (.int (g i j) s.toks) { s with toks := s.toks + 1 } → wpAny (model X.prog X.w) X.A (f (.int i t) (.int j u)) Q E s) :
    OpR X f (rI C fun i j => .int (g i j)) := by
  intro pins s σ H x y v u Q I rx ry h
  obtain ⟨i, j, rfl, rfl, hc, q⟩ := h
  obtain ⟨t, rfl⟩ := rx
  obtain ⟨t', rfl⟩ := ry
  exact rule i j t t' s _ _ hc ⟨.int (g i j), H, I.tok _, ⟨_, rfl⟩, q⟩
theorem wO {f : Value → Value → Sem Value} {g : Int → Int → Int}
    (rule : ∀ (i j : Int) (t u : Tok) (s : Shared) (Q : Value → Shared → Prop) (E : Value → Shared → Prop), Q (.int (g i j) s.toks) { s with toks := s.toks + 1 } → wpAny (model X.prog X.w) X.A (f (.int i t) (.int j u)) Q E s) :
    OpR X f (rI0 fun i j => .int (g i j)) := by
  intro pins s σ H x y v u Q I rx ry h
  obtain ⟨i, j, rfl, rfl, q⟩ := h
  obtain ⟨t, rfl⟩ := rx
  obtain ⟨t', rfl⟩ := ry
  exact rule i j t t' s _ _ ⟨.int (g i j), H, I.tok _, ⟨_, rfl⟩, q⟩
theorem vt {f : Value → Value → Sem Value} {g : Int → Int → Bool}
    (rule : ∀ (i j : Int) (t u : Tok) (s : Shared) (Q : Value → Shared → Prop) (E : Value → Shared → Prop), Q (.bool (g i j)) s → wpAny (model X.prog X.w) X.A (f (.int i t) (.int j u)) Q E s) :
    OpR X f (rI0 fun i j => .bl (g i j)) := by
  intro pins s σ H x y v u Q I rx ry h
  obtain ⟨i, j, rfl, rfl, q⟩ := h
  obtain ⟨t, rfl⟩ := rx
  obtain ⟨t', rfl⟩ := ry
  exact rule i j t t' s _ _ ⟨.bl (g i j), H, I, rfl, q⟩
def v4 (i j : Int) : Prop := 0 < j ∧ j < 1073741824
def vV (i j : Int) : Prop := 0 ≤ j ∧ j ≤ 1000000 ∧ i.natAbs < 2 ^ 64
def CMul (i j : Int) : Prop := (-(2 ^ 64) < i ∧ i < 2 ^ 64) ∨ (-(2 ^ 64) < j ∧ j < 2 ^ 64)
theorem CMul.ok {i j : Int} (h : CMul i j) : IntMulOk i j := by
  rcases h with ⟨h1, h2⟩ | ⟨h1, h2⟩
  · exact .of_left (intBits_le_64 h1 h2)
  · exact .of_right (intBits_le_64 h1 h2)
theorem uY : OpR X (binaryOp .Add) (rI0 fun i j => .int (i + j)) := wO fun _ _ _ _ _ _ _ q => add_int q
theorem vP : OpR X (binaryOp .Sub) (rI0 fun i j => .int (i - j)) := wO fun _ _ _ _ _ _ _ q => sub_int q
theorem uW : OpR X (binaryOp .Mult) (rI CMul fun i j => .int (i * j)) := opI fun _ _ _ _ _ _ _ hc q => mul_int q hc.ok
theorem rH : OpR X (binaryOp .FloorDiv) (rI v4 fun i j => .int (i / j)) := opI fun i j _ _ _ _ _ hc q => by
  have h1 : (0 : Int) < j := hc.1
  have h2 : j < 1073741824 := hc.2
  exact floordiv_int (by omega) (by rw [Int.fdiv_eq_ediv_of_nonneg i (by omega)]; exact q) (.inl (PyProof.noPylong_small (by omega)))
theorem vE : OpR X (binaryOp .Mod) (rI (fun _ j => 0 < j) fun i j => .int (i % j)) := opI fun i j _ _ _ _ _ hc q => by
  have h1 : (0 : Int) < j := hc
  exact mod_int' (by omega) (by rw [Int.fmod_eq_emod_of_nonneg i (by omega)]; exact q)
theorem wo : OpR X (binaryOp .Pow) (rI vV fun i j => .int (i ^ j.toNat)) := opI fun _ _ _ _ _ _ _ hc q => pow_int_small hc.1 hc.2.1 hc.2.2 q
end
def v_ : V → V → Bool
  | .non, .non => true | .non, .int _ => true | .int _, .non => true | .non, .bl _ => true | .bl _, .non => true | .non, .str _ => true | .str _, .non => true
  | .int _, .int _ => true | .bl _, .bl _ => true | .str _, .str _ => true | .byt _, .byt _ => true
  | .int _, .str _ => true | .str _, .int _ => true | .bl _, .str _ => true | .str _, .bl _ => true
  | _, _ => false
def rEq : R2 := fun x y H Q => v_ x y = true ∧ Q (.bl (decide (x = y))) H
def rNe : R2 := fun x y H Q => v_ x y = true ∧ Q (.bl (!decide (x = y))) H
theorem oO {i j : Int} : decide (V.int i = V.int j) = (i == j) := by
  rw [Bool.eq_iff_iff]
  simp
theorem pO {i j : Bool} : decide (V.bl i = V.bl j) = (i == j) := by
  rw [Bool.eq_iff_iff]
  simp
theorem nZ {i j : Str} : decide (V.str i = V.str j) = (i == j) := by
  rw [Bool.eq_iff_iff]
  simp
theorem oN {i j : Array UInt8} : decide (V.byt i = V.byt j) = (i.toList == j.toList) := by
  rw [Bool.eq_iff_iff]
  cases i
  cases j
  simp
section
variable {X : Cx} {a b c : Expr} {ta tb tc : TE} {pos : Pos}
theorem aZ {pins : List (Addr × Obj)} {σ : St} {H : Hp} {s : Shared} {Q : VK} {k k' : Bool} (I : Inv X pins σ H s) (q : Q (.bl k) H) (e : k = k') : EP X pins σ Q (.bool k') s := by
  subst e
  exact ⟨.bl k, H, I, rfl, q⟩
theorem xp : OpR X (compareOp .Eq) rEq := by
  intro pins s σ H x y v u Q I rx ry h
  obtain ⟨hs, q⟩ := h
  cases x with
  | non =>
    cases rx
    cases y with
    | non => cases ry; exact PySem.EqNone.eq_none_none (aZ I q (by simp))
    | bl j => cases ry; exact PySem.EqNone.eq_none_bool (aZ I q (by simp))
    | int j => obtain ⟨t', rfl⟩ := ry; exact PySem.EqNone.eq_none_int (aZ I q (by simp))
    | str j => obtain ⟨t', rfl⟩ := ry; exact PySem.EqNone.eq_none_str (aZ I q (by simp))
    | _ => exact absurd (show false = true from hs) Bool.false_ne_true
  | bl i =>
    cases rx
    cases y with
    | non => cases ry; exact PySem.EqNone.eq_bool_none (aZ I q (by simp))
    | bl j => cases ry; exact eq_bool (aZ I q pO)
    | str j => obtain ⟨t', rfl⟩ := ry; exact PySem.EqMixed.eq_bool_str (aZ I q (by simp))
    | _ => exact absurd (show false = true from hs) Bool.false_ne_true
  | int i =>
    obtain ⟨t, rfl⟩ := rx
    cases y with
    | non => cases ry; exact PySem.EqNone.eq_int_none (aZ I q (by simp))
    | int j => obtain ⟨t', rfl⟩ := ry; exact eq_int (aZ I q oO)
    | str j => obtain ⟨t', rfl⟩ := ry; exact PySem.EqMixed.eq_int_str (aZ I q (by simp))
    | _ => exact absurd (show false = true from hs) Bool.false_ne_true
  | str i =>
    obtain ⟨t, rfl⟩ := rx
    cases y with
    | non => cases ry; exact PySem.EqNone.eq_str_none (aZ I q (by simp))
    | bl j => cases ry; exact PySem.EqMixed.eq_str_bool (aZ I q (by simp))
    | int j => obtain ⟨t', rfl⟩ := ry; exact PySem.EqMixed.eq_str_int (aZ I q (by simp))
    | str j => obtain ⟨t', rfl⟩ := ry; exact eq_str (aZ I q nZ)
    | _ => exact absurd (show false = true from hs) Bool.false_ne_true
  | byt i =>
    obtain ⟨t, rfl⟩ := rx
    cases y with
    | byt j => obtain ⟨t', rfl⟩ := ry; exact PySem.W.eq_bytes (aZ I q oN)
    | _ => exact absurd (show false = true from hs) Bool.false_ne_true
  | _ => cases y <;> exact absurd (show false = true from hs) Bool.false_ne_true
theorem w4 : OpR X (compareOp .NotEq) rNe := by
  intro pins s σ H x y v u Q I rx ry h
  obtain ⟨hs, q⟩ := h
  cases x with
  | non =>
    cases rx
    cases y with
    | non => cases ry; exact PySem.EqNone.ne_none_none (aZ I q (by simp))
    | bl j => cases ry; exact PySem.EqNone.ne_none_bool (aZ I q (by simp))
    | int j => obtain ⟨t', rfl⟩ := ry; exact PySem.EqNone.ne_none_int (aZ I q (by simp))
    | str j => obtain ⟨t', rfl⟩ := ry; exact PySem.EqNone.ne_none_str (aZ I q (by simp))
    | _ => exact absurd (show false = true from hs) Bool.false_ne_true
  | bl i =>
    cases rx
    cases y with
    | non => cases ry; exact PySem.EqNone.ne_bool_none (aZ I q (by simp))
    | bl j => cases ry; exact ne_bool (aZ I q (congrArg not pO))
    | str j => obtain ⟨t', rfl⟩ := ry; exact PySem.EqMixed.ne_bool_str (aZ I q (by simp))
    | _ => exact absurd (show false = true from hs) Bool.false_ne_true
  | int i =>
    obtain ⟨t, rfl⟩ := rx
    cases y with
    | non => cases ry; exact PySem.EqNone.ne_int_none (aZ I q (by simp))
    | int j => obtain ⟨t', rfl⟩ := ry; exact ne_int (aZ I q (congrArg not oO))
    | str j => obtain ⟨t', rfl⟩ := ry; exact PySem.EqMixed.ne_int_str (aZ I q (by simp))
    | _ => exact absurd (show false = true from hs) Bool.false_ne_true
  | str i =>
    obtain ⟨t, rfl⟩ := rx
    cases y with
    | non => cases ry; exact PySem.EqNone.ne_str_none (aZ I q (by simp))
    | bl j => cases ry; exact PySem.EqMixed.ne_str_bool (aZ I q (by simp))
    | int j => obtain ⟨t', rfl⟩ := ry; exact PySem.EqMixed.ne_str_int (aZ I q (by simp))
    | str j => obtain ⟨t', rfl⟩ := ry; exact ne_str (aZ I q (congrArg not nZ))
    | _ => exact absurd (show false = true from hs) Bool.false_ne_true
  | byt i =>
    obtain ⟨t, rfl⟩ := rx
    cases y with
    | byt j => obtain ⟨t', rfl⟩ := ry; exact PySem.W.ne_bytes (aZ I q (congrArg not oN))
    | _ => exact absurd (show false = true from hs) Bool.false_ne_true
  | _ => cases y <;> exact absurd (show false = true from hs) Bool.false_ne_true
theorem xb : OpR X (compareOp .Lt) (rI0 fun i j => .bl (decide (i < j))) := vt fun _ _ _ _ _ _ _ q => lt_int q
theorem wX : OpR X (compareOp .LtE) (rI0 fun i j => .bl (decide (i ≤ j))) := vt fun _ _ _ _ _ _ _ q => le_int q
theorem xu : OpR X (compareOp .Gt) (rI0 fun i j => .bl (decide (j < i))) := vt fun _ _ _ _ _ _ _ q => gt_int q
theorem oV : OpR X (compareOp .Lt) (fun x y H Q => ∃ i j, x = .str i ∧ y = .str j ∧ Q (.bl (decide (i.cps.toList < j.cps.toList))) H) := by
  intro pins s σ H x y v u Q I rx ry h
  obtain ⟨i, j, rfl, rfl, q⟩ := h
  obtain ⟨t, rfl⟩ := rx
  obtain ⟨t', rfl⟩ := ry
  exact lt_str (aZ I q rfl)
theorem OpR.or {f : Value → Value → Sem Value} {r r' : R2} (h : OpR X f r) (h' : OpR X f r') : OpR X f (fun x y H Q => r x y H Q ∨ r' x y H Q) := by
  intro pins s σ H x y v u Q I rx ry q
  rcases q with q | q
  · exact h pins s σ H x y v u Q I rx ry q
  · exact h' pins s σ H x y v u Q I rx ry q
theorem bg (b : Expr) {op : CmpOp} (h : op ≠ .In := by decide) (h2 : op ≠ .NotIn := by decide) : behindInMarks op b = false := by
  have e1 : (op == CmpOp.In) = false := by cases op <;> first | rfl | exact absurd rfl h
  have e2 : (op == CmpOp.NotIn) = false := by cases op <;> first | rfl | exact absurd rfl h2
  cases b <;> simp [behindInMarks, e1, e2]
theorem ef {op : CmpOp} {r : R2} (ho : OpR X (compareOp op) r) (ha : PE X a ta) (hb : PE X b tb) (hm : behindInMarks op b = false) : PE X (.Compare a [op] [b] pos) (tOp r ta tb) := by
  intro pins s σ H Q I h
  exact wpAny_Compare1 (vM ha hb I h fun v u s2 x y H2 I2 rx ry q => ho pins s2 σ H2 x y v u Q I2 rx ry q) hm
def xV (K : PySem.W.Frag) (x : V) (H : Hp) (k : Bool) : Prop :=
  match x with
  | .non => k = false
  | .bl b => k = b
  | .int i => k = (i != 0)
  | .str y => y.length ≤ sizeLine ∧ k = ((y.length : Int) != 0)
  | .byt y => y.size ≤ sizeLine ∧ k = ((y.size : Int) != 0)
  | .ref p => (∃ xs, SqL K H p xs ∧ k = !xs.isEmpty) ∨ (∃ xs, SqT K H p xs ∧ k = !xs.isEmpty) ∨ ∃ kvs, H p = some (.dK kvs) ∧ k = !kvs.isEmpty
  | _ => False
theorem mS {κ : Type} {kvs : List (κ × V)} {vs : List (κ × Value)} (r : KV kvs vs) : (!vs.isEmpty) = !kvs.isEmpty := by
  cases r <;> rfl
theorem iL {xs : List V} {its : List Value} (r : Vals xs its) : (!its.toArray.isEmpty) = !xs.isEmpty := by
  cases r <;> simp
theorem gA : (sizeLine : Nat) < 2 ^ 63 := by rw [sizeLine_eq]; decide
theorem xX : yb X (fun x H Q => ∃ k, xV X.K x H k ∧ Q k H) := by
  intro pins s σ H x v Q I rx h
  obtain ⟨k, e, q⟩ := h
  have hl := gA
  have hs : sizeLine = 16777216 := sizeLine_eq
  cases x with
  | non =>
    cases rx
    have e' : k = false := e
    subst e'
    exact truthy_none ⟨H, I, q⟩
  | bl b =>
    cases rx
    have e' : k = b := e
    subst e'
    exact wpAny_truthy_bool ⟨H, I, q⟩
  | int i =>
    obtain ⟨t, rfl⟩ := rx
    have e' : k = (i != 0) := e
    subst e'
    exact PySem.P.truthy_int ⟨H, I, q⟩
  | str y =>
    obtain ⟨t, rfl⟩ := rx
    obtain ⟨hy, e'⟩ : y.length ≤ sizeLine ∧ k = ((y.length : Int) != 0) := e
    subst e'
    exact PySem.P.truthy_str (by omega) ⟨H, I.tok _, q⟩
  | byt y =>
    obtain ⟨t, rfl⟩ := rx
    obtain ⟨hy, e'⟩ : y.size ≤ sizeLine ∧ k = ((y.size : Int) != 0) := e
    subst e'
    exact PySem.W.truthy_bytes (by omega) ⟨H, I.tok _, q⟩
  | ref p =>
    cases rx
    have e' : (∃ xs, SqL X.K H p xs ∧ k = !xs.isEmpty) ∨ (∃ xs, SqT X.K H p xs ∧ k = !xs.isEmpty) ∨ ∃ kvs, H p = some (.dK kvs) ∧ k = !kvs.isEmpty := e
    rcases e' with ⟨xs, hx, e'⟩ | ⟨xs, hx, e'⟩ | ⟨kvs, hx, e'⟩
    · subst e'
      obtain ⟨its, r, pl, hz⟩ := I.list hx
      have hlen := r.length
      exact wpAny_truthy_list pl.isList (by simp only [List.size_toArray]; omega) ⟨H, I.tok _, by rw [iL r]; exact q⟩
    · subst e'
      obtain ⟨its, r, pl, hz⟩ := I.tuple hx
      have hlen := r.length
      exact truthy_tuple pl (by simp only [List.size_toArray]; omega) ⟨H, I.tok _, by rw [iL r]; exact q⟩
    · subst e'
      obtain ⟨hz, hS, vs, r, m⟩ : kvs.length ≤ sizeLine ∧ (p == sysModules) = false ∧ ∃ vs, KV kvs vs ∧ s.heap.DictOf (bM X.prog X.w) p vs := I.hok p _ hx
      have hlen : kvs.length = vs.length := Paired.length r
      exact wpAny_truthy_dict hS m (by omega) ⟨H, I.tok _, by rw [mS r]; exact q⟩
  | _ => exact (show False from e).elim
theorem nD : OpR X (binaryOp .Add) (fun x y H Q => ∃ i j, x = .str i ∧ y = .str j ∧ i.length + j.length ≤ sizeLine ∧ Q (.str (i ++ j)) H) := by
  intro pins s σ H x y v u Q I rx ry h
  obtain ⟨i, j, rfl, rfl, hz, q⟩ := h
  obtain ⟨t, rfl⟩ := rx
  obtain ⟨t', rfl⟩ := ry
  exact add_str (fun t' tk => ⟨.str (i ++ j), H, I.tok _, ⟨_, rfl⟩, q⟩) hz
theorem eJ {x : V} {us : List Value} (r : Vals [x] us) : ∃ u, us = [u] ∧ RelV x u := by
  cases r with
  | cons r1 r2 => cases r2; exact ⟨_, rfl, r1⟩
theorem qF {x y : V} {us : List Value} (r : Vals [x, y] us) : ∃ u w', us = [u, w'] ∧ RelV x u ∧ RelV y w' := by
  cases r with
  | cons r1 r2 =>
    cases r2 with
    | cons r3 r4 => cases r4; exact ⟨_, _, rfl, r1, r3⟩
theorem o9 (hc : X.calm = true) : CallR X (.builtin "min") (fun xs H Q => ∃ i j, xs = [.int i, .int j] ∧ Q (.int (if j < i then j else i)) H) := by
  intro pins s σ H xs us Q I r h
  obtain ⟨i, j, rfl, q⟩ := h
  obtain ⟨u, w', rfl, ⟨t, rfl⟩, ⟨t', rfl⟩⟩ := qF r
  refine min_two_ints (I.ok.hd hc) fun h' tk k => ⟨_, H, I.kept k, ?_, q⟩
  by_cases hj : j < i
  · rw [if_pos hj, if_pos hj]; exact ⟨_, rfl⟩
  · rw [if_neg hj, if_neg hj]; exact ⟨_, rfl⟩
theorem pG : CallR X (.type "int") (fun xs H Q => (∃ i, xs = [.int i] ∧ Q (.int i) H) ∨ ∃ k, xs = [.bl k] ∧ Q (.int (if k then 1 else 0)) H) := by
  intro pins s σ H xs us Q I r h
  rcases h with ⟨i, rfl, q⟩ | ⟨k, rfl, q⟩
  · obtain ⟨u, rfl, t, rfl⟩ := eJ r
    exact call_int_int ⟨.int i, H, I, ⟨_, rfl⟩, q⟩
  · obtain ⟨u, rfl, r1⟩ := eJ r
    cases r1
    exact call_int_bool ⟨.int (if k then 1 else 0), H, I.tok _, ⟨_, rfl⟩, q⟩
def xR (K : PySem.W.Frag) (x : V) (H : Hp) (n : Nat) : Prop :=
  match x with
  | .str y => y.length ≤ sizeLine ∧ n = y.length
  | .byt y => y.size ≤ sizeLine ∧ n = y.size
  | .ref p => (∃ xs, SqL K H p xs ∧ n = xs.length) ∨ ∃ xs, SqT K H p xs ∧ n = xs.length
  | _ => False
theorem qC : CallR X (.builtin "len") (fun xs H Q => ∃ x n, xs = [x] ∧ xR X.K x H n ∧ Q (.int n) H) := by
  intro pins s σ H xs us Q I r h
  obtain ⟨x, n, rfl, e, q⟩ := h
  obtain ⟨u, rfl, rx⟩ := eJ r
  have hl := gA
  have hs : sizeLine = 16777216 := sizeLine_eq
  cases x with
  | str y =>
    obtain ⟨t, rfl⟩ := rx
    obtain ⟨hy, e'⟩ : y.length ≤ sizeLine ∧ n = y.length := e
    subst e'
    exact len_str (by omega) ⟨.int _, H, I.tok _, ⟨_, rfl⟩, q⟩
  | byt y =>
    obtain ⟨t, rfl⟩ := rx
    obtain ⟨hy, e'⟩ : y.size ≤ sizeLine ∧ n = y.size := e
    subst e'
    exact PySem.W.len_bytes (by omega) ⟨.int _, H, I.tok _, ⟨_, rfl⟩, q⟩
  | ref p =>
    cases rx
    have e' : (∃ xs, SqL X.K H p xs ∧ n = xs.length) ∨ ∃ xs, SqT X.K H p xs ∧ n = xs.length := e
    rcases e' with ⟨xs, hx, e'⟩ | ⟨xs, hx, e'⟩
    · subst e'
      obtain ⟨its, r', pl, hz⟩ := I.list hx
      have hlen := r'.length
      exact Calls.call_len_list pl.isList (by simp only [List.size_toArray]; omega) ⟨.int xs.length, H, I.tok _, ⟨_, by simp only [List.size_toArray]; rw [hlen]⟩, q⟩
    · subst e'
      obtain ⟨its, r', pl, hz⟩ := I.tuple hx
      have hlen := r'.length
      exact len_tuple pl (by simp only [List.size_toArray]; omega) ⟨.int xs.length, H, I.tok _, ⟨_, by simp only [List.size_toArray]; rw [hlen]⟩, q⟩
  | _ => exact (show False from e).elim
end
end L2
namespace L2
open PySem PySem.Spec PyProof.Rows
structure ObjM (h : Heap) (x dx C : Addr) (mA : Str → Option Value) : Prop where
  obj : h.get? x = some (PySem.W.instObj C dx)
  ns : h.Ns1 dx mA
  ne : dx ≠ x
theorem pB {h : Heap} {dx : Addr} {mA : Str → Option Value} (n : h.Ns1 dx mA) : ∃ od, h.get? dx = some od ∧ ∀ name, PySem.W.lookIn name od = some (mA name) := by
  obtain ⟨o, es, ep, ho, hd, hk, _, hm⟩ := n
  refine ⟨o, ho, fun name => ?_⟩
  have e := hm name
  unfold nsFind findBy at e
  rw [← Array.find?_toList] at e
  unfold PySem.W.lookIn
  rw [hd]
  dsimp only
  split
  · rename_i y q
    rw [q] at e
    exact congrArg some e
  · rename_i q
    rw [q] at e
    have a : es.toList.any (·.refKey) = false := by
      rw [List.any_eq_false]
      intro y hy
      obtain ⟨z, t, hkey⟩ := hk y (Array.mem_toList_iff.mp hy)
      simp [DictEntry.refKey, hkey]
    have a' : ¬ es.toList.any (·.refKey) = true := by rw [a]; exact Bool.false_ne_true
    rw [if_neg a']
    exact congrArg some e
theorem ObjM.look {h : Heap} {x dx C : Addr} {mA : Str → Option Value} (I : ObjM h x dx C mA) : ∃ od, PySem.W.InstAt h x (PySem.W.instObj C dx) C (some od) ∧ ∀ name, PySem.W.lookIn name od = some (mA name) :=
  let ⟨od, ho, hl⟩ := pB I.ns
  ⟨od, ⟨I.obj, rfl, rfl, ho⟩, hl⟩
section
variable {prog : Program} {w : World} {A : Around} {E : Value → Shared → Prop} {s : Shared} {K : PySem.W.Frag} {x dx C f : Addr} {mA : Str → Option Value} {name : Str} {v : Value}
theorem rQ {expr : Bool} {Q : Value → Shared → Prop} (X : K.In s.heap) (I : ObjM s.heap x dx C mA) (hg : PySem.W.plainGet K C name = true) (hh : PySem.W.hasDictIn K C = true)
    (ha : PySem.W.findIn K (.ref C) name = some none) (hv : mA name = some v) (hv' : PySem.W.handedIn v = true) (h : Q v { s with toks := s.toks + 1 }) :
    wpAny (model prog w) A (getAttr (.ref x) name expr) Q E s := by
  obtain ⟨od, J, hl⟩ := I.look
  exact PySem.W.get_value X J (PySem.W.plainGet_of hg).1 (PySem.W.findObj_own hh ha rfl (by rw [hl, hv])) hv' h
theorem qJ {pl : Sem Bool} {Q : Value × List Value → Shared → Prop} (X : K.In s.heap) (I : ObjM s.heap x dx C mA) (hg : PySem.W.plainGet K C name = true)
    (hf : PySem.W.findIn K (.ref C) name = some (some (.ref f))) (ht : PySem.W.isFn K (.ref f) = true) (hv : mA name = none) (h : Q (.ref f, [.ref x]) s) :
    wpAny (model prog w) A (getMethod (.ref x) name pl) Q E s := by
  obtain ⟨od, J, hl⟩ := I.look
  exact PySem.W.method_fn X J (PySem.W.plainGet_of hg).1 (PySem.W.plainGet_of hg).2 hf (beq_iff_eq.mp ht) (by show (PySem.W.lookIn name od).map (·.isSome) = some false; rw [hl, hv]; rfl) h
theorem r_ {ns : List Str} {Q : Unit → Shared → Prop} (X : K.In s.heap) (I : ObjM s.heap x dx C mA)
    (hs : PySem.W.findIn K (.ref C) "__setattr__" = some (some (.builtin "object.__setattr__"))) (hp : PySem.W.plainOver K C = true) (ht : PySem.W.takerIn K C name = some none) (hh : PySem.W.hasDictIn K C = true)
    (hw : PySem.Within mA ns) (hsz : ns.length ≤ sizeLine)
    (h : ∀ h', ObjM h' x dx C (fun y => if y = name then some v else mA y) → Heap.SameBut dx s.heap h' → Q () { s with heap := h', toks := s.toks + 2 }) :
    wpAny (model prog w) A (setAttr (.ref x) name v) Q E s := by
  obtain ⟨od, J, hl⟩ := I.look
  refine PySem.W.set_plain X J hs (PySem.W.osa_open (s := { s with toks := s.toks + 1 }) (r := none) X J hp ht fun b => ?_)
  obtain ⟨cd, hc, hd'⟩ := PySem.W.any_some hh
  have hx : s.heap.get? x = some ⟨.ref C, some dx, .plain, #[]⟩ := I.obj
  refine wpAny_bind (wpAny_pure (wpAny_bind (wpAny_bind (wpAny_loadPart hx (wpAny_bind (PySem.W.Looks.here (s := { s with toks := s.toks + 1 }) (PySem.W.looks_clsIn X hc) ?_))))))
  rw [hd']
  refine wpAny_pure (a := some dx) (wpAny_bind (wpAny_pure (wpAny_bind ?_)))
  refine wpAny_nsSet1 (s := { s with toks := s.toks + 1 }) I.ns fun h' hn2 hs2 => ?_
  obtain ⟨oD, esD, epD, hoD, hdD, hcD⟩ := hn2.count (PySem.Within.cons name v hw)
  refine wpAny_bind (wpAny_lookBehind hoD (by rw [hdD]; exact pastItsLine_dict (Nat.le_trans hcD (by rw [List.length_cons]; omega))) ?_)
  exact wpAny_pure (h _ ⟨(hs2.2 _ (Ne.symm I.ne)).trans I.obj, hn2, I.ne⟩ hs2)
theorem qq {R : Result → Shared → Prop} {vs : List Value} {kw : List (Str × Value)} (X : K.In s.heap) (hm : PySem.W.makesIn K C = true)
    (hi : PySem.W.findIn K (.ref C) "__init__" = some (some (.ref f))) (hf : PySem.W.typeIn K (.ref f) = some (.type "function"))
    (h : codeAny (model prog w) (A.under (.builtin "type.__call__" ⟨.ref C :: vs, kw⟩)) (.call (.ref f) ⟨.ref (s.heap.objs.size + 1) :: vs, kw⟩) (PySem.W.InitBack (s.heap.objs.size + 1) R)
      { s with heap := (s.heap.push PySem.W.emptyDict).push (PySem.W.instObj C s.heap.objs.size) }) :
    codeAny (model prog w) A (.call (.ref C) ⟨vs, kw⟩) R s := by
  obtain ⟨hh, g, d, t, os⟩ := s
  exact PySem.W.make_core (PySem.W.makes_of X hm) (PySem.W.looks_findIn X hi) (fun self => PySem.W.bind_fn X self hf) (.inl rfl) h
end
def eZ (f : Str) (v : V) : List (Str × V) → List (Str × V)
  | [] => [(f, v)]
  | (g, x) :: r => if g = f then (g, v) :: r else (g, x) :: eZ f v r
theorem gU (f g : Str) (v : V) : ∀ fs : List (Str × V), (eZ f v fs).lookup g = if g = f then some v else fs.lookup g
  | [] => by
    show List.lookup g [(f, v)] = _
    by_cases h : g = f
    · have hb : (g == f) = true := beq_iff_eq.mpr h
      simp only [List.lookup, hb, if_pos h]
    · have hb : (g == f) = false := beq_eq_false_iff_ne.mpr h
      simp only [List.lookup, hb, if_neg h]
  | (k, x) :: r => by
    have ih := gU f g v r
    rw [show eZ f v ((k, x) :: r) = (if k = f then (k, v) :: r else (k, x) :: eZ f v r) from rfl]
    by_cases hk : k = f
    · rw [if_pos hk]
      by_cases h : g = k
      · have hb : (g == k) = true := beq_iff_eq.mpr h
        simp only [List.lookup, hb, if_pos (h.trans hk)]
      · have hb : (g == k) = false := beq_eq_false_iff_ne.mpr h
        simp only [List.lookup, hb, if_neg (fun e : g = f => h (e.trans hk.symm))]
    · rw [if_neg hk]
      by_cases h : g = k
      · have hb : (g == k) = true := beq_iff_eq.mpr h
        simp only [List.lookup, hb, if_neg (fun e : g = f => hk (h.symm.trans e))]
      · have hb : (g == k) = false := beq_eq_false_iff_ne.mpr h
        simp only [List.lookup, hb]
        exact ih
theorem gH (f : Str) (v : V) : ∀ fs : List (Str × V), f ∈ (eZ f v fs).map (·.1) ∧ ∀ g, g ∈ fs.map (·.1) → g ∈ (eZ f v fs).map (·.1)
  | [] => ⟨by simp [eZ], fun g h => by simp at h⟩
  | (k, x) :: r => by
    obtain ⟨i1, i2⟩ := gH f v r
    rw [show eZ f v ((k, x) :: r) = (if k = f then (k, v) :: r else (k, x) :: eZ f v r) from rfl]
    by_cases hk : k = f
    · rw [if_pos hk]
      subst hk
      exact ⟨by simp, fun g h => by simpa using h⟩
    · rw [if_neg hk]
      refine ⟨?_, fun g h => ?_⟩
      · rw [List.map_cons]
        exact List.mem_cons_of_mem _ i1
      · rw [List.map_cons] at h ⊢
        rcases List.mem_cons.mp h with e | e
        · exact List.mem_cons.mpr (.inl e)
        · exact List.mem_cons_of_mem _ (i2 g e)
theorem gZ (f : Str) (v : V) : ∀ fs : List (Str × V), (eZ f v fs).length ≤ fs.length + 1
  | [] => by simp [eZ]
  | (k, x) :: r => by
    have ih := gZ f v r
    rw [show eZ f v ((k, x) :: r) = (if k = f then (k, v) :: r else (k, x) :: eZ f v r) from rfl]
    by_cases hk : k = f
    · rw [if_pos hk, List.length_cons, List.length_cons]; omega
    · rw [if_neg hk, List.length_cons, List.length_cons]; omega
theorem RelO.some_of {v : V} {o : Option Value} (r : RelO (some v) o) : ∃ u, o = some u ∧ RelV v u := by
  cases o with
  | none => exact (show False from r).elim
  | some u => exact ⟨u, rfl, r⟩
theorem RelO.none_of {o : Option Value} (r : RelO none o) : o = none := by
  cases o with
  | none => rfl
  | some u => exact (show False from r).elim
theorem pd {v : V} {u : Value} (r : RelV v u) : PySem.W.handedIn u = true := by
  cases v with
  | non => cases (show u = Value.none from r); rfl
  | bl b => cases (show u = Value.bool b from r); rfl
  | int i => obtain ⟨t, e⟩ := (show ∃ t, u = Value.int i t from r); cases e; rfl
  | str x => obtain ⟨t, e⟩ := (show ∃ t, u = Value.str x t from r); cases e; rfl
  | byt b => obtain ⟨t, e⟩ := (show ∃ t, u = Value.bytes b t from r); cases e; rfl
  | flt b => obtain ⟨t, e⟩ := (show ∃ t, u = Value.float b t from r); cases e; rfl
  | ref a => cases (show u = Value.ref a from r); rfl
  | ty n => cases (show u = Value.type n from r); rfl
section
variable {P : Program} {w : World} {H H' : Hp} {h h' : Heap} {a C dx : Addr} {fs fs' : List (Str × V)}
theorem ii (hok : HOk P w H h) (e : H a = some (.ins C dx fs)) : ∃ mA, ObjM h a dx C mA ∧ (∀ f, RelO (fs.lookup f) (mA f)) ∧ PySem.Within mA (fs.map (·.1)) ∧ fs.length ≤ 1000 ∧ H dx = some (.own a) := by
  obtain ⟨d, z, ne, ob, mA, n, r, q⟩ := (show ObjOk P w H h a (.ins C dx fs) from hok a _ e)
  exact ⟨mA, ⟨ob, n, ne⟩, r, q, z, d⟩
end
structure Cls (K : PySem.W.Frag) (C : Addr) : Prop where
  pg : PySem.W.plainGet K C Str.empty = true
  hd : PySem.W.hasDictIn K C = true
  po : PySem.W.plainOver K C = true
  sa : PySem.W.findIn K (.ref C) "__setattr__" = some (some (.builtin "object.__setattr__"))
theorem Cls.get {K : PySem.W.Frag} {C : Addr} (c : Cls K C) (f : Str) : PySem.W.plainGet K C f = true := c.pg
def NoAttr (K : PySem.W.Frag) (C : Addr) (f : Str) : Prop := PySem.W.findIn K (.ref C) f = some none
theorem NoAttr.taker {K : PySem.W.Frag} {C : Addr} {f : Str} (n : NoAttr K C f) : PySem.W.takerIn K C f = some none := by
  unfold PySem.W.takerIn
  rw [show PySem.W.findIn K (.ref C) f = some none from n]
  rfl
structure mF (K : PySem.W.Frag) (C : Addr) (m : Str) (f : Addr) : Prop where
  at_ : PySem.W.findIn K (.ref C) m = some (some (.ref f))
  fn : PySem.W.isFn K (.ref f) = true
  kp : PySem.W.keepIn K (.ref f) = true
section
variable {X : Cx} {pins : List (Addr × Obj)} {σ : St} {H : Hp} {s : Shared} {a C dx : Addr} {fs : List (Str × V)} {f : Str} {v : V} {A : Around} {E : Value → Shared → Prop}
theorem mX {b : Bool} {Q : Value → Shared → Prop} (I : Inv X pins σ H s) (e : H a = some (.ins C dx fs)) (c : Cls X.K C) (n : NoAttr X.K C f) (l : fs.lookup f = some v)
    (h : ∀ u s', Inv X pins σ H s' → RelV v u → Q u s') : wpAny (model X.prog X.w) A (getAttr (.ref a) f b) Q E s := by
  obtain ⟨mA, O, r, _, _, _⟩ := ii I.hok e
  obtain ⟨u, hu, ru⟩ := RelO.some_of (v := v) (o := mA f) (by rw [← l]; exact r f)
  exact rQ I.kIn O (c.get f) c.hd n hu (pd ru) (h u _ (I.tok _) ru)
theorem m3 {m : Str} {g : Addr} {pl : Sem Bool} {Q : Value × List Value → Shared → Prop} (I : Inv X pins σ H s) (e : H a = some (.ins C dx fs)) (c : Cls X.K C) (k : mF X.K C m g) (l : fs.lookup m = none)
    (h : Q (.ref g, [.ref a]) s) : wpAny (model X.prog X.w) A (getMethod (.ref a) m pl) Q E s := by
  obtain ⟨mA, O, r, _, _, _⟩ := ii I.hok e
  have hn : mA m = none := RelO.none_of (by rw [← l]; exact r m)
  exact qJ I.kIn O (c.get m) k.at_ k.fn hn h
theorem nA {y : V} {u : Value} {Q : Unit → Shared → Prop} (I : Inv X pins σ H s) (e : H a = some (.ins C dx fs)) (c : Cls X.K C) (n : NoAttr X.K C f) (hl : fs.length < 1000) (ry : RelV y u)
    (h : ∀ s', Inv X pins σ (upd H a (.ins C dx (eZ f y fs))) s' → Q () s') : wpAny (model X.prog X.w) A (setAttr (.ref a) f u) Q E s := by
  obtain ⟨mA, O, r, wi, _, ho⟩ := ii I.hok e
  have hz : (fs.map (·.1)).length ≤ sizeLine := by rw [List.length_map, sizeLine_eq]; omega
  refine r_ I.kIn O c.sa c.po n.taker c.hd wi hz fun h' O' sb => h _ ?_
  have hd : ∃ o, h'.get? dx = some o := let ⟨o, _, _, e', _⟩ := O'.ns; ⟨o, e'⟩
  refine I.write (x := a) (e := dx) (by rw [e]; exact True.intro) (.inr ho) (fun b q hb z => (sb.2 b hb).trans z) hd ?_
  refine ⟨by rw [ai O.ne]; exact ho, ?_, O.ne, O'.obj, _, O'.ns, fun g => ?_, fun g hg => ?_⟩
  · have := gZ f y fs; omega
  · show RelO ((eZ f y fs).lookup g) (if g = f then some u else mA g)
    rw [gU]
    by_cases q : g = f
    · rw [if_pos q, if_pos q]; exact ry
    · rw [if_neg q, if_neg q]; exact r g
  · by_cases q : g = f
    · rw [q]; exact (gH f y fs).1
    · refine (gH f y fs).2 g (wi g fun z => hg ?_)
      show (if g = f then some u else mA g) = none
      rw [if_neg q]; exact z
theorem Inv.made (I : Inv X pins σ H s) : Inv X pins σ (upd (upd H s.heap.objs.size (.own (s.heap.objs.size + 1))) (s.heap.objs.size + 1) (.ins C s.heap.objs.size []))
    { s with heap := (s.heap.push PySem.W.emptyDict).push (PySem.W.instObj C s.heap.objs.size) } := by
  have e1 : (s.heap.push PySem.W.emptyDict).get? s.heap.objs.size = some PySem.W.emptyDict := Heap.get?_push_size s.heap rfl
  have e2 : ((s.heap.push PySem.W.emptyDict).push (PySem.W.instObj C s.heap.objs.size)).get? (s.heap.objs.size + 1) = some (PySem.W.instObj C s.heap.objs.size) := by
    have := Heap.get?_push_size (s.heap.push PySem.W.emptyDict) (o := PySem.W.instObj C s.heap.objs.size) rfl
    rwa [Heap.size_push] at this
  have e3 : (s.heap.push PySem.W.emptyDict).Ns s.heap.objs.size (fun _ => none) := ⟨PySem.W.emptyDict, #[], _, e1, rfl, (fun e he => absurd he (by simp)), fun _ => rfl⟩
  have I1 := I.laid (a := s.heap.objs.size) (o := .own (s.heap.objs.size + 1)) (h' := s.heap.push PySem.W.emptyDict) (t' := s.toks) (fun b u q => Heap.get?_push_of_some _ q) (Nat.le_refl _) ⟨_, e1⟩
  refine I1.laid (a := s.heap.objs.size + 1) (o := .ins C s.heap.objs.size []) (t' := s.toks) (fun b u q => Heap.get?_push_of_some _ q) (Nat.le_of_eq (Heap.size_push _ _)) ?_
  have ne : s.heap.objs.size ≠ s.heap.objs.size + 1 := Nat.ne_of_lt (Nat.lt_succ_self _)
  refine ⟨by rw [ai ne, ad], Nat.zero_le _, ne, e2, fun _ => none, (Heap.Ns1.of_empty e3).at fun o q => Heap.get?_push_of_some _ q, fun _ => True.intro, fun y hy => absurd rfl hy⟩
theorem tF {prog : Program} {w : World} {env : Env} {e : Expr} {f : Str} {pos : Pos} {s : Shared} {Q : Value → Shared → Prop} (hb : attributeBase e f env (eval e env) = eval e env)
    (h : wpAny (model prog w) A (eval e env) (fun o s₁ => wpAny (model prog w) A (getAttr o f true) Q E s₁) E s) : wpAny (model prog w) A (eval (.Attribute e f pos) env) Q E s :=
  Attribute_any_ h (by rw [arm_eval_Attribute, hb])
end
section
variable {X : Cx} {o e value : Expr} {f : Str} {pos pos' tpos : Pos} {ta tv : TE}
end
section
variable {X : Cx} {pins : List (Addr × Obj)} {σ : St} {H : Hp} {s : Shared} {A : Around} {E : Value → Shared → Prop} {Q : Value → Shared → Prop} {c : Value} {b : Bool}
inductive fF (K : PySem.W.Frag) (H : Hp) : V → Value → Prop where
  | non : fF K H .non (.type "NoneType")
  | bl (x : Bool) : fF K H (.bl x) (.type "bool")
  | int (i : Int) : fF K H (.int i) (.type "int")
  | str (x : Str) : fF K H (.str x) (.type "str")
  | flt (x : UInt64) : fF K H (.flt x) (.type "float")
  | lst {a : Addr} {xs : List V} (e : H a = some (.lst xs)) : fF K H (.ref a) (.type "list")
  | frz {a : Addr} {o : Obj} {xs : List V} (e : H a = some (.frz o (.lst xs))) : fF K H (.ref a) (.type "list")
  | tup {a : Addr} {xs : List V} (e : H a = some (.tup xs)) : fF K H (.ref a) (.type "tuple")
  | dK {a : Addr} {kvs : List (Key × V)} (e : H a = some (.dK kvs)) : fF K H (.ref a) (.type "dict")
  | dT {a : Addr} {kvs : List (List Key × V)} (e : H a = some (.dT kvs)) : fF K H (.ref a) (.type "dict")
  | ins {a C dx : Addr} {fs : List (Str × V)} (e : H a = some (.ins C dx fs)) (cl : Cls K C) (ha : PySem.W.findIn K (.ref C) "__class__" = some (some (.builtin "object.__class__")))
      (hn : PySem.W.specialIn K (.builtin "object.__class__") "__get__" = some (some (.builtin "getset_descriptor.__get__"))) (htk : PySem.W.takesIn K (.builtin "object.__class__") = some true)
      (hm : PySem.W.mroIn K C (.type "object") = some true) : fF K H (.ref a) (.ref C)
theorem o6 {x : V} {u t : Value} (I : Inv X pins σ H s) (rx : RelV x u) (ty : fF X.K H x t) (e : PySem.W.kitOne X.K t c = some b) (h : ∀ tk, Q (.bool b) { s with toks := tk }) :
    wpAny (model X.prog X.w) A (call (.builtin "isinstance") [u, c]) Q E s := by
  cases ty with
  | non => cases (show u = Value.none from rx); exact PySem.W.kia_one PySem.W.kitx_none I.kIn True.intro e (fun z => nomatch z) h
  | bl y => cases (show u = Value.bool y from rx); exact PySem.W.kia_one PySem.W.kitx_bool I.kIn True.intro e (fun z => nomatch z) h
  | int i => obtain ⟨t, q⟩ := (show ∃ t, u = Value.int i t from rx); cases q; exact PySem.W.kia_one PySem.W.kitx_int I.kIn True.intro e (fun z => nomatch z) h
  | str y => obtain ⟨t, q⟩ := (show ∃ t, u = Value.str y t from rx); cases q; exact PySem.W.kia_one PySem.W.kitx_str I.kIn True.intro e (fun z => nomatch z) h
  | flt y => obtain ⟨t, q⟩ := (show ∃ t, u = Value.float y t from rx); cases q; exact PySem.W.kia_one PySem.W.kitx_float I.kIn True.intro e (fun z => nomatch z) h
  | @lst a xs ea =>
    cases (show u = Value.ref a from rx)
    obtain ⟨_, _, n, _, h1⟩ := (show ObjOk X.prog X.w H s.heap a (.lst xs) from I.hok a _ ea)
    exact PySem.W.kia_one PySem.W.kitx_list I.kIn ⟨_, h1, rfl⟩ e (fun z => nomatch z) h
  | @frz a ob xs ea =>
    cases (show u = Value.ref a from rx)
    obtain ⟨_, _, _, n, _, h1⟩ := (show ObjOk X.prog X.w H s.heap a (.frz ob (.lst xs)) from I.hok a _ ea)
    exact PySem.W.kia_one PySem.W.kitx_list I.kIn ⟨_, h1, rfl⟩ e (fun z => nomatch z) h
  | @tup a xs ea =>
    cases (show u = Value.ref a from rx)
    obtain ⟨_, _, _, p⟩ := (show ObjOk X.prog X.w H s.heap a (.tup xs) from I.hok a _ ea)
    obtain ⟨o, h1, h2, _⟩ := p
    exact PySem.W.kia_one PySem.W.kitx_tuple I.kIn ⟨o, h1, h2⟩ e (fun z => nomatch z) h
  | @dK a kvs ea =>
    cases (show u = Value.ref a from rx)
    obtain ⟨_, _, vs, _, p⟩ := (show ObjOk X.prog X.w H s.heap a (.dK kvs) from I.hok a _ ea)
    obtain ⟨o, es, ep, h1, h2, _⟩ := p
    exact PySem.W.kia_one PySem.W.kitx_dict I.kIn ⟨o, h1, h2.1⟩ e (fun z => nomatch z) h
  | @dT a kvs ea =>
    cases (show u = Value.ref a from rx)
    obtain ⟨_, _, xs, _, o, es, ep, h1, h2, _⟩ := (show ObjOk X.prog X.w H s.heap a (.dT kvs) from I.hok a _ ea)
    exact PySem.W.kia_one PySem.W.kitx_dict I.kIn ⟨o, h1, h2.1⟩ e (fun z => nomatch z) h
  | @ins a C dx fs ea cl ha hn htk hm =>
    cases (show u = Value.ref a from rx)
    obtain ⟨mA, O, _⟩ := ii I.hok ea
    obtain ⟨od, J, _⟩ := O.look
    exact PySem.W.kia_one (PySem.W.kitx_own (cl.get _) cl.hd ha hn htk hm) I.kIn J e (fun z => nomatch z) h
end
end L2
namespace L2
open PySem PySem.Spec PyProof.Rows
structure Room (k : Nat) (A : Around) : Prop where
  hd : A.handled = none
  dp : A.depth + 3 * k + 5 < recursionLimit
  un : A.units + 16 * k + 200 < cLine
theorem Room.mono {j k : Nat} {A : Around} (r : Room k A) (h : j ≤ k) : Room j A := ⟨r.hd, by have := r.dp; omega, by have := r.un; omega⟩
theorem Room.deeper {k : Nat} {A : Around} (r : Room (k + 1) A) (env : Env) : Room k (A.deeper env) :=
  ⟨r.hd, by have := r.dp; show A.depth + 1 + 3 * k + 5 < _; omega, by have := r.un; show A.units + 3 + 16 * k + 200 < _; omega⟩
theorem m9 {A : Around} {C : Addr} {us : List Value} {kw : List (Str × Value)} : (A.under (.builtin "type.__call__" ⟨.ref C :: us, kw⟩)).depth = A.depth + 1 := by
  first | rfl | simp [Around.under, Code.weight, Code.isCreation, Code.isGuard, Code.isCaller, Code.frames, Code.isFrame, guardIds]
theorem m5 {A : Around} {C : Addr} {us : List Value} {kw : List (Str × Value)} : (A.under (.builtin "type.__call__" ⟨.ref C :: us, kw⟩)).units = A.units + 1 := by
  first | rfl | simp [Around.under, Code.cUnits, Code.frames, Code.isFrame]
theorem Room.make {k : Nat} {A : Around} (r : Room (k + 1) A) (C : Addr) (us : List Value) (kw : List (Str × Value)) : Room k (A.under (.builtin "type.__call__" ⟨.ref C :: us, kw⟩)) :=
  ⟨r.hd, by have := r.dp; rw [m9]; omega, by have := r.un; rw [m5]; omega⟩
theorem Room.depth {k : Nat} {A : Around} (r : Room k A) : A.depth < recursionLimit := by have := r.dp; omega
def tK : TA := fun _ H Q => Q [] H
def qO (ta : TE) (tr : TA) : TA := fun σ H Q => ta σ H fun x H1 => tr σ H1 fun xs H2 => Q (x :: xs) H2
section
variable {X : Cx} {e : Expr} {es : List Expr} {te : TE} {t : TA} {pos : Pos}
theorem wk : PA X [] tK := fun _ _ _ _ H Q I h => Calls.spliced_nil ⟨[], H, I, .nil, h⟩
theorem sL (ha : PE X e te) (hr : PA X es t) (hs : starEach (e :: es) X.env = (false, eval e X.env) :: starEach es X.env := by rfl) : PA X (e :: es) (qO te t) := by
  intro pos pins s σ H Q I h
  rw [hs]
  show wpAny _ _ (spliced ((false, eval e X.env) :: backTo pos (starEach es X.env))) _ _ s
  refine Calls.spliced_cons (thn (ha pins s σ H _ I h) fun u s1 ⟨x, H1, I1, r1, q1⟩ => ?_)
  exact thn (hr pos pins s1 σ H1 _ I1 q1) fun us s2 ⟨xs, H2, I2, r2, q2⟩ => ⟨x :: xs, H2, I2, .cons r1 r2, q2⟩
def xt (t : TA) : TE := fun σ H Q => t σ H fun xs H1 => xs.length ≤ sizeLine ∧ ∀ p, H1 p = none → Q (.ref p) (upd H1 p (.tup xs))
def wT (t : TA) : TE := fun σ H Q => t σ H fun xs H1 => xs.length ≤ sizeLine ∧ ∀ p, H1 p = none → Q (.ref p) (upd H1 p (.lst xs))
theorem eF {x1} (h : PA X es t) : PE X (.Tuple es x1 pos) (xt t) := by
  intro pins s σ H Q I hq
  refine wpAny_Tuple_spliced (thn (h pos pins s σ H _ I hq) fun us s1 ⟨xs, H1, I1, r, z, q⟩ => ⟨by rw [← r.length]; exact z, ?_⟩)
  have hf : H1 s1.heap.objs.size = none := I1.hok.fresh (Nat.le_refl _)
  refine ⟨.ref s1.heap.objs.size, upd H1 s1.heap.objs.size (.tup xs), I1.laid (t' := s1.toks) (fun b u e => Heap.get?_push_of_some _ e) (Nat.le_refl _) ?_, rfl, q _ hf⟩
  exact ⟨z, us, r, ⟨_, Heap.get?_push_size _ rfl, rfl, _, rfl⟩⟩
theorem bP (h : PA X es t) : PE X (.List es pos) (wT t) := by
  intro pins s σ H Q I hq
  refine wpAny_List_spliced (thn (h pos pins s σ H _ I hq) fun us s1 ⟨xs, H1, I1, r, z, q⟩ => ⟨by rw [← r.length]; exact z, ?_⟩)
  have hf : H1 s1.heap.objs.size = none := I1.hok.fresh (Nat.le_refl _)
  refine ⟨.ref s1.heap.objs.size, upd H1 s1.heap.objs.size (.lst xs), I1.laid (t' := s1.toks) (fun b u e => Heap.get?_push_of_some _ e) (Nat.le_refl _) ?_, rfl, q _ hf⟩
  exact ⟨z, us, 0, r, Heap.get?_push_size _ rfl⟩
end
abbrev Sp := List V → Hp → VK → XK → Prop
abbrev CXT := List Env → Hp → Shared → XK → Value → Shared → Prop
structure Env0 (P : Program) (w : World) (K : PySem.W.Frag) (mg : Str → Option Value) (base : Heap) (A : Around) (outer : List Env) (s : Shared) (H : Hp) : Prop where
  frames : A.frames = some outer
  mod : Mod K mg base
  bs : ∀ b o, base.get? b = some o → s.heap.get? b = some o ∧ H b = none
  bsz : base.objs.size ≤ s.heap.objs.size
  funs : s.heap.FunFrames base outer
  frf : ∀ b ∈ frs outer, H b = none
  hok : HOk P w H s.heap
  bare : AllBare s.gens
def CE (outer : List Env) (P : Program) (w : World) (H : Hp) (s : Shared) (Q : VK) (u : Value) (s' : Shared) : Prop :=
  ∃ v H', s'.os = s.os ∧ AllBare s'.gens ∧ Un (frs outer) [] H H' s.heap s'.heap ∧ HOk P w H' s'.heap ∧ RelV v u ∧ Q v H'
def CR (CX : CXT) (outer : List Env) (P : Program) (w : World) (H : Hp) (s : Shared) (Q : VK) (E : XK) (r : Result) (s' : Shared) : Prop :=
  match r with
  | .ok (.ret u) => CE outer P w H s Q u s'
  | .ok _ => False
  | .error e => CX outer H s E e s'
structure b_ (P : Program) (w : World) (K : PySem.W.Frag) (mg : Str → Option Value) (base : Heap) (CX : CXT) (k : Nat) (f : Addr) (fd : FuncData) (ps : List Str) (sp : Sp) : Prop where
  len : ∀ vs H Q E, sp vs H Q E → vs.length = ps.length
  run : ∀ (A : Around) (outer : List Env) (s : Shared) (H : Hp) (args : Args) (us : List Value) (vs : List V) (Q : VK) (E : XK), Room k A → Env0 P w K mg base A outer s H → BindsTo s fd args (ps.zip us) → Vals vs us → sp vs H Q E →
    codeAny (model P w) A (.call (.ref f) args) (CR CX outer P w H s Q E) s
theorem Env0.make {P : Program} {w : World} {K : PySem.W.Frag} {mg : Str → Option Value} {base : Heap} {A : Around} {outer : List Env} {s : Shared} {H : Hp} (e : Env0 P w K mg base A outer s H) (C : Addr) (us : List Value) (kw : List (Str × Value)) :
    Env0 P w K mg base (A.under (.builtin "type.__call__" ⟨.ref C :: us, kw⟩)) outer s H := ⟨by first | exact e.frames | (simpa [Around.under, Code.envs, Code.isFrame, pushEnvs] using e.frames), e.mod, e.bs, e.bsz, e.funs, e.frf, e.hok, e.bare⟩
section
variable {X : Cx} {pins : List (Addr × Obj)} {σ : St} {H : Hp} {s s' : Shared}
theorem Inv.env0 (I : Inv X pins σ H s) : Env0 X.prog X.w X.K X.mg X.base X.A X.stack s H :=
  ⟨I.ok.frames, I.ok.mod, I.bs, Nat.le_trans I.ok.bsz I.sz, I.stack, I.stkFree, I.hok, I.bare⟩
theorem Inv.after {Q : VK} {u : Value} (I : Inv X pins σ H s) (h : CE X.stack X.prog X.w H s Q u s') : EP X pins σ Q u s' := by
  obtain ⟨v, H', os, bare, un, hok, r, q⟩ := h
  obtain ⟨hh, g, d, t, os'⟩ := s'
  obtain rfl : os' = s.os := os
  exact ⟨v, H', I.call (h' := hh) (g' := g) (d' := d) (t' := t) (ch := []) un hok bare (fun b z => absurd z (by simp)), r, q⟩
end
def Binds (K : PySem.W.Frag) (fd : FuncData) (ps : List Str) (ds : List Value) : Prop :=
  ∀ (s : Shared) (us : List Value), K.In s.heap → (us ++ ds).length = ps.length → BindsTo s fd ⟨us, []⟩ (ps.zip (us ++ ds))
theorem Binds.all {K : PySem.W.Frag} {fd : FuncData} {ps : List Str} (h : ∀ us : List Value, us.length = ps.length → bindArgs fd ⟨us, []⟩ = pure (ps.zip us)) : Binds K fd ps [] := fun s us _ hl => by
  rw [List.append_nil] at hl ⊢
  exact .of_eq (h us hl)
section
variable {X : Cx} {CX : CXT} {k : Nat} {f C : Addr} {fd : FuncData} {ps : List Str} {sp : Sp} {dvs : List V} {ds : List Value} {E : XK} {x m : Str} {p pos apos : Pos} {e o : Expr} {es : List Expr} {ta : TE} {t : TA}
structure Mk (K : PySem.W.Frag) (C f : Addr) : Prop where
  makes : PySem.W.makesIn K C = true
  init : PySem.W.findIn K (.ref C) "__init__" = some (some (.ref f))
  fn : PySem.W.isFn K (.ref f) = true
  kp : PySem.W.keepIn K (.ref C) = true
end
section
variable {X : Cx} {CX : CXT} {k : Nat} {f C : Addr} {fd : FuncData} {ps ks : List Str} {sp : Sp} {E : XK} {x m : Str} {p pos apos kpos : Pos} {e o : Expr} {es : List Expr} {kws : List Keyword} {te ta : TE} {t tk : TA} {nm : Option Str}
variable {g : List Value → List Value → List Value} {gV : List V → List V → List V}
end
structure aP (N P : List Str) (sc : Scope) : Prop where
  kind : sc.kind = .function
  co : sc.isCoroutine = false
  gen : sc.isGenerator = false
  nd : N.Nodup
  pre : N.take P.length = P
  par : ∀ x ∈ P, sc.names.lookup x = some .local ∨ sc.names.lookup x = some .cell
  nofree : ∀ y ∈ sc.names, y.2 ≠ .free
theorem jx {kindOf : Str → Option NameKind} {x : Str} : ∀ {binds : List (Str × Value)} {m : Str → Option Value}, (∀ v, (x, v) ∉ binds) → bindL kindOf binds m x = m x
  | [], _, _ => rfl
  | (n, v) :: r, m, h => by
    unfold bindL
    rw [jx fun w hw => h w (List.mem_cons_of_mem _ hw)]
    split
    · have : x ≠ n := by rintro rfl; exact h v List.mem_cons_self
      simp [this]
    · rfl
theorem jj {kindOf : Str → Option NameKind} {x : Str} : ∀ {binds : List (Str × Value)} {m : Str → Option Value}, (∀ v, (x, v) ∉ binds) → bindC kindOf binds m x = m x
  | [], _, _ => rfl
  | (n, v) :: r, m, h => by
    unfold bindC
    rw [jj fun w hw => h w (List.mem_cons_of_mem _ hw)]
    split
    · rfl
    · have : x ≠ n := by rintro rfl; exact h v List.mem_cons_self
      simp [this]
theorem jo {kindOf : Str → Option NameKind} {x : Str} {v : Value} : ∀ {P : List Str} {vs : List Value} {i : Nat} {m : Str → Option Value}, P.Nodup → P[i]? = some x → vs[i]? = some v → kindOf x = some .local →
    bindL kindOf (P.zip vs) m x = some v
  | [], _, _, _, _, h, _, _ => by simp at h
  | _ :: _, [], _, _, _, _, h, _ => by simp at h
  | p :: P, w :: vs, 0, m, nd, h1, h2, hk => by
    simp at h1 h2; subst h1; subst h2
    show bindL kindOf ((p, w) :: P.zip vs) m p = _
    unfold bindL
    rw [jx fun v hv => (List.nodup_cons.mp nd).1 (List.of_mem_zip hv).1, if_pos hk]
    simp
  | p :: P, w :: vs, i + 1, m, nd, h1, h2, hk => by
    show bindL kindOf ((p, w) :: P.zip vs) m x = _
    unfold bindL
    exact jo (i := i) (List.nodup_cons.mp nd).2 (by simpa using h1) (by simpa using h2) hk
theorem jv {kindOf : Str → Option NameKind} {x : Str} {v : Value} : ∀ {P : List Str} {vs : List Value} {i : Nat} {m : Str → Option Value}, P.Nodup → P[i]? = some x → vs[i]? = some v → kindOf x ≠ some .local →
    bindC kindOf (P.zip vs) m x = some v
  | [], _, _, _, _, h, _, _ => by simp at h
  | _ :: _, [], _, _, _, _, h, _ => by simp at h
  | p :: P, w :: vs, 0, m, nd, h1, h2, hk => by
    simp at h1 h2; subst h1; subst h2
    show bindC kindOf ((p, w) :: P.zip vs) m p = _
    unfold bindC
    rw [jj fun v hv => (List.nodup_cons.mp nd).1 (List.of_mem_zip hv).1, if_neg hk]
    simp
  | p :: P, w :: vs, i + 1, m, nd, h1, h2, hk => by
    show bindC kindOf ((p, w) :: P.zip vs) m x = _
    unfold bindC
    exact jv (i := i) (List.nodup_cons.mp nd).2 (by simpa using h1) (by simpa using h2) hk
def fm (N : List Str) (vs : List V) : St := vs.map some ++ List.replicate (N.length - vs.length) none
def bY (CX : CXT) (P : Program) (w : World) (K : PySem.W.Frag) (mg : Str → Option Value) (base : Heap) (N : List Str) (qual : Str) (scope : Scope) (f : Addr) (cd : Value) (A : Around) (outer : List Env) (s : Shared) (H : Hp) (E : XK) : Cx where
  prog := P
  w := w
  K := K
  mg := mg
  base := base
  A := A.deeper (envOfC qual scope s.heap.objs.size f cd)
  N := N
  s₀ := s
  H₀ := H
  env := envOfC qual scope s.heap.objs.size f cd
  outer := outer
  stack := envOfC qual scope s.heap.objs.size f cd :: outer
  ex := []
  calm := true
  fn := fun _ => true
  pn := []
  xe := fun e s' => wpAny (model P w) (A.deeper (envOfC qual scope s.heap.objs.size f cd)) (leaving (envOfC qual scope s.heap.objs.size f cd) e) (fun _ s'' => CX outer H s E e s'') (fun e' s'' => CX outer H s E e' s'') s'
theorem lE {sc : Scope} {n : Nat} {x : Str} (h : sc.names.lookup x = some .cell) : ∃ c, (cellsFrom n sc.names []).lookup x = some c := by
  have q := PySem.W.cellsFrom_some sc.names n [] (.inl h)
  exact Option.isSome_iff_exists.mp q
theorem o_ {CX : CXT} {P : Program} {w : World} {K : PySem.W.Frag} {mg : Str → Option Value} {base : Heap} {N ps : List Str} {qual : Str} {scope : Scope} {f : Addr} {cd : Value} {A : Around} {outer : List Env} {s s1 : Shared} {H : Hp} {E : XK} {us : List Value} {vs : List V}
    (S : aP N ps scope) (hd : A.handled = none) (e0 : Env0 P w K mg base A outer s H) (hl : vs.length = ps.length) (r : Vals vs us)
    (x : InCallC s s.heap.objs.size (bindL (envOfC qual scope s.heap.objs.size f cd).kindOf (ps.zip us) fun _ => none) (cellsFrom (s.heap.objs.size + 1) scope.names []) (bindC (envOfC qual scope s.heap.objs.size f cd).kindOf (ps.zip us) fun _ => none) s1) :
    Inv (bY CX P w K mg base N qual scope f cd A outer s H E) [] (fm N vs) H s1 := by
  have hpl : ps.length ≤ N.length := by have := congrArg List.length S.pre; rw [List.length_take] at this; omega
  obtain ⟨h1, tk, rfl, hk⟩ := x.done
  have noA : ∀ b : Addr, b ∉ (bY CX P w K mg base N qual scope f cd A outer s H E).ex := fun b z => absurd (show b ∈ ([] : List Addr) from z) (by simp)
  refine ⟨⟨e0.mod, S.kind, rfl, rfl, Nat.le_refl _, fun y z c h1 h2 => ?_, fun y hy => ?_, fun y c _ h => ?_, fun _ => hd, Around.frames_deeper e0.frames, .inr ⟨rfl, rfl⟩, fun b z => absurd z (noA b), e0.bs, e0.bsz, fun b _ _ => noA b, fun b z => absurd z (noA b), e0.funs, e0.frf⟩,
    rfl, e0.bare, Un.kept hk, ⟨_, x.toInCall.ns, fun i y v h1 h2 h3 => ?_⟩, fun y c h => ⟨_, x.cell y c h⟩, e0.hok.fresh (Nat.le_refl _), fun y c h => ?_, fun p hp => absurd (show p ∈ ([] : List (Addr × Obj)) from hp) (by simp), e0.hok.kept hk, ?_⟩
  · exact name_of_addr x.apart (PySem.mem_of_lookup h1) (PySem.mem_of_lookup h2)
  · have hy : scope.names.lookup y = some .cell ∨ scope.names.lookup y = some .free := hy
    rcases hy with hy | hy
    · exact lE hy
    · exact absurd rfl (S.nofree _ (PySem.mem_of_lookup hy))
  · exact Nat.le_of_lt (x.above y c (PySem.mem_of_lookup h))
  · have hi : i < vs.length := by
      unfold fm at h2
      by_cases hi : i < vs.length
      · exact hi
      · rw [List.getElem?_append_right (by simpa using hi)] at h2
        rw [List.getElem?_replicate] at h2
        split at h2 <;> cases h2
    have ha : vs[i]? = some v := by
      unfold fm at h2
      rw [List.getElem?_append_left (by simpa using hi), List.getElem?_map] at h2
      cases e : vs[i]? with
      | none => rw [e] at h2; cases h2
      | some a => rw [e] at h2; cases h2; rfl
    obtain ⟨u, hu, rv⟩ := r.get ha
    have hp : ps[i]? = some y := by
      rw [← S.pre, List.getElem?_take_of_lt (by omega)]; exact h1
    have ndP : ps.Nodup := by rw [← S.pre]; exact S.nd.sublist (List.take_sublist _ _)
    refine ⟨u, rv, ?_⟩
    rcases S.par y (List.mem_of_getElem? hp) with k | k
    · exact .inl ⟨k, jo ndP hp hu k⟩
    · obtain ⟨c, e⟩ := lE (n := s.heap.objs.size + 1) k
      refine .inr ⟨.inl k, c, e, ?_⟩
      have q := x.cell y c e
      rw [jv ndP hp hu (by show scope.names.lookup y ≠ _; rw [k]; decide)] at q
      exact q
  · exact e0.hok.fresh (Nat.le_of_lt (x.above y c (PySem.mem_of_lookup h)))
  · unfold fm
    show _ = N.length
    rw [List.length_append, List.length_map, List.length_replicate]
    omega
theorem xF {CX : CXT} {P : Program} {w : World} {K : PySem.W.Frag} {mg : Str → Option Value} {base : Heap} {k : Nat} {f : Addr} {name qual : Str} {params : Arguments} {body : List Stmt} {scope : Scope} {dV kV doc pm cdv ct oc : Value} {an od : Option Addr}
    {osl : Array (Option Value)} {N ps : List Str} {sp : Sp} (lk : K.lookup f = some ⟨oc, od, .func (PySem.W.fnOf name qual params body scope dV kV doc pm an cdv ct), osl⟩) (hcd : PySem.W.codeIn K cdv qual = true) (S : aP N ps scope)
    (len : ∀ vs H Q E, sp vs H Q E → vs.length = ps.length)
    (hbody : ∀ (A : Around) (outer : List Env) (s : Shared) (H : Hp) (vs : List V) (Q : VK) (E : XK), Room k (A.deeper (envOfC qual scope s.heap.objs.size f cdv)) → sp vs H Q E →
      ∃ t, PSs (bY CX P w K mg base N qual scope f cdv A outer s H E) body t ∧ t { nx := fun _ H' => Q .non H', rt := Q } (fm N vs) H) :
    b_ P w K mg base CX (k + 1) f (PySem.W.fnOf name qual params body scope dV kV doc pm an cdv ct) ps sp := by
  refine ⟨len, fun A outer s H args us vs Q E hr e0 hb r hsp => ?_⟩
  have hl := len _ _ _ _ hsp
  have KX : K.In s.heap := e0.mod.kin.keeps fun b o e => (e0.bs b o e).1
  have lim : s.heap.NoLimit := e0.mod.nolimit.keeps fun b o e => (e0.bs b o e).1
  have hkind : ∀ y ∈ ps.zip us, scope.names.lookup y.1 = some .local ∨ (scope.names.lookup y.1 = some .cell ∧ ((cellsFrom (s.heap.objs.size + 1) scope.names []).lookup y.1).isSome = true) := fun ⟨n, v⟩ hy => by
    rcases S.par n (List.of_mem_zip hy).1 with q | q
    · exact .inl q
    · exact .inr ⟨q, PySem.W.cellsFrom_some _ _ _ (.inl q)⟩
  refine codeAny_call_function hr.depth (KX _ _ lk) rfl S.co S.gen rfl (PySem.W.codeRec_of KX hcd) (hb _ _ _ _ ?_)
  refine wpAny_newFunctionEnv_cells S.kind hkind fun env he s1 x => ?_
  subst he
  refine ⟨lim.keeps x.toInCall.keep, codeAny_func ?_⟩
  obtain ⟨t, ht, hq⟩ := hbody A outer s H vs Q E (hr.deeper _) hsp
  have I : Inv (bY CX P w K mg base N qual scope f cdv A outer s H E) [] (fm N vs) H s1 := o_ S hr.hd e0 hl r x
  refine wpAny_mono (ht [] s1 (fm N vs) H _ I hq) (fun fl s' hs => ?_) fun e s' hs => hs
  have fin : ∀ {σ' : St} {H' : Hp} {v : V} {u : Value}, Inv (bY CX P w K mg base N qual scope f cdv A outer s H E) [] σ' H' s' → RelV v u → Q v H' → CE outer P w H s Q u s' :=
    fun {σ' H' v u} J rv q => ⟨v, H', J.os, J.bare, J.base, J.hok, rv, q⟩
  cases fl with
  | ret u =>
    obtain ⟨v, σ', H', J, rv, q⟩ := hs
    exact fin J rv q
  | next =>
    obtain ⟨σ', H', J, q⟩ := hs
    exact fin (v := V.non) (u := Value.none) J rfl q
  | brk =>
    obtain ⟨_, _, _, q⟩ := hs
    exact False.elim q
  | cont =>
    obtain ⟨_, _, _, q⟩ := hs
    exact False.elim q
end L2
namespace L2
open PySem PySem.Spec PyProof.Rows
section
variable {X : Cx} {x : Str} {p pos : Pos} {e : Expr} {es : List Expr} {t : TA} {id T : String} {r : List V → Hp → VK → Prop}
def tCB (r : List V → Hp → VK → Prop) (t : TA) : TE := fun σ H Q => t σ H fun vs H1 => r vs H1 Q
theorem bj (hc : CallR X (.builtin id) r) (hg : Gl X x) (hm : X.mg x = none) (hv : bootBuiltins x = some (.builtin id)) (ha : PA X (e :: es) t) (hn : x ≠ "__name__" := by decide) (hdb : (x == ("__debug__" : Str)) = false := by decide)
    (he : starEach (e :: es) X.env = (false, eval e X.env) :: starEach es X.env := by rfl) (hpl : (backTo pos (starEach es X.env)).any (·.1) = false := by rfl) : PE X (.Call (.Name x p) (e :: es) [] pos) (tCB r t) := by
  intro pins s σ H Q I h
  refine wpAny_Call_Name_kw (fu I hg hm hv ?_ hn hdb)
  exact PyProof.Rows.callWith_builtin1 (thn (ha pos pins s σ H _ I h) fun us s1 ⟨vs, H1, I1, r1, q1⟩ => hc pins s1 σ H1 vs us Q I1 r1 q1) he hpl
theorem jz (hc : CallR X (.type T) r) (hg : Gl X x) (hm : X.mg x = none) (hv : bootBuiltins x = some (.type T)) (ha : PA X (e :: es) t) (hn : x ≠ "__name__" := by decide) (hdb : (x == ("__debug__" : Str)) = false := by decide)
    (he : starEach (e :: es) X.env = (false, eval e X.env) :: starEach es X.env := by rfl) (hpl : (backTo pos (starEach es X.env)).any (·.1) = false := by rfl) : PE X (.Call (.Name x p) (e :: es) [] pos) (tCB r t) := by
  intro pins s σ H Q I h
  refine wpAny_Call_Name_kw (fu I hg hm hv ?_ hn hdb)
  exact PyProof.Rows.callWith_type1 (thn (ha pos pins s σ H _ I h) fun us s1 ⟨vs, H1, I1, r1, q1⟩ => hc pins s1 σ H1 vs us Q I1 r1 q1) he hpl
end
end L2
namespace HT
open PySem PyProof.Rows
section
open PySem.SeqAt
open PySem.AutoSeq1 (wpAny_loadPart')
open PySem.MeetsSeq PySem.MeetsSeq2 PySem.MeetsSeq3
end
section
variable {prog : Program} {w : World} {A : Around} {E : Value → Shared → Prop} {s : Shared}
theorem cat_tup {t b : Addr} {vs ws : List Value} {Q : Value → Shared → Prop} (ht : IsTup s.heap t vs.toArray) (hb : IsTup s.heap b ws.toArray) (hv : vs ≠ [])
    (h1 : ws = [] → Q (.ref t) s) (h2 : ws ≠ [] → Q (.ref s.heap.objs.size) { s with heap := s.heap.push { cls := .type "tuple", data := .seq (vs ++ ws).toArray } })
    (hsz : vs.length + ws.length ≤ sizeLine) : wpAny (model prog w) A (binaryOp .Add (.ref t) (.ref b)) Q E s := by
  obtain ⟨⟨cls, dd, data, sl⟩, ho, hc, n, hd⟩ := id ht
  obtain ⟨⟨cls2, dd2, data2, sl2⟩, ho2, hc2, n2, hd2⟩ := id hb
  simp only at hc hd hc2 hd2
  subst hc hd hc2 hd2
  have e : vs.toArray ++ ws.toArray = (vs ++ ws).toArray := by simp
  by_cases hw : ws = []
  · exact concat_meets ⟨_, ho, rfl⟩ ⟨_, ho2, rfl⟩ noFill_tuple_add seq_tuple_add PySem.F.slot_tuple_add PySem.F.entry_tuple_add (PySem.F.args_tuple_add_2 _ _)
      (tuple_addW1 t b vs.toArray ws.toArray n n2 dd dd2 sl sl2 (by simpa using hv) (by simp [hw])) ⟨ho, ho2, h1 hw⟩
  · refine concat_meets ⟨_, ho, rfl⟩ ⟨_, ho2, rfl⟩ noFill_tuple_add seq_tuple_add PySem.F.slot_tuple_add PySem.F.entry_tuple_add (PySem.F.args_tuple_add_2 _ _)
      (tuple_addW2 t b vs.toArray ws.toArray n n2 dd dd2 sl sl2 (by simpa using hv) (by simpa using hw) (by rw [List.size_toArray, List.size_toArray]; exact hsz)) ⟨ho, ho2, ?_⟩
    rw [e]
    exact h2 hw
def sIx (n d : Nat) : Option Int → Nat
  | none => d
  | some v => if v < 0 then (v + (n : Int)).toNat else min v.toNat n
theorem sIx_none (n d : Nat) : sIx n d none = d := rfl
theorem sIx_nat (n d k : Nat) : sIx n d (some (k : Int)) = min k n := by
  show (if (k : Int) < 0 then ((k : Int) + (n : Int)).toNat else min (k : Int).toNat n) = min k n
  rw [if_neg (by omega), Int.toNat_natCast]
theorem sIx_le (n d : Nat) (hd : d ≤ n) (o : Option Int) : sIx n d o ≤ n := by
  cases o with
  | none => exact hd
  | some v =>
    show (if v < 0 then (v + (n : Int)).toNat else min v.toNat n) ≤ n
    by_cases hv : v < 0
    · rw [if_pos hv]; omega
    · rw [if_neg hv]; exact Nat.min_le_right _ _
theorem nU (v : Int) (n d : Nat) : (if v < 0 then max (v + (n : Int)) 0 else min v (n : Int)) = ((sIx n d (some v) : Nat) : Int) := by
  show (if v < 0 then max (v + (n : Int)) 0 else min v (n : Int)) = (((if v < 0 then (v + (n : Int)).toNat else min v.toNat n) : Nat) : Int)
  by_cases hv : v < 0
  · simp only [if_pos hv]; omega
  · simp only [if_neg hv]; omega
theorem nh (lo hi : Option Int) (n : Nat) : Builtin.Slice.sliceAdjust lo hi 1 (n : Int) = (((sIx n 0 lo : Nat) : Int), ((sIx n n hi : Nat) : Int)) := by
  have h1 : ¬ ((1 : Int) < 0) := by omega
  unfold Builtin.Slice.sliceAdjust
  simp only [h1, if_false]
  refine Prod.ext ?_ ?_
  · cases lo with
    | none => rfl
    | some v => exact nU v n 0
  · cases hi with
    | none => rfl
    | some v => exact nU v n n
theorem nC (i j : Nat) : Builtin.Slice.slicePlaces (i : Int) (j : Int) 1 = j - i := by
  unfold Builtin.Slice.slicePlaces
  have h1 : (1 : Int) > 0 := by omega
  simp only [h1, if_true, Int.ediv_one]
  split <;> omega
theorem iC {v : Value} {o : Option Int} {Q : Option Int → Shared → Prop} (p : IsPart v o) (h : Q o s) : wpAny (model prog w) A (Builtin.Slice.slicePartIndex v) Q E s := by
  cases p with
  | none => exact slicePart_none h
  | int i t => exact slicePart_int h
theorem gq {sl : Addr} {vl vu : Value} {lo hi : Option Int} {n : Nat} {Q : Int × Int × Nat → Shared → Prop} (hs : s.heap.IsSliceOf sl vl vu .none) (pl : IsPart vl lo) (pu : IsPart vu hi)
    (h : Q (((sIx n 0 lo : Nat) : Int), 1, sIx n n hi - sIx n 0 lo) s) : wpAny (model prog w) A (Builtin.Slice.sliceApplied (.ref sl) (pure (n : Int))) Q E s := by
  obtain ⟨os, hos, hcs, hds⟩ := id hs
  unfold Builtin.Slice.sliceApplied Builtin.Slice.sliceFields
  refine wpAny_bind (wpAny_bind (wpAny_field hos hds (x := vl) rfl (wpAny_bind (wpAny_field hos hds (x := vu) rfl (wpAny_bind (wpAny_field hos hds (x := .none) rfl (wpAny_pure ?_)))))))
  refine wpAny_bind (slicePart_none ?_)
  show wpAny _ _ (if ((1 : Int) == 0) = true then _ else _) _ _ s
  rw [if_neg (by decide)]
  refine wpAny_bind (iC pl (wpAny_bind (iC pu (wpAny_bind (wpAny_pure ?_)))))
  show wpAny _ _ (match Builtin.Slice.sliceAdjust lo hi 1 (n : Int) with | (lo, hi) => pure (lo, (1 : Int), Builtin.Slice.slicePlaces lo hi 1)) _ _ s
  rw [nh lo hi n]
  show wpAny _ _ (pure (((sIx n 0 lo : Nat) : Int), (1 : Int), Builtin.Slice.slicePlaces ((sIx n 0 lo : Nat) : Int) ((sIx n n hi : Nat) : Int) 1)) _ _ s
  rw [nC]
  exact wpAny_pure h
theorem rF (xs : Array Value) (i k : Nat) : ((List.range k).filterMap fun (m : Nat) => xs[((i : Int) + (m : Int) * 1).toNat]?).toArray = ((xs.toList.drop i).take k).toArray := by
  have e : (fun (m : Nat) => xs[((i : Int) + (m : Int) * 1).toNat]?) = fun m => xs[i + m]? := by
    funext m
    have : ((i : Int) + (m : Int) * 1).toNat = i + m := by omega
    rw [this]
  rw [e]
  have := pick_run xs i k
  rw [List.filterMap_map] at this
  have e2 : ((fun x => xs[x]?) ∘ fun x => i + x) = fun m => xs[i + m]? := rfl
  rw [e2] at this
  rw [this]
theorem getItem_tuple_cut {t sl : Addr} {items : Array Value} {vl vu : Value} {lo hi : Option Int} {Q : Value → Shared → Prop} (ht : IsTup s.heap t items) (hs : s.heap.IsSliceOf sl vl vu .none) (pl : IsPart vl lo) (pu : IsPart vu hi)
    (hw : ¬ (sIx items.size 0 lo = 0 ∧ sIx items.size items.size hi = items.size))
    (h : Q (.ref s.heap.objs.size) { s with heap := s.heap.push { cls := .type "tuple", data := .seq ((items.toList.drop (sIx items.size 0 lo)).take (sIx items.size items.size hi - sIx items.size 0 lo)).toArray } })
    (hsz : items.size ≤ sizeLine) : wpAny (model prog w) A (getItem (.ref t) (.ref sl)) Q E s := by
  have htake : sizeOk (.seq ((items.toList.drop (sIx items.size 0 lo)).take (sIx items.size items.size hi - sIx items.size 0 lo)).toArray) := by
    show ((items.toList.drop (sIx items.size 0 lo)).take (sIx items.size items.size hi - sIx items.size 0 lo)).toArray.size ≤ sizeLine
    rw [List.size_toArray, List.length_take, List.length_drop, Array.length_toList]
    omega
  have hj : sIx items.size items.size hi ≤ items.size := sIx_le _ _ (Nat.le_refl _) hi
  obtain ⟨os, hos, hcs, hds⟩ := id hs
  have hTs : s.TypeIs (.ref sl) "slice" := ⟨os, hos, hcs⟩
  unfold getItem
  try with_reducible refine wpAny_holding ?_
  first | refine wpAny_bind (wpAny_pure ?_) | skip
  refine wpAny_bind (wpAny_sequenceKey ht.typeIs (by decide) ?_)
  refine wpAny_bind (wpAny_callSpecial?_slot (name := Str.ofString "__getitem__") ht.typeIs PyProof.Rows.slot_tuple_getitem
    (wpAny_call_entry PyProof.Rows.slot_tuple_getitem ht.typeIs entry_tuple_getitem ?_ (args_tuple_getitem _ _)))
  show wpAny _ _ (Builtin.Tuple.tupleItemsOf (.ref t) >>= _) _ _ s
  refine wpAny_bind (tupleItemsOf_ ht ?_)
  refine wpAny_bind (wpAny_typeOf hTs ?_)
  rw [if_pos (by decide)]
  refine wpAny_bind (gq hs pl pu ?_)
  have hno : ¬ ((((sIx items.size 0 lo : Nat) : Int) == 0 && (1 : Int) == 1 && (sIx items.size items.size hi - sIx items.size 0 lo) == items.size) = true) := by
    intro q
    rw [Bool.and_eq_true, Bool.and_eq_true] at q
    have q1 : ((sIx items.size 0 lo : Nat) : Int) = 0 := eq_of_beq q.1.1
    have q2 : sIx items.size items.size hi - sIx items.size 0 lo = items.size := eq_of_beq q.2
    exact hw ⟨by omega, by omega⟩
  show wpAny _ _ (if (((sIx items.size 0 lo : Nat) : Int) == 0 && (1 : Int) == 1 && (sIx items.size items.size hi - sIx items.size 0 lo) == items.size) = true then _ else _) _ _ s
  rw [if_neg hno, rF]
  first
    | exact wpAny_bind (m := Builtin.Tuple.tupleExact _) (wpAny_newObj_type (wpAny_pure ⟨_, rfl, wpAny_pure h⟩) htake)
    | exact wpAny_bind (m := Builtin.Tuple.tupleExact _) (wpAny_newObj_type (wpAny_bind (wpAny_pure (wpAny_pure ⟨_, rfl, wpAny_pure h⟩))) htake)
    | exact wpAny_bind (wpAny_bind (m := Builtin.Tuple.tupleExact _) (wpAny_newObj_type (wpAny_pure (wpAny_pure ⟨_, rfl, wpAny_pure h⟩)) htake))
    | exact wpAny_bind (wpAny_bind (m := Builtin.Tuple.tupleExact _) (wpAny_newObj_type (wpAny_pure ⟨_, rfl, wpAny_pure h⟩) htake))
end
end HT
namespace L2
open PySem PySem.Spec PyProof.Rows
abbrev TO := St → Hp → (Option Int → Hp → Prop) → Prop
def PO (X : Cx) (e : Option Expr) (t : TO) : Prop :=
  ∀ (pins : List (Addr × Obj)) (s : Shared) (σ : St) (H : Hp) (Q : Option Int → Hp → Prop), Inv X pins σ H s → t σ H Q →
    wpAny (model X.prog X.w) X.A (evalPart e X.env) (fun u s' => ∃ o H', Inv X pins σ H' s' ∧ IsPart u o ∧ Q o H') X.xe s
def oP : TO := fun _ H Q => Q none H
def ue (t : TE) : TO := fun σ H Q => t σ H fun x H1 => ∃ i, x = .int i ∧ Q (some i) H1
theorem ir {ns : List Int} : ∀ {us : List Value}, Vals (ns.map V.int) us → IntsAre us ns := by
  induction ns with
  | nil => intro us r; rw [List.map_nil] at r; cases r; exact .nil
  | cons n ns ih =>
    intro us r
    rw [List.map_cons] at r
    cases r with
    | cons r1 r2 =>
      obtain ⟨t, e⟩ := r1
      subst e
      exact .cons n t (ih r2)
section
variable {X : Cx} {e : Expr} {te : TE} {lo hi : Option Expr} {tl th : TO} {pos p2 : Pos}
theorem eX : PO X none oP := by
  intro pins s σ H Q I h
  rw [evalPart_none]
  exact wpAny_pure ⟨none, H, I, .none, h⟩
theorem eU (h : PE X e te) : PO X (some e) (ue te) := by
  intro pins s σ H Q I hw
  rw [evalPart_some]
  refine thn (h pins s σ H _ I hw) fun u s1 ⟨x, H1, I1, r1, q1⟩ => ?_
  obtain ⟨i, rfl, q⟩ := q1
  obtain ⟨t, rfl⟩ := r1
  exact ⟨some i, H1, I1, .int i t, q⟩
def SlR (X : Cx) (r : V → Option Int → Option Int → Hp → VK → Prop) : Prop :=
  ∀ (pins : List (Addr × Obj)) (s : Shared) (σ : St) (H : Hp) (x : V) (v vl vu : Value) (lo hi : Option Int) (sl : Addr) (Q : VK), Inv X pins σ H s → RelV x v → s.heap.IsSliceOf sl vl vu .none → IsPart vl lo → IsPart vu hi → r x lo hi H Q →
    ∃ T id, typeLookup (.type T) "__getitem__" = pure (some (.builtin id)) ∧ s.TypeIs v T ∧ wpAny (model X.prog X.w) X.A (getItem v (.ref sl)) (EP X pins σ Q) X.xe s
def tSl (r : V → Option Int → Option Int → Hp → VK → Prop) (te : TE) (tl th : TO) : TE := fun σ H Q => te σ H fun x H1 => tl σ H1 fun l H2 => th σ H2 fun u H3 => r x l u H3 Q
theorem dP {r : V → Option Int → Option Int → Hp → VK → Prop} (hr : SlR X r) (he : PE X e te) (hl : PO X lo tl) (hu : PO X hi th) : PE X (.Subscript e (.Slice lo hi none p2) pos) (tSl r te tl th) := by
  intro pins s σ H Q I h
  refine Subscript_ (thn (he pins s σ H _ I h) fun v s1 ⟨x, H1, I1, r1, q1⟩ => ?_)
  refine wpAny_Slice (thn (hl pins s1 σ H1 _ I1 q1) fun vl s2 ⟨l, H2, I2, pl, q2⟩ => thn (hu pins s2 σ H2 _ I2 q2) fun vu s3 ⟨u, H3, I3, pu, q3⟩ => ?_)
  rw [evalPart_none]
  refine wpAny_pure ?_
  have I4 : Inv X pins σ H3 { s3 with heap := s3.heap.push { cls := .type "slice", data := .fields #[vl, vu, .none] } } := I3.kept (t' := s3.toks) fun b ob q => Heap.get?_push_of_some _ q
  obtain ⟨T, id, hT, ht, hg⟩ := hr pins { s3 with heap := s3.heap.push { cls := .type "slice", data := .fields #[vl, vu, .none] } } σ H3 x v vl vu l u s3.heap.objs.size Q I4 r1 (Heap.IsSliceOf.new ..) pl pu q3
  show wpAny (model X.prog X.w) X.A (subscriptTail e (.Slice lo hi none p2) v (.ref s3.heap.objs.size)) (EP X pins σ Q) X.xe { s3 with heap := s3.heap.push { cls := .type "slice", data := .fields #[vl, vu, .none] } }
  exact tail_any (ops := [.ref s3.heap.objs.size, v]) ht hT hg (by with_unfolding_all rfl)
def jV (xs : List V) (lo hi : Option Int) : List V := (xs.drop (HT.sIx xs.length 0 lo)).take (HT.sIx xs.length xs.length hi - HT.sIx xs.length 0 lo)
theorem hE (xs : List V) (lo hi : Option Int) : (jV xs lo hi).length ≤ xs.length := by
  unfold jV
  rw [List.length_take, List.length_drop]
  omega
def xJ (K : PySem.W.Frag) : V → Option Int → Option Int → Hp → VK → Prop := fun x lo hi H Q => ∃ a xs, x = .ref a ∧ SqT K H a xs ∧
  ¬ (HT.sIx xs.length 0 lo = 0 ∧ HT.sIx xs.length xs.length hi = xs.length) ∧ ∀ p, H p = none → Q (.ref p) (upd H p (.tup (jV xs lo hi)))
theorem wu : SlR X (xJ X.K) := by
  intro pins s σ H x v vl vu lo hi sl Q I rx hs pl pu h
  obtain ⟨a, xs, rfl, hx, hw, q⟩ := h
  cases rx
  obtain ⟨its, r, ht, hz⟩ := I.tuple hx
  have hlen : its.toArray.size = xs.length := by rw [List.size_toArray]; exact r.length.symm
  refine ⟨"tuple", _, PyProof.Rows.slot_tuple_getitem.lookup, ht.typeIs, ?_⟩
  refine HT.getItem_tuple_cut ht hs pl pu (by rw [hlen]; exact hw) ?_ (by rw [hlen]; exact hz)
  rw [hlen]
  refine ⟨.ref s.heap.objs.size, _, I.laid (t' := s.toks) (o := .tup (jV xs lo hi)) (fun b ob q => Heap.get?_push_of_some _ q) (Nat.le_refl _) ?_, rfl, q _ (I.hok.fresh (Nat.le_refl _))⟩
  exact ⟨Nat.le_trans (hE xs lo hi) hz, _, (r.drop (HT.sIx xs.length 0 lo)).take (HT.sIx xs.length xs.length hi - HT.sIx xs.length 0 lo), IsTup.new _ _⟩
def xM (K : PySem.W.Frag) : R2 := fun x y H Q => ∃ a b xs ys, x = .ref a ∧ y = .ref b ∧ SqT K H a xs ∧ SqT K H b ys ∧ xs ≠ [] ∧ xs.length + ys.length ≤ sizeLine ∧
  (ys = [] → Q (.ref a) H) ∧ (ys ≠ [] → ∀ p, H p = none → Q (.ref p) (upd H p (.tup (xs ++ ys))))
theorem Vals.nil_iff {xs : List V} {us : List Value} (r : Vals xs us) : us = [] ↔ xs = [] := by
  cases r with
  | nil => simp
  | cons _ _ => simp
theorem sO : OpR X (binaryOp .Add) (xM X.K) := by
  intro pins s σ H x y v u Q I rx ry h
  obtain ⟨a, b, xs, ys, rfl, rfl, ha, hb, hx, hz, q1, q2⟩ := h
  cases rx
  cases ry
  obtain ⟨its, r1, p1, _⟩ := I.tuple ha
  obtain ⟨its2, r2, p2, _⟩ := I.tuple hb
  refine HT.cat_tup p1 p2 (fun z => hx (r1.nil_iff.mp z)) (fun z => ⟨.ref a, H, I, rfl, q1 (r2.nil_iff.mp z)⟩) (fun z => ?_) (by rw [← r1.length, ← r2.length]; exact hz)
  refine ⟨.ref s.heap.objs.size, _, I.laid (t' := s.toks) (o := .tup (xs ++ ys)) (fun b ob q => Heap.get?_push_of_some _ q) (Nat.le_refl _) ?_, rfl, q2 (fun w => z (r2.nil_iff.mpr w)) _ (I.hok.fresh (Nat.le_refl _))⟩
  exact ⟨by rw [List.length_append]; exact hz, _, r1.append r2, IsTup.new _ _⟩
end
end L2
namespace L2
open PySem PySem.Spec PyProof.Rows
def ixN (n : Nat) (i : Int) : Option Nat := if 0 ≤ i then (if i < n then some i.toNat else none) else if -(n : Int) ≤ i then some (i + n).toNat else none
def atI {α : Type} (xs : List α) (i : Int) : Option α := (ixN xs.length i).bind fun j => xs[j]?
theorem n_ {n : Nat} {i : Int} {j : Nat} (h : ixN n i = some j) : seqIndex? i n = some j ∧ j < n ∧ -(n : Int) ≤ i ∧ i < n := by
  unfold ixN at h
  by_cases h0 : 0 ≤ i
  · rw [if_pos h0] at h
    by_cases h1 : i < n
    · rw [if_pos h1] at h
      have e : i.toNat = j := Option.some.inj h
      exact ⟨by rw [seqIndex_of h0 h1, e], by omega, by omega, h1⟩
    · rw [if_neg h1] at h; cases h
  · rw [if_neg h0] at h
    by_cases h1 : -(n : Int) ≤ i
    · rw [if_pos h1] at h
      have e : (i + n).toNat = j := Option.some.inj h
      exact ⟨by rw [seqIndex_neg (by omega) h1, e], by omega, h1, by omega⟩
    · rw [if_neg h1] at h; cases h
theorem ko {α : Type} {xs : List α} {i : Int} {v : α} (h : atI xs i = some v) : ∃ j, seqIndex? i xs.length = some j ∧ xs[j]? = some v ∧ j < xs.length ∧ -(xs.length : Int) ≤ i ∧ i < xs.length := by
  unfold atI at h
  cases e : ixN xs.length i with
  | none => rw [e] at h; cases h
  | some j =>
    rw [e] at h
    obtain ⟨h1, h2, h3, h4⟩ := n_ e
    exact ⟨j, h1, h, h2, h3, h4⟩
theorem aA {α : Type} {xs : List α} {j : Nat} {v : α} (h : xs[j]? = some v) : atI xs (j : Int) = some v := by
  have hj : j < xs.length := (List.getElem?_eq_some_iff.mp h).1
  have e : ixN xs.length (j : Int) = some j := by
    unfold ixN
    rw [if_pos (by omega), if_pos (by omega)]; simp
  unfold atI; rw [e]; exact h
def sg (b : Expr) : Prop := ∀ o i, subscripted b false o i = operate [o, i] (getItem o i)
def IxR (X : Cx) (r : R2) : Prop :=
  ∀ (value slice : Expr) (pins : List (Addr × Obj)) (s : Shared) (σ : St) (H : Hp) (x y : V) (v u : Value) (Q : VK), Inv X pins σ H s → RelV x v → RelV y u → r x y H Q →
    subscripted slice false v u = operate [v, u] (getItem v u) → wpAny (model X.prog X.w) X.A (subscriptTail value slice v u) (EP X pins σ Q) X.xe s
def MtR (X : Cx) (id : String) (r : V → List V → Hp → VK → Prop) : Prop :=
  ∀ (pins : List (Addr × Obj)) (s : Shared) (σ : St) (H : Hp) (x : V) (xs : List V) (v : Value) (us : List Value) (Q : VK), Inv X pins σ H s → RelV x v → Vals xs us → r x xs H Q →
    wpAny (model X.prog X.w) X.A (call (.builtin id) (v :: us)) (EP X pins σ Q) X.xe s
section
variable {X : Cx} {a b : Expr} {ta tb : TE} {pos : Pos}
theorem IxR.or {r r' : R2} (h : IxR X r) (h' : IxR X r') : IxR X (fun x y H Q => r x y H Q ∨ r' x y H Q) := by
  intro value slice pins s σ H x y v u Q I rx ry q hs
  rcases q with q | q
  · exact h value slice pins s σ H x y v u Q I rx ry q hs
  · exact h' value slice pins s σ H x y v u Q I rx ry q hs
theorem aH {r : R2} (hr : IxR X r) (ha : PE X a ta) (hb : PE X b tb) (hs : sg b) : PE X (.Subscript a b pos) (tOp r ta tb) := by
  intro pins s σ H Q I h
  exact Subscript_ (vM ha hb I h fun v u s2 x y H2 I2 rx ry q => hr a b pins s2 σ H2 x y v u Q I2 rx ry q (hs _ _))
def wF (K : PySem.W.Frag) : R2 := fun x y H Q => ∃ p xs i v, x = .ref p ∧ y = .int i ∧ SqL K H p xs ∧ atI xs i = some v ∧ Q v H
def w8 (K : PySem.W.Frag) : R2 := fun x y H Q => ∃ p xs i v, x = .ref p ∧ y = .int i ∧ SqT K H p xs ∧ atI xs i = some v ∧ Q v H
def wG : R2 := fun x y H Q => ∃ z i c, x = .str z ∧ y = .int i ∧ z.length ≤ sizeLine ∧ atI z.cps.toList i = some c ∧ Q (.str ⟨#[c]⟩) H
theorem sJ : IxR X (wF X.K) := by
  intro value slice pins s σ H x y v u Q I rx ry h hs
  obtain ⟨p, xs, i, z, rfl, rfl, hq, he, q⟩ := h
  cases rx
  obtain ⟨t, rfl⟩ := ry
  obtain ⟨its, r, pl, hz⟩ := I.list hq
  obtain ⟨j, h1, h2, h3, h4, h5⟩ := ko he
  obtain ⟨w, ew, rw'⟩ := r.get h2
  have hl := r.length
  have hn := gA
  have fin : EP X pins σ Q w s := ⟨z, H, I, rw', q⟩
  by_cases h0 : 0 ≤ i
  · have hj : i.toNat = j := by
      rw [seqIndex_of h0 h5] at h1
      exact Option.some.inj h1
    exact item_listR pl.isList h0 (by omega) (by rw [hj]; simpa using ew) fin hs
  · have hj : (i + (its.toArray.size : Int)).toNat = j := by
      rw [seqIndex_neg (by omega) h4] at h1
      rw [List.size_toArray, ← hl]
      exact Option.some.inj h1
    exact subscriptTail_builtinR (x := w) pl.isList.typeIs slot_list_getitem.lookup
      (wpAny_getItem_list_neg (Q := fun r s' => r = w ∧ EP X pins σ Q r s') pl.isList (by omega) (by rw [List.size_toArray] <;> omega) (by omega) (by rw [hj]; simpa using ew) ⟨rfl, fin⟩) hs
theorem vW : IxR X (w8 X.K) := by
  intro value slice pins s σ H x y v u Q I rx ry h hs
  obtain ⟨p, xs, i, z, rfl, rfl, hq, he, q⟩ := h
  cases rx
  obtain ⟨t, rfl⟩ := ry
  obtain ⟨its, r, pl, hz⟩ := I.tuple hq
  obtain ⟨j, h1, h2, h3, h4, h5⟩ := ko he
  obtain ⟨w, ew, rw'⟩ := r.get h2
  have hl := r.length
  have hn := gA
  have fin : EP X pins σ Q w s := ⟨z, H, I, rw', q⟩
  exact subscriptTail_builtinR (x := w) pl.typeIs slot_tuple_getitem.lookup
    (getItem_tuple (j := j) (Q := fun r s' => r = w ∧ EP X pins σ Q r s') pl (by omega) (by omega) (by rw [List.size_toArray, ← hl]; exact h1) (by simpa using ew) ⟨rfl, fin⟩) hs
theorem wt : IxR X wG := by
  intro value slice pins s σ H x y v u Q I rx ry h hs
  obtain ⟨z, i, c, rfl, rfl, hz, he, q⟩ := h
  obtain ⟨t, rfl⟩ := rx
  obtain ⟨t', rfl⟩ := ry
  obtain ⟨j, h1, h2, h3, h4, h5⟩ := ko he
  have hl : z.cps.toList.length = z.length := by simp [Str.length]
  rw [hl] at h1 h4 h5
  have hn := gA
  exact tail_any (typeIs_str s z t) slot_str_getitem.lookup (getItem_str (c := c) (by
    have e1 : decide (i < -(2 ^ 63 : Int)) = false := decide_eq_false (by omega)
    have e2 : decide (i ≥ 2 ^ 63) = false := decide_eq_false (by omega)
    rw [e1, e2, Bool.or_false]) (by rw [h1]; simpa using h2) ⟨.str ⟨#[c]⟩, H, I.tok _, ⟨_, rfl⟩, q⟩) hs
def rIx (K : PySem.W.Frag) : R2 := fun x y H Q => wF K x y H Q ∨ w8 K x y H Q ∨ wG x y H Q
theorem vA : IxR X (rIx X.K) := sJ.or (vW.or wt)
theorem nB (its : List Value) (n j : Nat) (u : Value) : Obj.mapSeq (·.setIfInBounds j u) { cls := .type "list", data := .seq its.toArray n } = { cls := .type "list", data := .seq (its.set j u).toArray n } := by
  simp [Obj.mapSeq]
theorem Inv.lst {pins : List (Addr × Obj)} {σ : St} {H : Hp} {s : Shared} {p : Addr} {xs : List V} (I : Inv X pins σ H s) (h : H p = some (.lst xs)) :
    ∃ (its : List Value) (n : Nat), Vals xs its ∧ s.heap.get? p = some { cls := .type "list", data := .seq its.toArray n } ∧ xs.length ≤ sizeLine := by
  obtain ⟨z, its, n, r, e⟩ := I.hok p _ h
  exact ⟨its, n, r, e, z⟩
theorem Inv.lstUpd {pins : List (Addr × Obj)} {σ : St} {H : Hp} {s : Shared} {p : Addr} {xs ys : List V} {its its' : List Value} {n n' : Nat} {f : Obj → Obj} (I : Inv X pins σ H s) (h : H p = some (.lst xs))
    (ho : s.heap.get? p = some { cls := .type "list", data := .seq its.toArray n }) (hf : f { cls := .type "list", data := .seq its.toArray n } = { cls := .type "list", data := .seq its'.toArray n' }) (r : Vals ys its') (hz : ys.length ≤ sizeLine) (t : Nat) :
    Inv X pins σ (upd H p (.lst ys)) { s with heap := s.heap.update p f, toks := t } := by
  have e : (s.heap.update p f).get? p = some { cls := .type "list", data := .seq its'.toArray n' } := by
    rw [Heap.get?_update_self f ho (by rw [hf] <;> rfl), hf]
  refine I.write (x := p) (e := p) (by rw [h]; trivial) (.inl rfl) (fun b u hb q => (Heap.get?_update_other _ _ (Ne.symm hb)).trans q) ⟨_, e⟩ ?_
  exact ⟨hz, its', n', r, e⟩
def ug : V → V → V → Hp → (Hp → Prop) → Prop := fun o i v H Q => ∃ p xs k j, o = .ref p ∧ i = .int k ∧ H p = some (.lst xs) ∧ ixN xs.length k = some j ∧ Q (upd H p (.lst (xs.set j v)))
theorem gf : wZ X ug := by
  intro pins s σ H o i v ov iv u Q I ro ri rv h
  obtain ⟨p, xs, k, j, rfl, rfl, hp, hj, q⟩ := h
  cases ro
  obtain ⟨t, rfl⟩ := ri
  obtain ⟨its, n, r, ho, hz⟩ := I.lst hp
  obtain ⟨h1, h2, h3, h4⟩ := n_ hj
  have hl := r.length
  have hn := gA
  have I' : Inv X pins σ (upd H p (.lst (xs.set j v))) { s with heap := s.heap.update p (Obj.mapSeq (·.setIfInBounds j u)) } :=
    I.lstUpd hp ho (nB its n j u) (r.set rv j) (by rw [List.length_set]; exact hz) s.toks
  by_cases h0 : 0 ≤ k
  · have hk : k.toNat = j := by
      rw [seqIndex_of h0 h4] at h1
      exact Option.some.inj h1
    exact PySem.W.ki_setAt ho h0 (by omega) (by rw [List.size_toArray, ← hl]; exact h4) (by rw [hk]; exact ⟨_, I', q⟩)
  · have hk : (k + (its.toArray.size : Int)).toNat = j := by
      rw [seqIndex_neg (by omega) h3] at h1
      rw [List.size_toArray, ← hl]
      exact Option.some.inj h1
    exact PySem.W.ki_setBack ho (by omega) (by rw [List.size_toArray, ← hl]; exact h3) (by omega) (by rw [hk]; exact ⟨_, I', q⟩)
theorem gl (lo hi : Option Int) (n : Nat) : (sliceBounds lo hi none n).1 = ((HT.sIx n 0 lo : Nat) : Int) ∧ (sliceBounds lo hi none n).2.1 = ((HT.sIx n n hi : Nat) : Int) ∧ (sliceBounds lo hi none n).2.2 = 1 := by
  refine ⟨?_, ?_, rfl⟩
  · cases lo with
    | none => simp [sliceBounds, HT.sIx]
    | some i =>
      simp only [sliceBounds, HT.sIx, Option.getD_none, show (1 : Int) > 0 by decide, if_true]
      by_cases h : i < 0
      · simp only [h, if_true] <;> omega
      · simp only [h, if_false] <;> omega
  · cases hi with
    | none => simp [sliceBounds, HT.sIx]
    | some i =>
      simp only [sliceBounds, HT.sIx, Option.getD_none, show (1 : Int) > 0 by decide, if_true]
      by_cases h : i < 0
      · simp only [h, if_true] <;> omega
      · simp only [h, if_false] <;> omega
theorem iY (its : List Value) (lo hi : Option Int) : slicePick its.toArray lo hi none = ((its.drop (HT.sIx its.length 0 lo)).take (HT.sIx its.length its.length hi - HT.sIx its.length 0 lo)).toArray := by
  obtain ⟨h1, h2, h3⟩ := gl lo hi its.toArray.size
  unfold slicePick
  rw [h1, h2, h3]
  simp only [sliceRange_one, pick_run, List.size_toArray] <;> rfl
def xg (K : PySem.W.Frag) : V → Option Int → Option Int → Hp → VK → Prop := fun x lo hi H Q => ∃ a xs, x = .ref a ∧ SqL K H a xs ∧ ∀ p, H p = none → Q (.ref p) (upd H p (.lst (jV xs lo hi)))
theorem sf : SlR X (xg X.K) := by
  intro pins s σ H x v vl vu lo hi sl Q I rx hs pl pu h
  obtain ⟨a, xs, rfl, hx, q⟩ := h
  cases rx
  obtain ⟨its, r, ht, hz⟩ := I.list hx
  have hlen := r.length
  refine ⟨"list", _, slot_list_getitem.lookup, ht.isList.typeIs, ?_⟩
  refine wpAny_getItem_list_slice ht.isList hs pl pu .none (by simp) ?_ (by rw [List.size_toArray] <;> omega)
  rw [iY, ← hlen]
  refine ⟨.ref s.heap.objs.size, _, I.laid (t' := s.toks) (o := .lst (jV xs lo hi)) (fun b ob q => Heap.get?_push_of_some _ q) (Nat.le_refl _) ?_, rfl, q _ (I.hok.fresh (Nat.le_refl _))⟩
  exact ⟨Nat.le_trans (hE xs lo hi) hz, _, 0, (r.drop (HT.sIx xs.length 0 lo)).take (HT.sIx xs.length xs.length hi - HT.sIx xs.length 0 lo), Heap.get?_push_size _ rfl⟩
def cj : V → Bool
  | .non => true
  | .bl _ => true
  | .int _ => true
  | .str _ => true
  | _ => false
def eqV : V → V → Bool
  | .non, .non => true
  | .bl a, .bl b => a == b
  | .bl a, .int b => (if a then 1 else 0) == b
  | .int a, .bl b => a == (if b then 1 else 0)
  | .int a, .int b => a == b
  | .str a, .str b => a == b
  | _, _ => false
theorem nv {A : Around} {s : Shared} {y x : V} {u v : Value} (ry : RelV y u) (rx : RelV x v) (fy : cj y = true) (fx : cj x = true) : SeqAt.EqAt A s u v (eqV y x) := by
  cases y with
  | non =>
    cases ry
    cases x with
    | non => cases rx; exact SeqAt.EqAt.same _
    | bl b => cases rx; exact SeqAt.EqAt.none_bool b
    | int b => obtain ⟨t, rfl⟩ := rx; exact SeqAt.EqAt.none_int b t
    | str b => obtain ⟨t, rfl⟩ := rx; exact SeqAt.EqAt.none_str b t
    | _ => exact absurd (show false = true from fx) Bool.false_ne_true
  | bl a =>
    cases ry
    cases x with
    | non => cases rx; exact SeqAt.EqAt.bool_none a
    | bl b => cases rx; exact SeqAt.EqAt.bool_bool a b
    | int b => obtain ⟨t, rfl⟩ := rx; exact SeqAt.EqAt.bool_int a b t
    | str b => obtain ⟨t, rfl⟩ := rx; exact SeqAt.EqAt.bool_str a b t
    | _ => exact absurd (show false = true from fx) Bool.false_ne_true
  | int a =>
    obtain ⟨t', rfl⟩ := ry
    cases x with
    | non => cases rx; exact SeqAt.EqAt.int_none a t'
    | bl b => cases rx; exact SeqAt.EqAt.int_bool a t' b
    | int b => obtain ⟨t, rfl⟩ := rx; exact SeqAt.EqAt.int_int a t' b t
    | str b => obtain ⟨t, rfl⟩ := rx; exact SeqAt.EqAt.int_str a t' b t
    | _ => exact absurd (show false = true from fx) Bool.false_ne_true
  | str a =>
    obtain ⟨t', rfl⟩ := ry
    cases x with
    | non => cases rx; exact SeqAt.EqAt.str_none a t'
    | bl b => cases rx; exact SeqAt.EqAt.str_bool a t' b
    | int b => obtain ⟨t, rfl⟩ := rx; exact SeqAt.EqAt.str_int a t' b t
    | str b => obtain ⟨t, rfl⟩ := rx; exact SeqAt.EqAt.str_str a t' b t
    | _ => exact absurd (show false = true from fx) Bool.false_ne_true
  | _ => exact absurd (show false = true from fy) Bool.false_ne_true
def eqU (x : V) (u : Value) : Bool := match u with
  | .none => eqV .non x
  | .bool b => eqV (.bl b) x
  | .int i _ => eqV (.int i) x
  | .str z _ => eqV (.str z) x
  | _ => false
theorem qI {x y : V} {u : Value} (r : RelV y u) (f : cj y = true) : eqU x u = eqV y x := by
  cases y with
  | non => cases r; rfl
  | bl b => cases r; rfl
  | int i => obtain ⟨t, rfl⟩ := r; rfl
  | str z => obtain ⟨t, rfl⟩ := r; rfl
  | _ => exact absurd (show false = true from f) Bool.false_ne_true
theorem kl {x : V} : ∀ {xs : List V} {us : List Value}, Vals xs us → xs.all cj = true → us.any (eqU x) = xs.any fun y => eqV y x
  | _, _, .nil, _ => rfl
  | y :: xs, u :: us, .cons r t, f => by
    rw [List.all_cons, Bool.and_eq_true] at f
    rw [List.any_cons, List.any_cons, qI r f.1, kl t f.2]
theorem iJ {A : Around} {s : Shared} {x : V} {v : Value} (rx : RelV x v) (fx : cj x = true) : ∀ {xs : List V} {us : List Value}, Vals xs us → xs.all cj = true → ∀ u ∈ us, SeqAt.EqAt A s u v (eqU x u)
  | _, _, .nil, _ => fun u hu => by cases hu
  | y :: xs, u :: us, .cons r t, f => fun u' hu => by
    rw [List.all_cons, Bool.and_eq_true] at f
    rcases List.mem_cons.mp hu with rfl | hu
    · rw [qI r f.1]; exact nv r rx f.1 fx
    · exact iJ rx fx t f.2 u' hu
def inV (x : V) (xs : List V) : Bool := xs.any fun y => eqV y x
def rIn (K : PySem.W.Frag) (neg : Bool) : R2 := fun x y H Q => ∃ p xs, y = .ref p ∧ (SqL K H p xs ∨ SqT K H p xs) ∧ cj x = true ∧ xs.all cj = true ∧ Q (.bl (if neg then !inV x xs else inV x xs)) H
theorem jQ : OpR X (compareOp .NotIn) (rIn X.K true) := by
  intro pins s σ H x y v u Q I rx ry h
  obtain ⟨p, xs, rfl, hq, fx, fs, q⟩ := h
  cases ry
  rcases hq with hq | hq
  · obtain ⟨its, r, pl, hz⟩ := I.list hq
    refine SeqAt.notIn_listAt (eqU x) pl.isList (fun w hw => iJ rx fx r fs w (by simpa using hw)) ⟨.bl _, H, I, rfl, ?_⟩
    rw [show its.toArray.any (eqU x) = its.any (eqU x) by simp, kl r fs]
    exact q
  · obtain ⟨its, r, pl, hz⟩ := I.tuple hq
    refine SeqAt.notIn_tupleAt (eqU x) pl (fun w hw => iJ rx fx r fs w (by simpa using hw)) ⟨.bl _, H, I, rfl, ?_⟩
    rw [show its.toArray.any (eqU x) = its.any (eqU x) by simp, kl r fs]
    exact q
theorem CallR.or {f : Value} {r r' : List V → Hp → VK → Prop} (h : CallR X f r) (h' : CallR X f r') : CallR X f (fun xs H Q => r xs H Q ∨ r' xs H Q) := by
  intro pins s σ H xs us Q I rs q
  rcases q with q | q
  · exact h pins s σ H xs us Q I rs q
  · exact h' pins s σ H xs us Q I rs q
theorem jd : CallR X (.type "tuple") (fun xs H Q => ∃ p ys, xs = [.ref p] ∧ ((SqL X.K H p ys ∧ ∀ l, H l = none → Q (.ref l) (upd H l (.tup ys))) ∨ (SqT X.K H p ys ∧ Q (.ref p) H))) := by
  intro pins s σ H xs us Q I r h
  obtain ⟨p, ys, rfl, h⟩ := h
  obtain ⟨u, rfl, rx⟩ := eJ r
  cases rx
  rcases h with ⟨hq, q⟩ | ⟨hq, q⟩
  · obtain ⟨its, r', pl, hz⟩ := I.list hq
    have hlen := r'.length
    refine call_tuple_list pl.isList (fun h' kp => ?_) (by simp only [List.size_toArray] <;> omega)
    have I1 : Inv X pins σ H { s with heap := h' } := I.kept (t' := s.toks) kp
    have I2 : Inv X pins σ (upd H h'.objs.size (.tup ys)) { s with heap := h'.push { cls := .type "tuple", data := .seq its.toArray } } :=
      I1.laid (t' := s.toks) (fun b o e => Heap.get?_push_of_some _ e) (Nat.le_refl _) (show ObjOk X.prog X.w _ _ _ (.tup ys) from ⟨hz, its, r', IsTup.new _ _⟩)
    exact ⟨.ref h'.objs.size, _, I2, rfl, q _ (I1.hok.fresh (Nat.le_refl _))⟩
  · obtain ⟨its, r', pl, hz⟩ := I.tuple hq
    exact call_tuple_same pl ⟨.ref p, H, I, rfl, q⟩
def tyV (K : PySem.W.Frag) (T : String) (x : V) (H : Hp) : Prop := match x with
  | .str _ => T = "str"
  | .int _ => T = "int"
  | .ref p => (T = "list" ∧ ∃ xs, SqL K H p xs) ∨ (T = "tuple" ∧ ∃ o, K.lookup p = some o ∧ o.cls = .type "tuple" ∧ o.dict = none) ∨
      (T = "dict" ∧ ((∃ kvs, H p = some (.dK kvs)) ∨ ∃ kvs, H p = some (.dT kvs))) ∨ (T = "set" ∧ ∃ S n, H p = some (.set S n))
  | _ => False
theorem uJ {pins : List (Addr × Obj)} {σ : St} {H : Hp} {s : Shared} {T : String} {x : V} {v : Value} (I : Inv X pins σ H s) (r : RelV x v) (ty : tyV X.K T x H) :
    s.TypeIs v T ∧ ∀ a, v = .ref a → ∃ ob, s.heap.get? a = some ob ∧ ob.dict = none := by
  cases x with
  | str z =>
    obtain ⟨t, rfl⟩ := r
    cases (show T = "str" from ty)
    exact ⟨typeIs_str s z t, fun _ e => nomatch e⟩
  | int i =>
    obtain ⟨t, rfl⟩ := r
    cases (show T = "int" from ty)
    exact ⟨typeIs_int s i t, fun _ e => nomatch e⟩
  | ref p =>
    cases r
    rcases ty with ⟨rfl, xs, hq⟩ | ⟨rfl, o, hk, hc, hd⟩ | ⟨rfl, hk⟩ | ⟨rfl, S, n, hk⟩
    · obtain ⟨its, _, pl, _⟩ := I.list hq
      refine ⟨pl.isList.typeIs, fun a e => ?_⟩
      cases e
      obtain ⟨o, n, e, c, hd, _⟩ := pl
      exact ⟨o, e, hd⟩
    · refine ⟨⟨o, I.kIn p o hk, hc⟩, fun a e => ?_⟩
      cases e
      exact ⟨o, I.kIn _ o hk, hd⟩
    · have z : ∃ o, s.heap.get? p = some o ∧ o.ExactDict := by
        rcases hk with ⟨kvs, hk⟩ | ⟨kvs, hk⟩
        · obtain ⟨_, _, _, _, o, _, _, e, ex, _⟩ := I.hok p _ hk
          exact ⟨o, e, ex⟩
        · obtain ⟨_, _, _, _, o, _, _, e, ex, _⟩ := I.hok p _ hk
          exact ⟨o, e, ex⟩
      obtain ⟨o, e, ex⟩ := z
      refine ⟨⟨o, e, ex.1⟩, fun a e2 => ?_⟩
      cases e2
      exact ⟨o, e, ex.2.1⟩
    · obtain ⟨o, _, _, _, e, ex, _⟩ := I.hok p _ hk
      refine ⟨⟨o, e, ex.1⟩, fun a e2 => ?_⟩
      cases e2
      exact ⟨o, e, ex.2.1⟩
  | _ => exact False.elim ty
def tBM (K : PySem.W.Frag) (T : String) (r : V → List V → Hp → VK → Prop) (to : TE) (t : TA) : TE := fun σ H Q => to σ H fun x H1 => tyV K T x H1 ∧ t σ H1 fun xs H2 => r x xs H2 Q
variable {o e : Expr} {es : List Expr} {to : TE} {t : TA} {name : Str} {apos cpos : Pos} {T id : String} {r : V → List V → Hp → VK → Prop}
theorem xz (pa : PlainAttrs T) (slot : Slot T name id) (hty : typeOf (.builtin id) = pure (.type "method_descriptor")) (hm : MtR X id r) (ho : PE X o to) (ha : PA X (e :: es) t)
    (hbase : attributeBase o name X.env (eval o X.env) = eval o X.env := by rfl)
    (hfew : ((backTo cpos (starEach (e :: es) X.env)).all (fun x => !x.1) && (backToKw cpos (keywordEach [] X.env)).all (fun x => x.1.isSome)
      && decide ((e :: es).length + ([] : List Keyword).length + (if ([] : List Keyword).isEmpty then 0 else 1) < 30)) = true := by rfl)
    (hline : (apos.endLine == cpos.line) = true := by rfl) (hs : starEach (e :: es) X.env = (false, eval e X.env) :: starEach es X.env := by rfl) (hplain : (backTo cpos (starEach es X.env)).any (·.1) = false := by rfl) :
    PE X (.Call (.Attribute o name apos) (e :: es) [] cpos) (tBM X.K T r to t) := by
  intro pins s σ H Q I h
  refine wpAny_Call_method_late hbase hfew hline rfl (thn (ho pins s σ H _ I h) fun v s1 ⟨x, H1, I1, r1, ty, q1⟩ => ?_)
  obtain ⟨h1, h2⟩ := uJ I1 r1 ty
  refine ⟨T, id, pa, slot, hty, h1, h2, ?_⟩
  have hA := ha cpos pins s1 σ H1 _ I1 q1
  rw [hs] at hA ⊢
  refine Calls.callWith_builtin (by show (false || (backTo cpos (starEach es X.env)).any (·.1)) = false; rw [hplain] <;> rfl) (Calls.evalArgs_plain ?_)
  exact thn hA fun us s2 ⟨vs, H2, I2, r2, q2⟩ => hm pins s2 σ H2 x vs v us Q I2 r1 r2 q2
end
end L2
namespace L2
open PySem PySem.Spec PyProof.Rows
def MtM (X : Cx) (id : String) (r : V → List V → Hp → VK → Prop) : Prop :=
  ∀ (pins : List (Addr × Obj)) (s : Shared) (σ : St) (H : Hp) (x : V) (xs : List V) (v : Value) (us : List Value) (Q : VK), Inv X pins σ H s → RelV x v → Vals xs us → r x xs H Q →
    wpAny (model X.prog X.w) X.A (call (.builtin id) (v :: us)) (EP X pins σ Q) X.xe s
theorem Vals.one : ∀ {x : V} {us : List Value}, Vals [x] us → ∃ u, us = [u] ∧ RelV x u
  | _, _, .cons r .nil => ⟨_, rfl, r⟩
section
variable {X : Cx} {pins : List (Addr × Obj)} {σ : St} {H : Hp} {s : Shared} {l b : Addr} {xs ys zs : List V}
theorem Inv.lset {its its' : List Value} {n : Nat} {f : Array Value → Array Value} {t' : Nat} (I : Inv X pins σ H s) (hH : H l = some (.lst xs))
    (e : s.heap.get? l = some { cls := .type "list", data := .seq its.toArray n }) (hf : f its.toArray = its'.toArray) (hv : Vals ys its') (hz : ys.length ≤ sizeLine) :
    Inv X pins σ (upd H l (.lst ys)) { s with heap := s.heap.update l (Obj.mapSeq f), toks := t' } := by
  have q := PySem.IsL.update e f
  rw [hf] at q
  refine I.write (x := l) (e := l) (by rw [hH]; exact trivial) (.inl rfl) (fun b' u hb hu => (Heap.get?_update_other s.heap (Obj.mapSeq f) (Ne.symm hb)).trans hu) ⟨_, q⟩ ?_
  exact ⟨hz, its', _, hv, q⟩
theorem Inv.lnew {its : List Value} {t' : Nat} (I : Inv X pins σ H s) (hv : Vals ys its) (hz : ys.length ≤ sizeLine) :
    Inv X pins σ (upd H s.heap.objs.size (.lst ys)) { s with heap := s.heap.push { cls := .type "list", data := .seq its.toArray }, toks := t' } :=
  I.laid (fun _ _ q => Heap.get?_push_of_some _ q) (Nat.le_refl _) ⟨hz, its, 0, hv, Heap.get?_push_size _ rfl⟩
theorem Inv.fresh (I : Inv X pins σ H s) : H s.heap.objs.size = none := I.hok.fresh (Nat.le_refl _)
theorem Inv.lstM (I : Inv X pins σ H s) (hH : H l = some (.lst xs)) : xs.length ≤ sizeLine ∧ ∃ (its : List Value) (n : Nat), Vals xs its ∧ xs.length = its.length ∧ s.heap.get? l = some { cls := .type "list", data := .seq its.toArray n } := by
  obtain ⟨z, its, n, r, e⟩ := I.hok l _ hH
  exact ⟨z, its, n, r, r.length, e⟩
theorem rA {n : Nat} (h : n ≤ sizeLine) : Builtin.List.listTooLong n = false := by
  unfold Builtin.List.listTooLong
  exact decide_eq_false (by omega)
end
section
variable {X : Cx}
def ox : V → List V → Hp → VK → Prop := fun x vs H Q => ∃ l xs y, x = .ref l ∧ vs = [y] ∧ H l = some (.lst xs) ∧ xs.length < sizeLine ∧ Q .non (upd H l (.lst (xs ++ [y])))
theorem cZ : MtM X "list.append" ox := by
  intro pins s σ H x vs v us Q I rx rv h
  obtain ⟨l, xs, y, rfl, rfl, hH, hz, q⟩ := h
  cases rx
  obtain ⟨u, rfl, ru⟩ := rv.one
  obtain ⟨z, its, n, r, hl, e⟩ := I.lstM hH
  refine call_meets F.slot_list_append ⟨_, e, rfl⟩ F.entry_list_append (F.args_list_append_2 _ _) (PySem.list_append l its.toArray n u (by rw [List.size_toArray]; omega)) ⟨e, ?_⟩
  refine ⟨.non, _, I.lset (its' := its ++ [u]) hH e (by simp) (r.append (.cons ru .nil)) ?_, rfl, q⟩
  rw [List.length_append, List.length_singleton]
  omega
def rM : V → List V → Hp → VK → Prop := fun x vs H Q => ∃ l b xs zs, x = .ref l ∧ vs = [.ref b] ∧ H l = some (.lst xs) ∧ H b = some (.lst zs) ∧ xs.length + zs.length ≤ sizeLine ∧ Q .non (upd H l (.lst (xs ++ zs)))
theorem wB : MtM X "list.extend" rM := by
  intro pins s σ H x vs v us Q I rx rv h
  obtain ⟨l, b, xs, zs, rfl, rfl, hH, hB, hz, q⟩ := h
  cases rx
  obtain ⟨u, rfl, ru⟩ := rv.one
  cases ru
  obtain ⟨z, its, n, r, hl, e⟩ := I.lstM hH
  obtain ⟨z2, its2, n2, r2, hl2, e2⟩ := I.lstM hB
  have hsz : its.toArray.size + its2.toArray.size ≤ sizeLine := by rw [List.size_toArray, List.size_toArray]; omega
  have hlong : ¬ (!its.toArray.isEmpty && Builtin.List.listTooLong (its.toArray.size + its2.toArray.size)) = true := by
    rw [rA hsz, Bool.and_false]
    exact Bool.false_ne_true
  refine call_meets F.slot_list_extend ⟨_, e, rfl⟩ F.entry_list_extend (F.args_list_extend_2 _ _)
    (AutoSeq1.list_extend_list_list_0 l its.toArray n b its2.toArray n2 hlong (by rw [List.size_toArray]; omega) (by omega)) ⟨e, e2, ?_⟩
  refine ⟨.non, _, I.lset (its' := its ++ its2) hH e (by simp) (r.append r2) ?_, rfl, q⟩
  rw [List.length_append]
  omega
def ya : R2 := fun x y H Q => ∃ l b xs zs, x = .ref l ∧ y = .ref b ∧ H l = some (.lst xs) ∧ H b = some (.lst zs) ∧ xs.length + zs.length ≤ sizeLine ∧ ∀ p, H p = none → Q (.ref p) (upd H p (.lst (xs ++ zs)))
theorem uP : OpR X (binaryOp .Add) ya := by
  intro pins s σ H x y v u Q I rx ry h
  obtain ⟨l, b, xs, zs, rfl, rfl, hH, hB, hz, q⟩ := h
  cases rx
  cases ry
  obtain ⟨z, its, n, r, hl, e⟩ := I.lstM hH
  obtain ⟨z2, its2, n2, r2, hl2, e2⟩ := I.lstM hB
  refine PySem.P.add_list e e2 ?_ (by rw [List.size_toArray, List.size_toArray]; omega)
  have ea : its.toArray ++ its2.toArray = (its ++ its2).toArray := by simp
  rw [ea]
  exact ⟨.ref _, _, I.lnew (t' := s.toks) (r.append r2) (by rw [List.length_append]; omega), rfl, q _ I.fresh⟩
end
section
variable {prog : Program} {w : World} {A : Around} {E : Value → Shared → Prop} {s : Shared}
end
section
variable {X : Cx}
end
end L2
namespace Att
open PySem PySem.W PySem.Calls PyProof.Rows
theorem hZ {P : Params} {h : Heap} : ∀ (ns : List Int) (vs : List Value), WellAll P h vs (ns.map WData.int) → IntsAre vs ns := by
  intro ns
  induction ns with
  | nil =>
    intro vs w
    rw [List.map_nil] at w
    cases w
    exact .nil
  | cons n ns ih =>
    intro vs w
    rw [List.map_cons] at w
    cases w with
    | cons a b =>
      cases a
      exact .cons _ _ (ih _ b)
theorem px {l : OpenLaw} {n : Nat} (hn : l.most = some n) {P : Params} {h : Heap} {args : List WData} {vals : List Value}
    (hpre : l.row.toRowW.claim.pre args = true) (hwl : WellAll P h vals args) :
    ∃ a vs ns, vals = [Value.ref a] ∧ args = [WData.list (ns.map WData.int)] ∧ h.get? a = some { cls := .type "list", data := .seq vs.toArray } ∧ IntsAre vs ns ∧ ns.length ≤ n := by
  have hsh : WShape.hasAll [] args [.list .int] = true := (pre_splitW hpre).1
  have hc : l.pre.holds [] { args := args } = true := (pre_splitW hpre).2
  obtain ⟨d, r, rfl, h1, h2⟩ := hasAllW_cons hsh
  obtain rfl := hasAllW_nil h2
  obtain ⟨xs, rfl, h3⟩ := hasW_list h1
  obtain ⟨ns, rfl⟩ := items_int h3
  have hlen : ns.length ≤ n := by
    unfold OpenLaw.pre at hc
    have h4 : (WTm.not (.lt (.lit (.int (n : Int))) (.len (.arg 0)))).holds [] { args := [.list (ns.map .int)] } = true := by
      have h4 := (holds_andW hc).1
      rw [hn] at h4
      exact h4
    have h5 := condW_of h4 (w_not (w_lt w_lit (w_len_list (w_arg rfl))))
    rw [List.length_map] at h5
    refine Nat.le_of_not_lt fun q => ?_
    have q' : (n : Int) < ((ns.length : Nat) : Int) := by omega
    first
      | (rw [decide_eq_true q'] at h5; exact absurd h5 (by decide))
      | (simp at h5; omega)
  cases hwl with
  | cons w1 w2 =>
    cases w2
    cases w1 with
    | list ho hall => exact ⟨_, _, ns, rfl, rfl, ho, hZ ns _ hall, hlen⟩
theorem o4 (l : OpenLaw) (args : List WData) : l.row.toRowW.claim.post args (.bool true) args = true :=
  postW_of (r := l.row.toRowW) (X := (true == true))
    (show WShape.has [] (.bool true) .bool = true by first | rfl | decide | simp [WShape.has, WShape.arms, WShape.armsAll])
    (show (WTm.eq .res (.lit (.bool true))).value [] { args := args, res := some (.bool true), after := args } = some (.bool (true == true)) from w_eq_bool (w_res rfl) w_lit) rfl
theorem attach_call {l : OpenLaw} {n : Nat} {q : Program} {loose : List Str} {XP : (Str → Option Value) → Heap → Prop} {YP : World → Heap → Prop} {d : DefRec}
    (hn : l.most = some n) (hdf : d.params.defaults = [])
    (call : ∀ (w : World) (s₀ s₁ : Shared) (mg mb : Str → Option Value) (fa : Addr) (o : Obj) (pm cd doc : Value) (a : Addr) (vs : List Value) (ns : List Int),
      Ground q loose [] XP w s₀ mg mb s₁.heap → YP w s₁.heap →
      s₁.heap.get? fa = some o → o.data = .func (docDef d.name d.params d.body d.scope pm cd doc) → s₁.heap.CodeRec cd d.name → mg d.name = some (.ref fa) →
      s₁.heap.get? a = some { cls := .type "list", data := .seq vs.toArray } → IntsAre vs ns → ns.length ≤ n → s₁.gens = #[] →
      codeAny (model l.prog w) callerA (.call (.ref fa) ⟨[.ref a], []⟩) (fun r s' => r = .ok (.ret (.bool true)) ∧ OldK s₁.heap s'.heap ∧ s'.os = s₁.os ∧ AllBare s'.gens) s₁) :
    WalkO q loose XP YP l.row.toRowW d [] (fun f vs => PySem.call f vs) := by
  intro w s₀ s₁ mg mb G Y fa o pm cd doc dV kV ho hd hcd hD hmg hg args vals as hpre hlay hrd hwl hlo
  obtain rfl : dV = .none := Dflts.none hD hdf
  obtain rfl : kV = .none := Dflts.noKw hD
  obtain ⟨a, vs, ns, rfl, rfl, hobj, hints, hlen⟩ := px hn hpre hwl
  refine enter_call (codeAny_mono (call w s₀ s₁ mg mb fa o pm cd doc a vs ns G Y ho (fd_plain hd) hcd hmg hobj hints hlen hg) fun r s' hq => ?_)
  obtain ⟨rfl, h2, h3, h4⟩ := hq
  exact ⟨.inl ⟨.bool true, .bool true, [], rfl, fun _ => rfl, .bool true, o4 l _, fun _ => ⟨List.Pairwise.nil, fun _ hm => (nomatch hm)⟩⟩, h2, h3, h4⟩
section
variable {prog : Program} {w : World} {A : Around} {E : Value → Shared → Prop} {s : Shared} {K : Frag}
end
end Att
namespace L2
open PySem PySem.Spec PyProof.Rows
theorem ji : ∀ {vs : List Value} {ns : List Int}, IntsAre vs ns → Vals (ns.map V.int) vs
  | _, _, .nil => .nil
  | _, _, .cons n t h => .cons ⟨t, rfl⟩ (ji h)
def rE (H : Hp) : Prop := ∀ b, H b = none ∨ ∃ o xs, H b = some (.frz o (.lst xs))
theorem pW {P : Program} {w : World} {K : PySem.W.Frag} {mg mb : Str → Option Value} {CX : CXT} {k : Nat} {fa a : Addr} {fd : FuncData} {x : Str} {sp : Sp} {s₁ : Shared} {vs : List Value} {ns : List Int}
    (KX : K.In s₁.heap) (hns : s₁.heap.Ns mainGlobals mg) (hb : s₁.heap.Ns builtinsNs mb) (hbb : ∀ x : Str, x ≠ "__name__" → mb x = bootBuiltins x) (hlim : s₁.heap.NoLimit) (hg : s₁.gens = #[])
    (ha : s₁.heap.get? a = some { cls := .type "list", data := .seq vs.toArray }) (hi : IntsAre vs ns) (hl : ns.length ≤ sizeLine) (hr : Room k callerA)
    (F : ∀ base : Heap, K.In base → base.Ns mainGlobals mg → b_ P w K mg base CX k fa fd [x] sp) (hbind : ∀ (s : Shared) (u : Value), BindsTo s fd ⟨[u], []⟩ [(x, u)])
    (hsp : ∀ H : Hp, rE H → SqL K H a (ns.map V.int) → sp [.ref a] H (fun v _ => v = .bl true) fun _ _ _ => False)
    (hCX : ∀ H e s', CX [] H s₁ (fun _ _ _ => False) e s' → False) :
    codeAny (model P w) callerA (.call (.ref fa) ⟨[.ref a], []⟩) (fun r s' => r = .ok (.ret (.bool true)) ∧ OldK s₁.heap s'.heap ∧ s'.os = s₁.os ∧ AllBare s'.gens) s₁ := by
  have rv := ji hi
  have lenV := hi.length
  have core : ∀ H : Hp, rE H → SqL K H a (ns.map V.int) → HOk P w H s₁.heap → (∀ b, H b ≠ none → b = a) → (H a ≠ none → K.lookup a = none) →
      codeAny (model P w) callerA (.call (.ref fa) ⟨[.ref a], []⟩) (fun r s' => r = .ok (.ret (.bool true)) ∧ OldK s₁.heap s'.heap ∧ s'.os = s₁.os ∧ AllBare s'.gens) s₁ := by
    intro H hO hS hok hA hK
    have base_of : ∀ {b : Addr} {o : Obj}, s₁.heap.get? b = some o → H b = none → (kx s₁.heap H).get? b = some o := fun e n => qa e n
    have noA : ∀ {b : Addr} {o : Obj} {es : Array DictEntry} {ep : Nat}, s₁.heap.get? b = some o → o.data = .dict es ep → H b = none := fun {b o es ep} e d => by
      cases q : H b with
      | none => rfl
      | some u =>
        have e' : b = a := hA b (by rw [q]; simp)
        subst e'
        rw [ha] at e; cases e
        have d' : Data.seq vs.toArray _ = Data.dict es ep := d
        cases d'
    have nsK : ∀ {b : Addr} {m : Str → Option Value}, s₁.heap.Ns b m → (kx s₁.heap H).Ns b m := fun {b m} ⟨o, es, ep, e, d, r⟩ => ⟨o, es, ep, base_of e (noA e d), d, r⟩
    have hKb : K.In (kx s₁.heap H) := fun b o e => base_of (KX b o e) (by
      cases q : H b with
      | none => rfl
      | some u =>
        have e' : b = a := hA b (by rw [q]; simp)
        subst e'
        rw [hK (by rw [q]; simp)] at e; cases e)
    have hM : Mod K mg (kx s₁.heap H) := ⟨hKb, nsK hns, ⟨mb, nsK hb, hbb⟩, let ⟨mc, h1, h2⟩ := hlim; ⟨mc, nsK h1, h2⟩⟩
    have e0 : Env0 P w K mg (kx s₁.heap H) callerA [] s₁ H := ⟨rfl, hM, fun b o e => sI e, Nat.le_of_eq (pq _ _), trivial, fun b hb => absurd (show b ∈ ([] : List Addr) from hb) (by simp), hok, .of_eq hg⟩
    refine codeAny_mono ((F _ hKb (nsK hns)).run callerA [] s₁ H ⟨[.ref a], []⟩ [.ref a] [.ref a] _ _ hr e0 (hbind s₁ (.ref a)) (.cons rfl .nil) (hsp H hO hS)) fun r s' h => ?_
    cases r with
    | error e => exact (hCX H e s' h).elim
    | ok fl =>
      cases fl with
      | next => exact False.elim h
      | brk => exact False.elim h
      | cont => exact False.elim h
      | ret u =>
        obtain ⟨v, H', os, bare, un, hok', r', q⟩ := h
        have q' : v = .bl true := q
        subst q'
        obtain rfl : u = Value.bool true := r'
        refine ⟨rfl, OldK.of_keep fun b o e => ?_, os, bare⟩
        cases q : H b with
        | none => exact un.keep b o e q (by intro z; exact absurd (show b ∈ ([] : List Addr) from z) (by simp)) (by simp)
        | some u =>
          rcases hO b with z | ⟨ob, xs, z⟩
          · rw [q] at z; cases z
          · have z2 := un.frzs b ob _ z
            obtain ⟨e1, _⟩ := hok b _ z
            obtain ⟨e2, _⟩ := hok' b _ z2
            rw [e] at e1; cases e1
            exact e2
  cases hk : K.lookup a with
  | some o =>
    have e := KX a o hk
    rw [ha] at e
    cases e
    refine core (fun _ => none) (fun _ => .inl rfl) (.inr ⟨_, vs.toArray, _, hk, rfl, rfl, rfl, by rw [List.size_toArray, lenV]; exact hl, by simpa using rv⟩) (fun b u z => by have z' : (none : Option HO) = some u := z; cases z') (fun b z => absurd rfl z) fun z => absurd rfl z
  | none =>
    refine core (fun b => if b = a then some (.frz { cls := .type "list", data := .seq vs.toArray } (.lst (ns.map V.int))) else none) (fun b => ?_) (.inl (.inr ⟨{ cls := .type "list", data := .seq vs.toArray }, if_pos rfl⟩)) (fun b u z => ?_) (fun b z => ?_) fun _ => hk
    · by_cases hb : b = a
      · exact .inr ⟨_, _, if_pos hb⟩
      · exact .inl (if_neg hb)
    · by_cases hb : b = a
      · have z' := (if_pos hb).symm.trans z
        cases z'
        subst hb
        exact ⟨ha, by rw [List.length_map]; exact hl, vs, _, rv, ha⟩
      · have z' := (if_neg hb).symm.trans z
        cases z'
    · by_cases hb : b = a
      · exact hb
      · exact absurd (if_neg hb) z
end L2
namespace L2
open PySem PySem.Spec PyProof.Rows
theorem sX {l : PySem.W.OpenLaw} {n k : Nat} {q : Program} {loose : List Str} {XP : (Str → Option Value) → Heap → Prop} {YP : World → Heap → Prop} {d : DefRec} {K : Params → PySem.W.Frag} {CX : World → CXT} {sp : World → Sp} {x : Str}
    (hn : l.most = some n) (hn2 : n ≤ sizeLine) (hdf : d.params.defaults = []) (hr : Room k callerA)
    (hY : ∀ (w : World) (h : Heap), YP w h → (K w.params).In h)
    (F : ∀ (w : World) (mg : Str → Option Value) (fa : Addr) (h : Heap), (K w.params).In h → h.Ns mainGlobals mg → mg d.name = some (.ref fa) →
      ∃ fd : FuncData, (∀ (s : Shared) (u : Value), BindsTo s fd ⟨[u], []⟩ [(x, u)]) ∧
        ∀ base : Heap, (K w.params).In base → base.Ns mainGlobals mg → b_ l.prog w (K w.params) mg base (CX w) k fa fd [x] (sp w))
    (hsp : ∀ (w : World) (H : Hp) (a : Addr) (ns : List Int), ns.length ≤ n → rE H → SqL (K w.params) H a (ns.map V.int) → sp w [.ref a] H (fun v _ => v = .bl true) fun _ _ _ => False)
    (hCX : ∀ (w : World) (H : Hp) (s : Shared) (e : Value) (s' : Shared), CX w [] H s (fun _ _ _ => False) e s' → False) :
    PySem.W.WalkO q loose XP YP l.row.toRowW d [] (fun f vs => PySem.call f vs) := by
  refine Att.attach_call hn hdf fun w s₀ s₁ mg mb fa o pm cd doc a vs ns G Y ho hd hcd hmg hobj hints hlen hg => ?_
  have KX := hY w _ Y
  obtain ⟨fd, hb, hF⟩ := F w mg fa _ KX G.T.g hmg
  exact pW KX G.T.g G.T.b G.T.builtins G.T.nolimit hg hobj hints (Nat.le_trans hlen hn2) hr hF hb (fun H hO hS => hsp w H a ns hlen hO hS) fun H e s' => hCX w H s₁ e s'
end L2
namespace L2
open PySem PySem.Spec PyProof.Rows
abbrev CX0 : CXT := fun _ _ _ _ _ _ => False
structure Fun (K : PySem.W.Frag) (x qual : Str) (st : Stmt) (f : Addr) (fd : FuncData) : Prop where
  ex : ∃ (oc : Value) (od : Option Addr) (kV doc pm : Value) (an : Option Addr) (cdv ct : Value) (osl : Array (Option Value)),
    fd = PySem.W.fnOf x qual (aI st) (aB st) (ae st) .none kV doc pm an cdv ct ∧ K.lookup f = some ⟨oc, od, .func fd, osl⟩ ∧ PySem.W.codeIn K cdv qual = true
  kp : PySem.W.keepIn K (.ref f) = true
section
variable {P : Program} {w : World} {K : PySem.W.Frag} {mg : Str → Option Value} {base : Heap}
theorem Fun.binds {x qual : Str} {st : Stmt} {f : Addr} {fd : FuncData} {ps : List Str} (F : Fun K x qual st f fd)
    (h : ∀ (kV doc pm : Value) (an : Option Addr) (cdv ct : Value) (us : List Value), us.length = ps.length → bindArgs (PySem.W.fnOf x qual (aI st) (aB st) (ae st) .none kV doc pm an cdv ct) ⟨us, []⟩ = pure (ps.zip us)) : Binds K fd ps [] := by
  obtain ⟨oc, od, kV, doc, pm, an, cdv, ct, osl, rfl, lk, hcd⟩ := F.ex
  exact .all (h kV doc pm an cdv ct)
theorem bt {x qual : Str} {st : Stmt} {f : Addr} {oc : Value} {od an : Option Addr} {osl : Array (Option Value)} {kV doc pm cdv ct : Value} (l : K.lookup f = some ⟨oc, od, .func (PySem.W.fnOf x qual (aI st) (aB st) (ae st) .none kV doc pm an cdv ct), osl⟩)
    (c : PySem.W.codeIn K cdv qual = true) (k : PySem.W.keepIn K (.ref f) = true) : Fun K x qual st f (PySem.W.fnOf x qual (aI st) (aB st) (ae st) .none kV doc pm an cdv ct) := ⟨⟨oc, od, kV, doc, pm, an, cdv, ct, osl, rfl, l, c⟩, k⟩
end
section
variable {X : Cx}
end
theorem xZ {A B : Prop} (h : B) : if false = true then A else B := by
  rw [if_neg Bool.false_ne_true]
  exact h
theorem x_ {A B : Prop} (h : A) : if true = true then A else B := by
  rw [if_pos rfl]
  exact h
def Same (H H' : Hp) : Prop := ∀ b o, H b = some o → H' b = some o
theorem Same.refl (H : Hp) : Same H H := fun _ _ h => h
theorem Same.trans {H H1 H2 : Hp} (a : Same H H1) (b : Same H1 H2) : Same H H2 := fun c o h => b c o (a c o h)
theorem Same.free {H H' : Hp} (e : Same H H') {l : Addr} (h : H' l = Option.none) : H l = Option.none := by
  cases q : H l with
  | none => rfl
  | some o =>
    rw [e l o q] at h
    cases h
end L2
set_option Elab.async false
set_option linter.all false
set_option maxRecDepth 100000
namespace L2
open PySem PySem.Spec PyProof.Rows
def qw : HO → Bool
  | .dT _ => false
  | .frz _ u => qw u
  | _ => true
def NoT (H : Hp) : Prop := ∀ a o, H a = some o → qw o = true
def pK : HO → Bool
  | .lst _ => true
  | .tup _ => true
  | .dK _ => true
  | .rng _ _ => true
  | _ => false
structure Gc (H G H' : Hp) : Prop where
  a : Same H G
  b : Same G H'
  c : ∀ p o, G p = some o → H p = some o ∨ pK o = true
section
variable {P : Program} {w : World} {H G H' : Hp} {h h' : Heap} {a : Addr} {o : HO}
theorem Gc.refl : Gc H H H := ⟨Same.refl H, Same.refl H, fun _ _ e => .inl e⟩
theorem aj {p : Addr} (o : HO) (hp : H p = Option.none) : Same H (upd H p o) := fun b u e => by rw [ai (ak e hp)]; exact e
end
end L2
set_option Elab.async false
set_option linter.all false
set_option maxRecDepth 100000
namespace L2
open PySem PySem.Spec PyProof.Rows
theorem ObjOk.at_ {P : Program} {w : World} {H : Hp} {h : Heap} {a : Addr} {o : HO} (x : ObjOk P w H h a o) : ∃ ob, h.get? a = some ob := by
  cases o with
  | lst xs => obtain ⟨_, _, _, _, e⟩ := x; exact ⟨_, e⟩
  | tup xs => obtain ⟨_, _, _, ob, e, _⟩ := x; exact ⟨_, e⟩
  | dK kvs => obtain ⟨_, _, _, _, o, _, _, e, _⟩ := x; exact ⟨_, e⟩
  | dT kvs => obtain ⟨_, _, _, _, o, _, _, e, _⟩ := x; exact ⟨_, e⟩
  | set S n => obtain ⟨o, _, _, _, e, _⟩ := x; exact ⟨_, e⟩
  | ins C dx fs => obtain ⟨_, _, _, e, _⟩ := x; exact ⟨_, e⟩
  | own y => obtain ⟨_, e⟩ := x; exact ⟨_, e⟩
  | xd fs => obtain ⟨_, ⟨_, _, _, e, _⟩, _⟩ := x; exact ⟨_, e⟩
  | rng lo hi => obtain ⟨_, _, _, e⟩ := x; exact ⟨_, e⟩
  | frz ob u => obtain ⟨e, _⟩ := x; exact ⟨_, e⟩
  | tbl ps => exact ⟨_, (show h.get? a = some _ from x)⟩
  | met f y => exact ⟨_, (show h.get? a = some _ from x)⟩
  | ext φ => obtain ⟨_, ⟨_, e⟩, _⟩ := x; exact ⟨_, e⟩
theorem HOk.none_of {P : Program} {w : World} {H : Hp} {h : Heap} {a : Addr} (x : HOk P w H h) (e : h.get? a = none) : H a = none := by
  cases q : H a with
  | none => rfl
  | some u =>
    obtain ⟨ob, z⟩ := (x a u q).at_
    rw [e] at z; cases z
def hid (h : Heap) (l : List Env) (rs : List Addr) : Heap := PySem.W.hideAll h (frs l ++ rs)
theorem j3 {h : Heap} {l : List Env} {rs : List Addr} {b : Addr} {o : Obj} (e : h.get? b = some o) (h1 : b ∉ frs l) (h2 : b ∉ rs) : (hid h l rs).get? b = some o :=
  PySem.W.hideAll_get _ e fun z => (List.mem_append.mp z).elim h1 h2
theorem ny {h : Heap} {l : List Env} {rs : List Addr} {b : Addr} {o : Obj} (e : (hid h l rs).get? b = some o) : h.get? b = some o := PySem.W.of_hideAll _ e
theorem jU {h : Heap} {l : List Env} {rs : List Addr} {b : Addr} (e : b ∈ rs) : (hid h l rs).get? b = none := PySem.W.hideAll_none _ (List.mem_append_right _ e)
theorem fq {h base : Heap} {l : List Env} {rs : List Addr} (e : h.FunFrames base l) : h.FunFrames (hid h l rs) l :=
  PySem.W.funFrames_hide e fun _ he _ ha => List.mem_append_left _ (List.mem_filterMap.mpr ⟨_, he, ha⟩)
def Fly (l : List Env) (rs : List Addr) (e : Addr) (cls : Value) (h : Heap) : Prop := e ∈ rs ∧ ∃ a0, Heap.FlyingW (hid h l rs) l e cls a0 h
def XE (P : Program) (w : World) : CXT := fun outer H s E ev s' => ∃ (e : Addr) (C : Value) (rs : List Addr) (H' : Hp), ev = .ref e ∧ s'.os = s.os ∧ AllBare s'.gens ∧ Un (frs outer) [] H H' s.heap s'.heap ∧
  HOk P w H' s'.heap ∧ (∀ b ∈ rs, s.heap.get? b = none ∧ H' b = none) ∧ Fly outer rs e C s'.heap ∧ E C none H'
section
variable {X : Cx} {pins : List (Addr × Obj)} {σ : St} {H : Hp} {s : Shared} {h' : Heap} {rs : List Addr}
theorem Inv.s0_none (I : Inv X pins σ H s) (hex : X.ex = []) {b : Addr} (e : s.heap.get? b = none) : X.s₀.heap.get? b = none := by
  cases q : X.s₀.heap.get? b with
  | none => rfl
  | some o =>
    obtain ⟨o', z⟩ := I.base.there b o q (by rw [hex]; simp)
    rw [e] at z; cases z
theorem Inv.noteUn (I : Inv X pins σ H s) (hex : X.ex = []) (hrs : ∀ b ∈ rs, X.s₀.heap.get? b = none)
    (stay : ∀ b o, s.heap.get? b = some o → b ∉ frs X.stack → b ∉ rs → h'.get? b = some o) (up : s.heap.UpToSlots h') : Un X.fs [] X.H₀ H X.s₀.heap h' := by
  have B := I.base
  rw [hex] at B
  have nrs : ∀ b o, X.s₀.heap.get? b = some o → b ∉ rs := fun b o e z => by rw [hrs b z] at e; cases e
  have nst : ∀ b o, X.s₀.heap.get? b = some o → b ∉ X.fs → b ∉ frs X.stack := fun b o e hb z => by
    rcases List.mem_cons.mp (I.stkSub b z) with q | q
    · exact absurd (Nat.lt_of_lt_of_le (Heap.lt_size e) I.ok.above) (by rw [q]; exact Nat.lt_irrefl _)
    · exact hb q
  refine ⟨fun b o q n hb hx => stay b o (B.keep b o q n hb hx) (nst b o q hb) (nrs b o q), fun b o q n hb hx => ?_, fun b o q n hx => B.free b o q n hx, fun b o q hx => ?_, B.tups, B.frzs, B.tbls⟩
  · obtain ⟨sl, e1⟩ := B.slot b o q n hb hx
    obtain ⟨_, o', ho', hd⟩ := I.funs.mem hb
    rw [e1] at ho'; cases ho'
    obtain ⟨sl', e2⟩ := up b _ e1 hd
    exact ⟨sl', e2⟩
  · obtain ⟨o', e1⟩ := B.there b o q hx
    by_cases hb : b ∈ frs X.stack
    · obtain ⟨_, o2, ho2, hd⟩ := I.stack.mem hb
      obtain ⟨sl', e2⟩ := up b _ ho2 hd
      exact ⟨_, e2⟩
    · exact ⟨o', stay b o' e1 hb (nrs b o q)⟩
theorem Inv.noteOk (I : Inv X pins σ H s) (hrs : ∀ b ∈ rs, H b = none) (stay : ∀ b o, s.heap.get? b = some o → b ∉ frs X.stack → b ∉ rs → h'.get? b = some o) : HOk X.prog X.w H h' := fun a o e =>
  (I.hok a o e).stay (fun b u hb q => stay b u q (fun z => by
      have n := I.stkFree b z
      rcases hb with r | r
      · rw [r, e] at n; cases n
      · rw [r] at n; cases n) fun z => by
      have n := hrs b z
      rcases hb with r | r
      · rw [r, e] at n; cases n
      · rw [r] at n; cases n) (fun _ q => q) fun _ _ q => q
theorem nV {base : Heap} {l : List Env} {h h1 : Heap} {T : Addr} {oT : Obj} {ts : Array Value} (hl : h.FunFrames base l) (up : h.UpToSlots h1) (e : (hid h l rs).get? T = none) (hT : h1.get? T = some oT) (hd : oT.data = .fields ts) : h.get? T = none ∨ T ∈ rs := by
  by_cases hr : T ∈ rs
  · exact .inr hr
  · refine .inl ?_
    cases q : h.get? T with
    | none => rfl
    | some o =>
      by_cases hf : T ∈ frs l
      · obtain ⟨_, o2, ho2, hnf⟩ := hl.mem hf
        rw [q] at ho2; cases ho2
        obtain ⟨sl, e2⟩ := up T o q hnf
        rw [hT] at e2; cases e2
        exact absurd hd (hnf ts)
      · rw [j3 q hf hr] at e; cases e
end
section
variable {P : Program} {w : World} {K : PySem.W.Frag} {mg : Str → Option Value} {base : Heap} {N : List Str} {qual : Str} {scope : Scope} {f : Addr} {cd : Value} {A : Around} {outer : List Env} {s₀ : Shared} {H₀ : Hp} {E : XK}
theorem v3 {pins : List (Addr × Obj)} {σ : St} {H : Hp} {s : Shared} {h' : Heap} {e : Addr} {cls : Value} {args : List Value}
    (I : Inv (bY (XE P w) P w K mg base N qual scope f cd A outer s₀ H₀ E) pins σ H s) (hx : Heap.MadeExcOf s.heap h' e cls args) (q : E cls none H) :
    (bY (XE P w) P w K mg base N qual scope f cd A outer s₀ H₀ E).xe (.ref e) { s with heap := h' } := by
  show wpAny (model P w) (A.deeper (envOfC qual scope s₀.heap.objs.size f cd)) (leaving (envOfC qual scope s₀.heap.objs.size f cd) (.ref e)) (fun _ s'' => XE P w outer H₀ s₀ E (.ref e) s'') (fun e' s'' => XE P w outer H₀ s₀ E e' s'') { s with heap := h' }
  have hst : s.heap.FunFrames base (envOfC qual scope s₀.heap.objs.size f cd :: outer) := I.stack
  refine wpAny_leaves_madeW (base := hid s.heap (envOfC qual scope s₀.heap.objs.size f cd :: outer) []) (h := s.heap) I.ok.frames rfl (fun b o z => ny z) (fq hst) hx fun h'' t fl tup tn up => ?_
  obtain ⟨f1, f2, f3, oe, vs, T, oT, ts, he, hc, hd, h1, hnT, hTe, hT, hdT, h3⟩ := fl
  have up' : s.heap.UpToSlots h'' := (Heap.UpToSlots.of_keeps hx.keeps).trans up
  have nT : s.heap.get? T = none := (nV hst up' hnT hT hdT).elim id fun z => nomatch z
  have stay : ∀ b o, s.heap.get? b = some o → b ∉ frs (envOfC qual scope s₀.heap.objs.size f cd :: outer) → b ∉ [e, T] → h''.get? b = some o := fun b o z hb _ => f1 b o (j3 z hb fun y => nomatch y)
  have n0 : ∀ b ∈ [e, T], s.heap.get? b = none := fun b hb => by
    rcases List.mem_cons.mp hb with r | r
    · rw [r]; exact hx.new
    · rw [List.mem_singleton.mp r]; exact nT
  have n1 : ∀ b ∈ [e, T], s₀.heap.get? b = none := fun b hb => I.s0_none rfl (n0 b hb)
  have n2 : ∀ b ∈ [e, T], H b = none := fun b hb => I.hok.none_of (n0 b hb)
  refine ⟨e, cls, [e, T], H, rfl, I.os, I.bare, I.noteUn rfl n1 stay up', I.noteOk n2 stay, fun b hb => ⟨n1 b hb, n2 b hb⟩, ⟨.head _, .ref t, ?_⟩, q⟩
  exact ⟨fun b o z => ny z, jU (.head _), fq f3, oe, vs, T, oT, ts, he, hc, hd, h1, jU (.tail _ (.head _)), hTe, hT, hdT, h3⟩
abbrev XKs := St → XK
def eR (CX : CXT) (X : Cx) (E : XKs) : Prop := ∀ (pins : List (Addr × Obj)) (σ : St) (H : Hp) (s : Shared) (e : Value) (s' : Shared), Inv X pins σ H s → CX X.stack H s (E σ) e s' → X.xe e s'
theorem aN : eR (XE P w) (bY (XE P w) P w K mg base N qual scope f cd A outer s₀ H₀ E) (fun _ => E) := by
  intro pins σ H s ev s' I hq
  obtain ⟨e, C, rs, H', rfl, os, bare, un, hok, hrs, ⟨her, a0, fl⟩, q⟩ := hq
  have J : Inv (bY (XE P w) P w K mg base N qual scope f cd A outer s₀ H₀ E) pins σ H' s' := I.call' os un hok bare (fun b z => nomatch z)
  show wpAny (model P w) (A.deeper (envOfC qual scope s₀.heap.objs.size f cd)) (leaving (envOfC qual scope s₀.heap.objs.size f cd) (.ref e)) (fun _ s'' => XE P w outer H₀ s₀ E (.ref e) s'') (fun e' s'' => XE P w outer H₀ s₀ E e' s'') s'
  have hst : s'.heap.FunFrames base (envOfC qual scope s₀.heap.objs.size f cd :: outer) := J.stack
  refine wpAny_leaves_onW (base := hid s'.heap (envOfC qual scope s₀.heap.objs.size f cd :: outer) rs) I.ok.frames rfl fl fun h'' fl' up => ?_
  obtain ⟨f1, f2, f3, oe, vs, T, oT, ts, he, hc, hd, h1, hnT, hTe, hT, hdT, h3⟩ := fl'
  have nT := nV hst up hnT hT hdT
  have stay : ∀ b o, s'.heap.get? b = some o → b ∉ frs (envOfC qual scope s₀.heap.objs.size f cd :: outer) → b ∉ T :: rs → h''.get? b = some o := fun b o z hb hr => f1 b o (j3 z hb fun y => hr (.tail _ y))
  have n1 : ∀ b ∈ T :: rs, s₀.heap.get? b = none := fun b hb => by
    rcases List.mem_cons.mp hb with r | r
    · rw [r]
      rcases nT with z | z
      · exact J.s0_none rfl z
      · exact I.s0_none rfl (hrs T z).1
    · exact I.s0_none rfl (hrs b r).1
  have n2 : ∀ b ∈ T :: rs, H' b = none := fun b hb => by
    rcases List.mem_cons.mp hb with r | r
    · rw [r]
      rcases nT with z | z
      · exact hok.none_of z
      · exact (hrs T z).2
    · exact (hrs b r).2
  refine ⟨e, C, T :: rs, H', rfl, J.os, J.bare, J.noteUn rfl n1 stay up, J.noteOk n2 stay, fun b hb => ⟨n1 b hb, n2 b hb⟩, ⟨.tail _ her, a0, ?_⟩, q⟩
  exact ⟨fun b o z => ny z, jU (.tail _ her), fq f3, oe, vs, T, oT, ts, he, hc, hd, h1, jU (.head _), hTe, hT, hdT, h3⟩
end
def pR (sp : Sp) (dvs : List V) (E : XKs) (t : TA) : TE := fun σ H Q => t σ H fun vs H1 => sp (vs ++ dvs) H1 Q (E σ)
section
variable {X : Cx} {CX : CXT} {k : Nat} {f C : Addr} {fd : FuncData} {ps : List Str} {sp : Sp} {dvs : List V} {ds : List Value} {E : XKs} {x m : Str} {p pos apos : Pos} {e o : Expr} {es : List Expr} {ta : TE} {t : TA}
theorem oG {pins : List (Addr × Obj)} {σ : St} {H : Hp} {s : Shared} {Q : VK} {us : List Value} {vs : List V} (F : b_ X.prog X.w X.K X.mg X.base CX k f fd ps sp) (hr : Room k X.A) (hb : Binds X.K fd ps ds) (hd : Vals dvs ds) (hx : eR CX X E)
    (I : Inv X pins σ H s) (r : Vals vs us) (h : sp (vs ++ dvs) H Q (E σ)) : wpAny (model X.prog X.w) X.A (call (.ref f) us) (EP X pins σ Q) X.xe s := by
  have r2 : Vals (vs ++ dvs) (us ++ ds) := r.append hd
  have hl : (us ++ ds).length = ps.length := by rw [← r2.length]; exact F.len _ _ _ _ h
  refine wpAny_call (codeAny_mono (F.run X.A X.stack s H ⟨us, []⟩ (us ++ ds) (vs ++ dvs) Q (E σ) hr I.env0 (hb s us I.kIn hl) r2 h) fun r s' hq => ?_)
  cases r with
  | error e => exact hx pins σ H s e s' I hq
  | ok fl =>
    cases fl with
    | ret u => exact I.after hq
    | next => exact False.elim hq
    | brk => exact False.elim hq
    | cont => exact False.elim hq
theorem aq (F : b_ X.prog X.w X.K X.mg X.base CX k f fd ps sp) (hr : Room k X.A) (hg : Gl X x) (hm : X.mg x = some (.ref f)) (hk : PySem.W.keepIn X.K (.ref f) = true) (hb : Binds X.K fd ps ds) (hd : Vals dvs ds) (hx : eR CX X E)
    (ha : PA X (e :: es) t) (hdb : (x == ("__debug__" : Str)) = false := by decide) (he : starEach (e :: es) X.env = (false, eval e X.env) :: starEach es X.env := by rfl) (hpl : (backTo pos (starEach es X.env)).any (·.1) = false := by rfl) :
    PE X (.Call (.Name x p) (e :: es) [] pos) (pR sp dvs E t) := by
  intro pins s σ H Q I h
  refine wpAny_Call_Name_kw (ka I hg hm ?_ hdb)
  refine PySem.W.callWith_K (h₀ := X.base) I.ok.mod.kin hk (thn (ha pos pins s σ H _ I h) fun us s1 ⟨vs, H1, I1, r, q⟩ => ⟨I1.kIn, ?_⟩) he hpl
  exact oG F hr hb hd hx I1 r q
end
section
variable {P : Program} {w : World} {K : PySem.W.Frag} {mg : Str → Option Value} {base : Heap}
theorem Fun.okX {x qual : Str} {st : Stmt} {f : Addr} {fd : FuncData} {N ps : List Str} {k : Nat} {sp : Sp} (F : Fun K x qual st f fd) (S : aP N ps (ae st)) (len : ∀ vs H Q E, sp vs H Q E → vs.length = ps.length)
    (hbody : ∀ (cdv : Value) (A : Around) (outer : List Env) (s : Shared) (H : Hp) (vs : List V) (Q : VK) (E : XK), Room k (A.deeper (envOfC qual (ae st) s.heap.objs.size f cdv)) → sp vs H Q E →
      ∃ t, PSs (bY (XE P w) P w K mg base N qual (ae st) f cdv A outer s H E) (aB st) t ∧ t { nx := fun _ H' => Q .non H', rt := Q } (fm N vs) H) : b_ P w K mg base (XE P w) (k + 1) f fd ps sp := by
  obtain ⟨oc, od, kV, doc, pm, an, cdv, ct, osl, rfl, lk, hcd⟩ := F.ex
  exact xF lk hcd S len fun A outer s H vs Q E hr hsp => hbody cdv A outer s H vs Q E hr hsp
end
end L2
set_option Elab.async false
set_option linter.all false
set_option maxRecDepth 100000
namespace L2
open PySem PySem.Spec PyProof.Rows
section
variable {X : Cx} {pins : List (Addr × Obj)} {σ : St} {H : Hp} {s : Shared} {h' : Heap} {rs : List Addr}
end
def kH (C : Value) (e : Addr) : HO := HO.ext fun h => ∃ o vs, h.get? e = some o ∧ o.cls = C ∧ o.data = .fields vs
end L2
set_option Elab.async false
set_option linter.all false
set_option maxRecDepth 100000
namespace L2
open PySem PySem.Spec PyProof.Rows PySem.W
inductive pb : V → Value → Prop where
  | ty (n : String) : pb (.ty n) (.type n)
  | own (a : Addr) : pb (.ref a) (.ref a)
section
variable {X : Cx}
theorem mE : CallR X (.builtin "isinstance") (fun xs H Q => ∃ x c t u b, xs = [x, c] ∧ pb c u ∧ fF X.K H x t ∧ PySem.W.kitOne X.K t u = some b ∧ Q (.bl b) H) := by
  intro pins s σ H xs us Q I r h
  obtain ⟨x, c, t, u, b, rfl, rc, ty, e, q⟩ := h
  obtain ⟨ux, uc, rfl, rx, rc'⟩ := qF r
  have ec : uc = u := by
    cases rc with
    | ty n => exact rc'
    | own a => exact rc'
  subst ec
  exact o6 I rx ty e fun tk => ⟨.bl b, H, I.tok _, rfl, q⟩
end
structure d9 (K : Frag) (C : Addr) : Prop where
  l1 : findIn K (.ref C) "__getattribute__" = some (some (.builtin "BaseException.__getattribute__"))
  l2 : findIn K (.ref C) "__getattr__" = some none
  l3 : findIn K (.ref C) "__class__" = some (some (.builtin "object.__class__"))
  c1 : (clsIn K C).isSome = true
  m1 : mroIn K C (.type "object") = some true
  m2 : mroIn K C (.type "BaseException") = some true
section
variable {prog : Program} {w : World} {A : Around} {E : Value → Shared → Prop} {K : Frag} {e C : Addr} {o : Obj} {s : Shared}
open Builtin Builtin.ObjectAttr Builtin.Getset_descriptor PySem.Calls in
theorem jf {R : Result → Shared → Prop} {tp : Value} (X : K.In s.heap) (Z : d9 K C) (hx : s.heap.get? e = some o) (hc : o.cls = .ref C)
    (h : R (.ok (.ret (.ref C))) s) : codeAny (model prog w) A (.call (.builtin "getset_descriptor.__get__") ⟨[.builtin "object.__class__", .ref e, tp], []⟩) R s := by
  obtain ⟨hh, g, dr, t, os⟩ := s
  have L0 : Looks (model prog w) hh (typeOf (.ref e)) (.ref C) := hc ▸ (Looks.ld hx).andThen .now
  have L1 := looks_mroIn (M := model prog w) X Z.m1
  refine codeAny_call_builtin KF.slot_gs.plain KF.entry_gs (KF.slot_gs.check _ _ _ _ _ _ _ _ KF.type_class (KF.args_gs _ _ _) ?_)
  unfold Builtin.«getset_descriptor.__get__» descrGet
  rw [dga_obj]
  refine wpAny_bind (wpAny_pure ?_)
  unfold descrGetter descrCheckInstance descrNameAndClass isInstance
  simp only [KF.owner_class]
  repeat lk
  refine ⟨Code.quiet_builtin _ (by decide +kernel), codeAny_builtin KF.entry_class ?_⟩
  unfold Builtin.«object.__class__» shownTypeOf
  repeat lk
  exact h
theorem j6 {M : Model} {nameV : Value} {Q : Unit → Shared → Prop} (X : K.In s.heap) (Z : d9 K C) (hx : s.heap.get? e = some o) (hc : o.cls = .ref C) (hq : Q () s) :
    wpAny M A (checkBuiltinCall "BaseException.__getattribute__" ⟨[.ref e, nameV], []⟩) Q E s := by
  have hk : builtinKind "BaseException.__getattribute__" = some .slot := by decide +kernel
  have hsplit : splitId "BaseException.__getattribute__" = some ("BaseException", "__getattribute__") := by decide +kernel
  have ha := F.args_bexc_ga (.ref e) nameV
  obtain ⟨hh, g, dr, t, os⟩ := s
  have L0 : Looks M hh (typeOf (.ref e)) (.ref C) := hc ▸ (Looks.ld hx).andThen .now
  have L1 := looks_mroIn (M := M) X Z.m2
  have LI : Looks M hh (isInstance (.ref e) (.type "BaseException")) true := L0.andThen L1
  simp only [checkBuiltinCall, hk, hsplit]
  refine wpAny_bind (LI.at ?_)
  repeat (first | assumption | wp_step)
theorem kc {tk : Tok} {Q : Fin → Shared → Prop} (X : K.In s.heap) (Z : d9 K C) (hx : s.heap.get? e = some o) (hc : o.cls = .ref C) (hq : Q (.done (.ret (.ref C))) s) :
    wpAny (model prog w) A (Builtin.«object.__getattribute__» ⟨[.ref e, .str "__class__" tk], []⟩) Q E s := by
  obtain ⟨hh, g, dr, t, os⟩ := s
  have L0 : Looks (model prog w) hh (typeOf (.ref e)) (.ref C) := hc ▸ (Looks.ld hx).andThen .now
  have L3 := looks_findIn (M := model prog w) X Z.l3
  have f5 := KF.type_class
  have f6 := F.slot_gs_get.lookup
  have f7 := F.slot_gs_set.lookup
  repeat (any_goals (first | assumption | with_reducible refine L0.at ?_ | with_reducible refine L3.at ?_ | wp_step))
  refine jf X Z hx hc ?_
  repeat (any_goals (first | assumption | wp_step))
theorem iz {Q : Option Value → Shared → Prop} (X : K.In s.heap) (Z : d9 K C) (hx : s.heap.get? e = some o) (hc : o.cls = .ref C) (h : Q (some (.ref C)) { s with toks := s.toks + 1 }) :
    wpAny (model prog w) A (getAttr? (.ref e) "__class__") Q E s := by
  obtain ⟨hh, g, dr, t, os⟩ := s
  have L0 : Looks (model prog w) hh (typeOf (.ref e)) (.ref C) := hc ▸ (Looks.ld hx).andThen .now
  have L1 := looks_findIn (M := model prog w) X Z.l1
  have L2 := looks_findIn (M := model prog w) X Z.l2
  have f3 := F.excAttr_ValueError.ga.bind (.ref e)
  have hx2 : (Value.builtin "BaseException.__getattribute__" == Value.builtin "object.__getattribute__") = false := by decide +kernel
  have hx0 : ∀ ex : Bool, (ex && onTheHeap (Value.builtin "BaseException.__getattribute__")) = false := fun ex => by cases ex <;> rfl
  have hx1 : (onTheHeap (Value.ref C) && Value.builtin "BaseException.__getattribute__" == Value.builtin "object.__getattribute__") = false := by rw [hx2]; rfl
  unfold getAttr?
  repeat (any_goals (first | assumption | with_reducible refine L0.at ?_ | with_reducible refine L1.at ?_ | with_reducible refine L2.at ?_ | wp_step))
  refine codeAny_call_builtin F.excAttr_ValueError.ga.plain F.entry_bexc_ga (j6 X Z hx hc (kc X Z hx hc ?_))
  repeat (any_goals (first | assumption | wp_step))
theorem pN (Z : d9 K C) : KitX K (.ref e) (.ref C) (fun h => ∃ o, h.get? e = some o ∧ o.cls = .ref C) where
  ty := fun M h _ ⟨o, h1, h2⟩ => h2 ▸ (Looks.ld h1).andThen .now
  it := fun M h X _ => by
    have c1 := Z.c1
    unfold clsIn at c1
    split at c1
    · rename_i c' d' cd' sl' ho
      intro A' Q' E' s' k q
      unfold isType loadHead
      exact wpAny_bind (wpAny_loadPart (k _ _ (X _ _ ho)) (wpAny_pure q))
    · cases c1
  ne := fun h tp dd its n sl X htp => by
    refine Bool.eq_false_iff.mpr fun q => ?_
    have e' : C = tp := Value.ref.inj (beq_iff_eq.mp q)
    subst e'
    have c1 := Z.c1
    unfold clsIn at c1
    split at c1
    · rename_i c' d' cd' sl' ho
      have z := (X _ _ ho).symm.trans htp
      cases z
    · cases c1
  ca := fun X ⟨o, h1, h2⟩ k => iz X Z h1 h2 k
end
section
variable {X : Cx}
theorem ku : CallR X (.builtin "isinstance") (fun xs H Q => ∃ e c C u b, xs = [.ref e, c] ∧ pb c u ∧ H e = some (kH (.ref C) e) ∧ d9 X.K C ∧ PySem.W.kitOne X.K (.ref C) u = some b ∧ Q (.bl b) H) := by
  intro pins s σ H xs us Q I r h
  obtain ⟨e, c, C, u, b, rfl, rc, he, Z, k, q⟩ := h
  obtain ⟨ux, uc, rfl, rx, rc'⟩ := qF r
  have ec : uc = u := by
    cases rc with
    | ty n => exact rc'
    | own a => exact rc'
  subst ec
  cases (show ux = Value.ref e from rx)
  obtain ⟨⟨o, vs, h1, h2, _⟩, _, _⟩ := (show ObjOk X.prog X.w H s.heap e (kH (.ref C) e) from I.hok e _ he)
  exact kia_one (pN Z) I.kIn ⟨o, h1, h2⟩ k (fun z => nomatch z) fun tk => ⟨.bl b, H, I.tok _, rfl, q⟩
theorem jI (hc : X.calm = true) : CallR X (.builtin "sum") (fun xs H Q => ∃ (p : Addr) (ns : List Int), xs = [.ref p] ∧ SqT X.K H p (ns.map V.int) ∧ Q (.int ns.sum) H) := by
  intro pins s σ H xs us Q I r h
  obtain ⟨p, ns, rfl, hq, q⟩ := h
  obtain ⟨u, rfl, rx⟩ := eJ r
  cases (show u = Value.ref p from rx)
  obtain ⟨its, r', pl, hz⟩ := I.tuple hq
  have hi := ir r'
  obtain ⟨ys, hy⟩ := hi.allInts.items
  have hn : numsOf its.toArray.toList = ns := by rw [show its.toArray.toList = its from rfl, hi.numsOf]
  rw [hy] at pl hn
  rw [nums_intItems] at hn
  refine ktm_sumG (I.ok.hd hc) pl fun h' tk t' hk => ?_
  rw [preSum_eq, List.take_of_length_le (by simp), hn]
  exact ⟨.int ns.sum, H, I.kept hk, ⟨_, rfl⟩, q⟩
end
end L2
namespace L2
open PySem PySem.Spec PyProof.Rows
section
variable {X : Cx} {a b : Expr} {ta : TE}
def we (xs ys : List V) : Bool := (List.range (min xs.length ys.length)).all (fun j => eqV (xs.getD j .non) (ys.getD j .non)) && xs.length == ys.length
def tO (K : PySem.W.Frag) (neg : Bool) : R2 := fun x y H Q => ∃ p p' xs ys, x = .ref p ∧ y = .ref p' ∧ SqT K H p xs ∧ SqT K H p' ys ∧ xs.all cj = true ∧ ys.all cj = true ∧ Q (.bl (neg ^^ we xs ys)) H
theorem iw {A : Around} {s : Shared} {xs ys : List V} {us vs : List Value} (r : Vals xs us) (r' : Vals ys vs) (fx : xs.all cj = true) (fy : ys.all cj = true) (j : Nat) (h1 : j < us.toArray.size) (h2 : j < vs.toArray.size) :
    SeqAt.EqAt A s us.toArray[j] vs.toArray[j] (eqV (xs.getD j .non) (ys.getD j .non)) := by
  have e1 : us[j]? = some us.toArray[j] := by simp at h1; simp [h1]
  have e2 : vs[j]? = some vs.toArray[j] := by simp at h2; simp [h2]
  have l1 : j < xs.length := by rw [r.length]; simpa using h1
  have l2 : j < ys.length := by rw [r'.length]; simpa using h2
  have g1 : xs[j]? = some (xs.getD j .non) := by simp [List.getD, l1]
  have g2 : ys[j]? = some (ys.getD j .non) := by simp [List.getD, l2]
  obtain ⟨u, hu, ru⟩ := r.get g1
  obtain ⟨v, hv, rv⟩ := r'.get g2
  rw [e1] at hu
  rw [e2] at hv
  rw [Option.some.inj hu, Option.some.inj hv]
  exact nv ru rv (List.all_eq_true.mp fx _ (List.mem_of_getElem? g1)) (List.all_eq_true.mp fy _ (List.mem_of_getElem? g2))
theorem vS (hu : X.A.units < cLine) : OpR X (compareOp .Eq) (tO X.K false) := by
  intro pins s σ H x y v u Q I rx ry h
  obtain ⟨p, p', xs, ys, rfl, rfl, hx, hy, fx, fy, q⟩ := h
  cases (show v = Value.ref p from rx)
  cases (show u = Value.ref p' from ry)
  obtain ⟨its, r, pl, hz⟩ := I.tuple hx
  obtain ⟨its', r', pl', hz'⟩ := I.tuple hy
  refine SeqAt.eq_tupleAt pl pl' hu (fun j h1 h2 => iw r r' fx fy j h1 h2) ⟨.bl _, H, I, rfl, ?_⟩
  rw [List.size_toArray, List.size_toArray, ← r.length, ← r'.length]
  simpa [we] using q
theorem vk (hu : X.A.units < cLine) : OpR X (compareOp .NotEq) (tO X.K true) := by
  intro pins s σ H x y v u Q I rx ry h
  obtain ⟨p, p', xs, ys, rfl, rfl, hx, hy, fx, fy, q⟩ := h
  cases (show v = Value.ref p from rx)
  cases (show u = Value.ref p' from ry)
  obtain ⟨its, r, pl, hz⟩ := I.tuple hx
  obtain ⟨its', r', pl', hz'⟩ := I.tuple hy
  refine SeqAt.RcNeAt.tuples pl pl' hu (fun j h1 h2 => iw r r' fx fy j h1 h2) X.prog X.w X.xe _ ⟨.bl _, H, I, rfl, ?_⟩
  rw [List.size_toArray, List.size_toArray, ← r.length, ← r'.length]
  simpa [we] using q
theorem vp (hu : X.A.units < cLine) : OpR X (compareOp .Eq) (fun x y H Q => rEq x y H Q ∨ tO X.K false x y H Q) := xp.or (vS hu)
theorem uZ (hu : X.A.units < cLine) : OpR X (compareOp .NotEq) (fun x y H Q => rNe x y H Q ∨ tO X.K true x y H Q) := w4.or (vk hu)
theorem pc : CallR X (.builtin "isinstance") (fun xs H Q => (∃ x c t u b, xs = [x, c] ∧ pb c u ∧ fF X.K H x t ∧ PySem.W.kitOne X.K t u = some b ∧ Q (.bl b) H) ∨
    ∃ e c C u b, xs = [.ref e, c] ∧ pb c u ∧ H e = some (kH (.ref C) e) ∧ d9 X.K C ∧ PySem.W.kitOne X.K (.ref C) u = some b ∧ Q (.bl b) H) := mE.or ku
end
end L2
set_option Elab.async false
set_option linter.all false
set_option maxRecDepth 100000
namespace L2
open PySem PySem.Spec PyProof.Rows
abbrev T (l : List Nat) : V := .str ⟨⟨l⟩⟩
def cs (x : Str) : List Nat := x.cps.toList
theorem xU (x : Str) : V.str x = T (cs x) := rfl
section
variable {X : Cx} {e a b c : Expr} {pos : Pos}
theorem PE.imp {t t' : TE} (h : PE X e t) (i : ∀ σ H Q, t' σ H Q → t σ H Q) : PE X e t' := fun pins s σ H Q I q => h pins s σ H Q I (i σ H Q q)
theorem OpR.imp {f : Value → Value → Sem Value} {r r' : R2} (h : OpR X f r) (i : ∀ x y H Q, r' x y H Q → r x y H Q) : OpR X f r' := fun pins s σ H x y v u Q I rx ry q => h pins s σ H x y v u Q I rx ry (i _ _ _ _ q)
theorem CallR.imp {f : Value} {r r' : List V → Hp → VK → Prop} (h : CallR X f r) (i : ∀ x H Q, r' x H Q → r x H Q) : CallR X f r' := fun pins s σ H x v Q I rx q => h pins s σ H x v Q I rx (i _ _ _ q)
theorem IxR.imp {r r' : R2} (h : IxR X r) (i : ∀ x y H Q, r' x y H Q → r x y H Q) : IxR X r' := fun va sl pins s σ H x y v u Q I rx ry q hs => h va sl pins s σ H x y v u Q I rx ry (i _ _ _ _ q) hs
def vo (i : Nat) : TE := fun σ H Q => match σ[i]? with
  | some (some v) => Q v H
  | _ => False
theorem fv (i : Nat) {x : Str} (hN : X.N[i]? = some x := by rfl) (hv : Vis X.env.scope x := by first | exact Or.inl rfl | exact Or.inr (Or.inl rfl) | exact Or.inr (Or.inr rfl)) (hd : (x == ("__debug__" : Str)) = false := by decide)
    (hcd : (x == ("__classdict__" : Str)) = false := by decide) : PE X (.Name x pos) (vo i) := (wv hN hv hd hcd).imp fun σ H Q h => by
  unfold vo at h
  split at h
  · exact ⟨_, by assumption, h⟩
  · exact h.elim
theorem cX {x : Str} {j} (l : List Nat) (h : x = ⟨⟨l⟩⟩ := by decide +kernel) : PE X (.Constant (.str x) j pos) (tC (T l)) := h ▸ vc
def wz : R2
  | .int i, .int j, H, Q => Q (.int (i + j)) H
  | .str i, .str j, H, Q => (cs i).length + (cs j).length ≤ sizeLine ∧ Q (T (cs i ++ cs j)) H
  | _, _, _, _ => False
theorem vZ (i j : Str) : V.str (i ++ j) = T (cs i ++ cs j) := by
  show V.str ⟨i.cps ++ j.cps⟩ = V.str ⟨⟨i.cps.toList ++ j.cps.toList⟩⟩
  congr 1
  congr 1
  exact (Array.ext' (by simp))
theorem aw : OpR X (binaryOp .Add) wz := (uY.or nD).imp fun x y H Q h => by
  unfold wz at h
  split at h
  · exact .inl ⟨_, _, rfl, rfl, h⟩
  · refine .inr ⟨_, _, rfl, rfl, by simpa [cs, Str.length] using h.1, ?_⟩
    rw [vZ]; exact h.2
  · exact h.elim
def gI (g : Int → Int → V) : R2
  | .int i, .int j, H, Q => Q (g i j) H
  | _, _, _, _ => False
def gIC (C : Int → Int → Prop) (g : Int → Int → V) : R2
  | .int i, .int j, H, Q => C i j ∧ Q (g i j) H
  | _, _, _, _ => False
theorem uq {g : Int → Int → V} : ∀ x y H Q, gI g x y H Q → rI0 g x y H Q := fun x y H Q h => by
  unfold gI at h; split at h
  · exact ⟨_, _, rfl, rfl, h⟩
  · exact h.elim
theorem jX {C : Int → Int → Prop} {g : Int → Int → V} : ∀ x y H Q, gIC C g x y H Q → rI C g x y H Q := fun x y H Q h => by
  unfold gIC at h; split at h
  · exact ⟨_, _, rfl, rfl, h.1, h.2⟩
  · exact h.elim
theorem dH : OpR X (binaryOp .Sub) (gI fun i j => .int (i - j)) := vP.imp uq
theorem cp : OpR X (binaryOp .Mult) (gIC CMul fun i j => .int (i * j)) := uW.imp jX
theorem aC : OpR X (binaryOp .Mod) (gIC (fun _ j => 0 < j) fun i j => .int (i % j)) := vE.imp jX
theorem au : OpR X (binaryOp .FloorDiv) (gIC v4 fun i j => .int (i / j)) := rH.imp jX
theorem jZ : OpR X (binaryOp .Pow) (gIC vV fun i j => .int (i ^ j.toNat)) := wo.imp jX
def leN (a b : List Nat) : Bool := !decide (b < a)
theorem oX : OpR X (compareOp .LtE) (fun x y H Q => ∃ i j, x = .str i ∧ y = .str j ∧ Q (.bl (leN (cs i) (cs j))) H) := by
  intro pins s σ H x y v u Q I rx ry h
  obtain ⟨i, j, rfl, rfl, q⟩ := h
  obtain ⟨t, rfl⟩ := rx
  obtain ⟨t', rfl⟩ := ry
  exact PySem.P.le_str ⟨.bl _, H, I, rfl, q⟩
def gLe : R2
  | .int i, .int j, H, Q => Q (.bl (decide (i ≤ j))) H
  | .str i, .str j, H, Q => Q (.bl (leN (cs i) (cs j))) H
  | _, _, _, _ => False
theorem ju : OpR X (compareOp .LtE) gLe := (wX.or oX).imp fun x y H Q h => by
  unfold gLe at h; split at h
  · exact .inl ⟨_, _, rfl, rfl, h⟩
  · exact .inr ⟨_, _, rfl, rfl, h⟩
  · exact h.elim
def gLt : R2
  | .int i, .int j, H, Q => Q (.bl (decide (i < j))) H
  | .str i, .str j, H, Q => Q (.bl (decide (cs i < cs j))) H
  | _, _, _, _ => False
theorem qG : OpR X (compareOp .Lt) gLt := (xb.or oV).imp fun x y H Q h => by
  unfold gLt at h; split at h
  · exact .inl ⟨_, _, rfl, rfl, h⟩
  · exact .inr ⟨_, _, rfl, rfl, h⟩
  · exact h.elim
theorem uf : OpR X (compareOp .Gt) (gI fun i j => .bl (decide (j < i))) := xu.imp uq
def eqS : V → V → Option Bool
  | .int i, .int j => some (decide (i = j))
  | .bl i, .bl j => some (decide (i = j))
  | .str i, .str j => some (decide (cs i = cs j))
  | .non, .non => some true
  | .non, .int _ => some false | .int _, .non => some false | .non, .bl _ => some false | .bl _, .non => some false | .non, .str _ => some false | .str _, .non => some false
  | .int _, .str _ => some false | .str _, .int _ => some false | .bl _, .str _ => some false | .str _, .bl _ => some false
  | _, _ => none
theorem mV (i j : Str) : V.str i = V.str j ↔ cs i = cs j := by
  constructor
  · intro h; injection h with h; rw [h]
  · intro h
    congr 1
    obtain ⟨⟨a⟩⟩ := i
    obtain ⟨⟨b⟩⟩ := j
    have h' : a = b := h
    rw [h']
theorem kU {x y : V} {k : Bool} (h : eqS x y = some k) : v_ x y = true ∧ decide (x = y) = k := by
  unfold eqS at h
  split at h <;> (first | cases h) <;> refine ⟨rfl, ?_⟩
  case h_1 i j => exact decide_eq_decide.mpr (by simp)
  case h_2 i j => exact decide_eq_decide.mpr (by simp)
  case h_3 i j => exact decide_eq_decide.mpr (mV i j)
  all_goals simp
variable {ta tb tc : TE} {rest : List Expr}
def kB (Q : Bool → Hp → Prop) : VK := fun x H => match x with
  | .bl k => Q k H
  | _ => False
def kT (t : TE) : TT := fun σ H Q => t σ H (kB Q)
theorem gK {Q : Bool → Hp → Prop} {x : V} {H : Hp} (h : kB Q x H) : ∃ k, x = .bl k ∧ Q k H := by
  unfold kB at h
  split at h
  · exact ⟨_, rfl, h⟩
  · exact h.elim
theorem bC {op : CmpOp} {r : R2} (ho : OpR X (compareOp op) r) (ha : PE X a ta) (hb : PE X b tb) (hm : behindInMarks op b = false) : PT X (.Compare a [op] [b] pos) (kT (tOp r ta tb)) := by
  intro pins s σ H Q I h
  refine wpAny_isTrue_Compare1 (thn (ha pins s σ H _ I h) fun v s1 ⟨x, H1, I1, r1, q1⟩ => thn (hb pins s1 σ H1 _ I1 q1) fun u s2 ⟨y, H2, I2, r2, q2⟩ =>
    thn (ho pins s2 σ H2 x y v u _ I2 r1 r2 q2) fun c s3 ⟨z, H3, I3, r3, q3⟩ => ?_) hm
  obtain ⟨k, e, q3⟩ := gK q3
  subst e
  cases r3
  exact wpAny_truthy_bool ⟨H3, I3, q3⟩
theorem wK {op : CmpOp} {t : TE} (h : PC X op a b t) (h1 : behindInMarks op b = false := by first | exact qj _ (by decide) (by decide) | rfl) : PT X (.Compare a [op] [b] pos) (kT t) := by
  intro pins s σ H Q I hw
  refine wpAny_isTrue_Compare1 (thn (h pins s σ H _ I hw) fun v s1 h1 => thn h1 fun u s2 h2 => thn h2 fun c s3 ⟨x, H1, I1, r1, q1⟩ => ?_) h1
  obtain ⟨d, rfl, q⟩ := gK q1
  cases r1
  exact wpAny_truthy_bool ⟨H1, I1, q⟩
theorem fw {t : TE} (h : PE X e t) (he : ∀ whole, isTrue e X.env whole = (do let v ← whole; standAt e.pos; holding [v] (truthy v)) := by intro _; rfl) : PT X e (kT t) := by
  intro pins s σ H Q I hw
  refine isTrue_plain (thn (h pins s σ H _ I hw) fun v s1 ⟨x, H1, I1, r1, q1⟩ => ?_) (he _)
  obtain ⟨d, rfl, q⟩ := gK q1
  cases r1
  exact wpAny_truthy_bool ⟨H1, I1, q⟩
def pU (r r' : R2) (ta tb tc : TE) : TE := fun σ H Q => ta σ H fun x H1 => tb σ H1 fun y H2 => r x y H2 (kB fun k H3 => if k = true then tc σ H3 fun w' H4 => r' y w' H4 Q else Q (.bl false) H3)
theorem lD {op op' : CmpOp} {r r' : R2} (ho : OpR X (compareOp op) r) (ho' : OpR X (compareOp op') r') (ha : PE X a ta) (hb : PE X b tb) (hc : PE X c tc)
    (hm : lastMarks [op, op'] [b, c] = false := by with_unfolding_all rfl) : PT X (.Compare a [op, op'] [b, c] pos) (kT (pU r r' ta tb tc)) := by
  intro pins s σ H Q I h
  refine isTrue_chain (thn (ha pins s σ H _ I h) fun v s1 ⟨x, H1, I1, r1, q1⟩ => test_link (thn (hb pins s1 σ H1 _ I1 q1) fun u s2 ⟨y, H2, I2, r2, q2⟩ =>
    thn (ho pins s2 σ H2 x y v u _ I2 r1 r2 q2) fun d s3 ⟨z, H3, I3, r3, q3⟩ => ?_)) hm
  obtain ⟨k, e, q3⟩ := gK q3
  subst e
  cases r3
  refine wpAny_truthy_bool ?_
  cases k with
  | false => exact ite_ff ⟨H3, I3, q3⟩
  | true =>
    refine ite_tt (test_last (thn (hc pins s3 σ H3 _ I3 q3) fun w' s4 ⟨z', H4, I4, r4, q4⟩ => thn (ho' pins s4 σ H4 y z' u w' _ I4 r2 r4 q4) fun d' s5 ⟨z2, H5, I5, r5, q5⟩ => ?_))
    obtain ⟨k2, e2, q5⟩ := gK q5
    subst e2
    cases r5
    exact wpAny_truthy_bool ⟨H5, I5, q5⟩
def xG (ta tb : TE) : TE := fun σ H Q => ta σ H (kB fun c H1 => if c = true then tb σ H1 Q else Q (.bl false) H1)
def fOr (ta tb : TE) : TE := fun σ H Q => ta σ H (kB fun c H1 => if c = true then Q (.bl true) H1 else tb σ H1 Q)
def wL (ta : TE) : TE := fun σ H Q => ta σ H (kB fun c H1 => Q (.bl (!c)) H1)
theorem nL (ha : PE X a ta) (hb : PE X (.BoolOp .And (b :: rest) pos) tb) : PE X (.BoolOp .And (a :: b :: rest) pos) (xG ta tb) := by
  intro pins s σ H Q I h
  refine BoolOp_and (thn (ha pins s σ H _ I h) fun v s1 ⟨x, H1, I1, r1, q1⟩ => ?_)
  obtain ⟨c, rfl, q1⟩ := gK q1
  cases r1
  refine wpAny_truthy_bool ?_
  cases c with
  | true => exact hb pins s1 σ H1 Q I1 q1
  | false => exact ⟨.bl false, H1, I1, rfl, q1⟩
theorem ui (ha : PE X a ta) (hb : PE X (.BoolOp .Or (b :: rest) pos) tb) : PE X (.BoolOp .Or (a :: b :: rest) pos) (fOr ta tb) := by
  intro pins s σ H Q I h
  refine BoolOp_or (thn (ha pins s σ H _ I h) fun v s1 ⟨x, H1, I1, r1, q1⟩ => ?_)
  obtain ⟨c, rfl, q1⟩ := gK q1
  cases r1
  refine wpAny_truthy_bool ?_
  cases c with
  | false => exact hb pins s1 σ H1 Q I1 q1
  | true => exact ⟨.bl true, H1, I1, rfl, q1⟩
theorem uR (ha : PE X a ta) : PE X (.UnaryOp .Not a pos) (wL ta) := by
  intro pins s σ H Q I h
  refine UnaryOp_ (thn (ha pins s σ H _ I h) fun v s1 ⟨x, H1, I1, r1, q1⟩ => ?_)
  obtain ⟨c, rfl, q1⟩ := gK q1
  cases r1
  exact not_of (wpAny_truthy_bool ⟨.bl (!c), H1, I1, rfl, q1⟩)
def yc : List V → Hp → VK → Prop
  | [.int i], H, Q => Q (.int (if i < 0 then -i else i)) H
  | _, _, _ => False
def vG : List V → Hp → VK → Prop
  | [.int i, .int j], H, Q => Q (.int (if j < i then j else i)) H
  | _, _, _ => False
theorem uD (hc : X.calm = true) : CallR X (.builtin "min") vG := (o9 hc).imp fun x H Q h => by
  unfold vG at h; split at h
  · exact ⟨_, _, rfl, h⟩
  · exact h.elim
def tj (K : PySem.W.Frag) : List V → Hp → VK → Prop
  | [.str y], H, Q => (cs y).length ≤ sizeLine ∧ Q (.int (cs y).length) H
  | [.ref p], H, Q => ∃ xs, (SqL K H p xs ∨ SqT K H p xs) ∧ Q (.int xs.length) H
  | _, _, _ => False
theorem vU : CallR X (.builtin "len") (tj X.K) := qC.imp fun x H Q h => by
  unfold tj at h; split at h
  · exact ⟨_, _, rfl, ⟨by simpa [cs, Str.length] using h.1, rfl⟩, by simpa [cs, Str.length] using h.2⟩
  · obtain ⟨xs, hx, q⟩ := h
    rcases hx with hx | hx
    · exact ⟨_, _, rfl, .inl ⟨xs, hx, rfl⟩, q⟩
    · exact ⟨_, _, rfl, .inr ⟨xs, hx, rfl⟩, q⟩
  · exact h.elim
def dN (H : Hp) : V → Option String
  | .non => some "NoneType"
  | .bl _ => some "bool"
  | .int _ => some "int"
  | .str _ => some "str"
  | .ref p => match H p with
    | some (.lst _) => some "list"
    | some (.frz _ (.lst _)) => some "list"
    | some (.tup _) => some "tuple"
    | some (.dK _) => some "dict"
    | _ => none
  | _ => none
def bL (t n : String) : Bool := t == n || (t == "bool" && n == "int")
def eL (t : String) : Prop := t = "NoneType" ∨ t = "bool" ∨ t = "int" ∨ t = "str" ∨ t = "list" ∨ t = "tuple" ∨ t = "dict"
theorem xC {K : PySem.W.Frag} {t n : String} (h : eL t) (hn : n = "int" ∨ n = "bool" ∨ n = "str" ∨ n = "list" ∨ n = "tuple" ∨ n = "dict") : PySem.W.kitOne K (.type t) (.type n) = some (bL t n) := by
  rcases h with rfl | rfl | rfl | rfl | rfl | rfl | rfl <;> rcases hn with rfl | rfl | rfl | rfl | rfl | rfl <;> kernel_rfl
theorem mi {K : PySem.W.Frag} {H : Hp} {x : V} {t : String} (h : dN H x = some t) : fF K H x (.type t) ∧ eL t := by
  unfold dN at h
  split at h
  · cases h; exact ⟨.non, by simp [eL]⟩
  · cases h; exact ⟨.bl _, by simp [eL]⟩
  · cases h; exact ⟨.int _, by simp [eL]⟩
  · cases h; exact ⟨.str _, by simp [eL]⟩
  · split at h
    · rename_i e; cases h; exact ⟨.lst e, by simp [eL]⟩
    · rename_i e; cases h; exact ⟨.frz e, by simp [eL]⟩
    · rename_i e; cases h; exact ⟨.tup e, by simp [eL]⟩
    · rename_i e; cases h; exact ⟨.dK e, by simp [eL]⟩
    · cases h
  · cases h
def md (n : String) : Bool := n == "int" || n == "bool" || n == "str" || n == "list" || n == "tuple" || n == "dict"
def sC (K : PySem.W.Frag) : List V → Hp → VK → Prop
  | [x, .ty n], H, Q => (match dN H x with
    | some t => md n = true ∧ Q (.bl (bL t n)) H
    | none => ∃ e C b, x = .ref e ∧ H e = some (kH (.ref C) e) ∧ d9 K C ∧ PySem.W.kitOne K (.ref C) (.type n) = some b ∧ Q (.bl b) H)
  | [.ref e, .ref D], H, Q => ∃ C b, H e = some (kH (.ref C) e) ∧ d9 K C ∧ PySem.W.kitOne K (.ref C) (.ref D) = some b ∧ Q (.bl b) H
  | _, _, _ => False
theorem vx : CallR X (.builtin "isinstance") (sC X.K) := pc.imp fun xs H Q h => by
  unfold sC at h
  split at h
  · rename_i x n
    split at h
    · rename_i t ht
      obtain ⟨ty, hb⟩ := mi (K := X.K) ht
      obtain ⟨hn, q⟩ := h
      refine .inl ⟨x, _, _, _, _, rfl, .ty n, ty, xC hb ?_, q⟩
      simpa [md, or_assoc] using hn
    · obtain ⟨e, C, b, rfl, he, Z, k, q⟩ := h
      exact .inr ⟨e, _, C, _, b, rfl, .ty n, he, Z, k, q⟩
  · rename_i e D
    obtain ⟨C, b, he, Z, k, q⟩ := h
    exact .inr ⟨e, _, C, _, b, rfl, .own D, he, Z, k, q⟩
  · exact h.elim
end
section
variable {X : Cx} {a b : Expr} {ta tb : TE} {pos pos' : Pos}
def gIx (K : PySem.W.Frag) : R2
  | .str z, .int i, H, Q => (cs z).length ≤ sizeLine ∧ (match atI (cs z) i with
    | some c => Q (T [c]) H
    | none => False)
  | .ref p, .int i, H, Q => ∃ xs v, (SqL K H p xs ∨ SqT K H p xs) ∧ atI xs i = some v ∧ Q v H
  | _, _, _, _ => False
theorem vq : IxR X (gIx X.K) := vA.imp fun x y H Q h => by
  unfold gIx at h
  split at h
  · obtain ⟨hz, h⟩ := h
    split at h
    · rename_i c hc
      exact .inr (.inr ⟨_, _, c, rfl, rfl, by simpa [cs, Str.length] using hz, hc, h⟩)
    · exact h.elim
  · obtain ⟨xs, v, hs | hs, hv, q⟩ := h
    · exact .inl ⟨_, xs, _, v, rfl, rfl, hs, hv, q⟩
    · exact .inr (.inl ⟨_, xs, _, v, rfl, rfl, hs, hv, q⟩)
  · exact h.elim
def yi (xs : List V) (H H1 : Hp) (Q : VK) : V → Prop
  | .int i => (match atI xs i with
    | some (.ref q) => H q = none ∧ (match H1 q with
      | some o => pK o = true ∧ Q (.ref q) (upd H q o)
      | none => False)
    | some v => Q v H
    | none => False)
  | _ => False
end
def sp0 (f : Hp → VK → XK → Prop) : Sp := fun vs H Q E => match vs with
  | [] => f H Q E
  | _ => False
def sp1 (f : V → Hp → VK → XK → Prop) : Sp := fun vs H Q E => match vs with
  | [x] => f x H Q E
  | _ => False
def sp2 (f : V → V → Hp → VK → XK → Prop) : Sp := fun vs H Q E => match vs with
  | [x, y] => f x y H Q E
  | _ => False
def sp3 (f : V → V → V → Hp → VK → XK → Prop) : Sp := fun vs H Q E => match vs with
  | [x, y, z] => f x y z H Q E
  | _ => False
def sp4 (f : V → V → V → V → Hp → VK → XK → Prop) : Sp := fun vs H Q E => match vs with
  | [x, y, z, u] => f x y z u H Q E
  | _ => False
section
variable {vs : List V} {H : Hp} {Q : VK} {E : XK}
theorem sp1.inv {f} (h : sp1 f vs H Q E) : ∃ x, vs = [x] ∧ f x H Q E := by
  unfold sp1 at h; split at h
  · exact ⟨_, rfl, h⟩
  · exact h.elim
theorem sp2.inv {f} (h : sp2 f vs H Q E) : ∃ x y, vs = [x, y] ∧ f x y H Q E := by
  unfold sp2 at h; split at h
  · exact ⟨_, _, rfl, h⟩
  · exact h.elim
theorem sp3.inv {f} (h : sp3 f vs H Q E) : ∃ x y z, vs = [x, y, z] ∧ f x y z H Q E := by
  unfold sp3 at h; split at h
  · exact ⟨_, _, _, rfl, h⟩
  · exact h.elim
theorem sp4.inv {f} (h : sp4 f vs H Q E) : ∃ x y z u, vs = [x, y, z, u] ∧ f x y z u H Q E := by
  unfold sp4 at h; split at h
  · exact ⟨_, _, _, _, rfl, h⟩
  · exact h.elim
theorem sp1.len {f} (h : sp1 f vs H Q E) : vs.length = 1 := by obtain ⟨_, rfl, _⟩ := sp1.inv h; rfl
theorem sp2.len {f} (h : sp2 f vs H Q E) : vs.length = 2 := by obtain ⟨_, _, rfl, _⟩ := sp2.inv h; rfl
theorem sp3.len {f} (h : sp3 f vs H Q E) : vs.length = 3 := by obtain ⟨_, _, _, rfl, _⟩ := sp3.inv h; rfl
theorem sp4.len {f} (h : sp4 f vs H Q E) : vs.length = 4 := by obtain ⟨_, _, _, _, rfl, _⟩ := sp4.inv h; rfl
end
def asI (x : V) (f : Int → Prop) : Prop := match x with
  | .int i => f i
  | _ => False
def asT (x : V) (f : List Nat → Prop) : Prop := match x with
  | .str y => f (cs y)
  | _ => False
def asB (x : V) (f : Bool → Prop) : Prop := match x with
  | .bl y => f y
  | _ => False
def asR (x : V) (f : Addr → Prop) : Prop := match x with
  | .ref y => f y
  | _ => False
theorem asI.inv {x : V} {f : Int → Prop} (h : asI x f) : ∃ i, x = .int i ∧ f i := by
  unfold asI at h; split at h
  · exact ⟨_, rfl, h⟩
  · exact h.elim
theorem asT.inv {x : V} {f : List Nat → Prop} (h : asT x f) : ∃ l, x = T l ∧ f l := by
  unfold asT at h; split at h
  · exact ⟨_, rfl, h⟩
  · exact h.elim
theorem asR.inv {x : V} {f : Addr → Prop} (h : asR x f) : ∃ i, x = .ref i ∧ f i := by
  unfold asR at h; split at h
  · exact ⟨_, rfl, h⟩
  · exact h.elim
def asK (H : Hp) (x : V) (f : String → Prop) : Prop := match dN H x with
  | some t => f t
  | none => False
theorem asK.inv {H : Hp} {x : V} {f : String → Prop} (h : asK H x f) : ∃ t, dN H x = some t ∧ eL t ∧ f t := by
  unfold asK at h; split at h
  · rename_i t ht
    exact ⟨t, ht, (mi (K := default) ht).2, h⟩
  · exact h.elim
section
variable {X : Cx} (K : PySem.W.Frag)
theorem km (h : X.K = K := by rfl) : CallR X (.builtin "isinstance") (sC K) := h ▸ vx
theorem eW (h : X.K = K := by rfl) : CallR X (.builtin "len") (tj K) := h ▸ vU
theorem ao (h : X.K = K := by rfl) : IxR X (gIx K) := h ▸ vq
theorem so (h : X.K = K := by rfl) : SlR X (xJ K) := h ▸ wu
theorem oE {tg l : Expr} {tl : TE} (hl : PE X l tl) (h : X.K = K := by rfl) : PI X tg l (rT K tl) := h ▸ uL hl
theorem cT {tg l : Expr} {tl : TE} (hl : PE X l tl) (h : X.K = K := by rfl) : PI X tg l (lJ K tl) := h ▸ rJ hl
end
theorem xx {H : Hp} {b : Bool} : dN H (.bl b) = some "bool" := rfl
theorem uC {H : Hp} {i : Int} : dN H (.int i) = some "int" := rfl
theorem vb {H : Hp} {s : Str} : dN H (.str s) = some "str" := rfl
theorem vf {H : Hp} : dN H .non = some "NoneType" := rfl
theorem vD : md "int" = true := by decide
theorem h8 : bL "NoneType" "int" = false := by decide
theorem lV : bL "bool" "int" = true := by decide
theorem nM : bL "int" "int" = true := by decide
theorem mR : bL "str" "int" = false := by decide
theorem kK : bL "list" "int" = false := by decide
theorem kz : bL "tuple" "int" = false := by decide
theorem kG : bL "dict" "int" = false := by decide
theorem sM : md "bool" = true := by decide
theorem gs : bL "NoneType" "bool" = false := by decide
theorem jW : bL "bool" "bool" = true := by decide
theorem lL : bL "int" "bool" = false := by decide
theorem mq : bL "str" "bool" = false := by decide
theorem j8 : bL "list" "bool" = false := by decide
theorem je : bL "tuple" "bool" = false := by decide
theorem j0 : bL "dict" "bool" = false := by decide
theorem vY : md "str" = true := by decide
theorem ic : bL "NoneType" "str" = false := by decide
theorem k_ : bL "bool" "str" = false := by decide
theorem nJ : bL "int" "str" = false := by decide
theorem mQ : bL "str" "str" = true := by decide
theorem lX : bL "list" "str" = false := by decide
theorem jO : bL "tuple" "str" = false := by decide
theorem l_ : bL "dict" "str" = false := by decide
theorem sS : md "list" = true := by decide
theorem gE : bL "NoneType" "list" = false := by decide
theorem jK : bL "bool" "list" = false := by decide
theorem lA : bL "int" "list" = false := by decide
theorem mB : bL "str" "list" = false := by decide
theorem j1 : bL "list" "list" = true := by decide
theorem iW : bL "tuple" "list" = false := by decide
theorem jR : bL "dict" "list" = false := by decide
theorem qV : md "tuple" = true := by decide
theorem fO : bL "NoneType" "tuple" = false := by decide
theorem i4 : bL "bool" "tuple" = false := by decide
theorem jG : bL "int" "tuple" = false := by decide
theorem ky : bL "str" "tuple" = false := by decide
theorem iV : bL "list" "tuple" = false := by decide
theorem iu : bL "tuple" "tuple" = true := by decide
theorem jc : bL "dict" "tuple" = false := by decide
theorem s_ : md "dict" = true := by decide
theorem gC : bL "NoneType" "dict" = false := by decide
theorem kC : bL "bool" "dict" = false := by decide
theorem lh : bL "int" "dict" = false := by decide
theorem mH : bL "str" "dict" = false := by decide
theorem ke : bL "list" "dict" = false := by decide
theorem jg : bL "tuple" "dict" = false := by decide
theorem jM : bL "dict" "dict" = true := by decide
theorem wV {H : Hp} {b : Bool} {f : String → Prop} : asK H (.bl b) f = f "bool" := rfl
theorem uw {H : Hp} {i : Int} {f : String → Prop} : asK H (.int i) f = f "int" := rfl
theorem wx {H : Hp} {i : Str} {f : String → Prop} : asK H (.str i) f = f "str" := rfl
theorem uE {H : Hp} {f : String → Prop} : asK H .non f = f "NoneType" := rfl
def qe : Expr → Bool
  | .Starred _ _ => false
  | _ => true
theorem pf {e : Expr} {es : List Expr} {env : Env} (h : qe e = true) : starEach (e :: es) env = (false, eval e env) :: starEach es env := by
  cases e <;> first | rfl | cases h
structure FA (X : Cx) (es : List Expr) (t : TA) : Prop where
  pa : PA X es t
theorem ah {X : Cx} : FA X [] tK := ⟨wk⟩
theorem aa {X : Cx} {e : Expr} {es : List Expr} {te : TE} {t : TA} (ha : PE X e te) (hr : FA X es t) (h : qe e = true := by rfl) : FA X (e :: es) (qO te t) := ⟨sL ha hr.pa (pf h)⟩
theorem rY {H : Hp} {P : Hp → Prop} : (∃ G, Gc H G H ∧ P G) ↔ P H := by
  constructor
  · rintro ⟨G, g, p⟩
    have e : G = H := by
      funext b
      cases h : H b with
      | none => exact g.b.free h
      | some o => exact g.a b o h
    rw [← e]; exact p
  · exact fun p => ⟨H, Gc.refl, p⟩
theorem yg {CX : CXT} {P : Program} {w : World} {K : PySem.W.Frag} {mg : Str → Option Value} {base : Heap} {N : List Str} {qual : Str} {scope : Scope} {f : Addr} {cd : Value} {A : Around} {outer : List Env} {s : Shared} {H : Hp} {E : XK} :
    (bY CX P w K mg base N qual scope f cd A outer s H E).K = K := rfl
def isI : V → Bool
  | .int _ => true
  | _ => false
def isS : V → Bool
  | .str _ => true
  | _ => false
theorem qB {H : Hp} {x : V} {t : String} (h : dN H x = some t) : (t == "int") = isI x := by
  unfold dN at h
  split at h
  case h_5 => split at h <;> cases h <;> simp [isI]
  all_goals (cases h <;> simp [isI])
theorem o5 {H : Hp} : Same H H ↔ True := ⟨fun _ => trivial, fun _ => Same.refl H⟩
theorem tI {i : Int} : isI (.int i) = true := rfl
theorem vT {i : Bool} : isI (.bl i) = false := rfl
theorem sq {i : Str} : isI (.str i) = false := rfl
theorem tB {i : Addr} : isI (.ref i) = false := rfl
theorem rG  : isI (.non) = false := rfl
theorem sx {i : Int} : isS (.int i) = false := rfl
theorem vi {i : Bool} : isS (.bl i) = false := rfl
theorem sw {i : Str} : isS (.str i) = true := rfl
theorem tz {i : Addr} : isS (.ref i) = false := rfl
theorem tf  : isS (.non) = false := rfl
section
variable {K : PySem.W.Frag} {C D : Addr} {b : Bool} {cl : ClassData}
end
theorem qX {l : PySem.W.OpenLaw} {n k : Nat} {q : Program} {loose : List Str} {XP : (Str → Option Value) → Heap → Prop} {YP : World → Heap → Prop} {d : DefRec} {K : Params → PySem.W.Frag} {sp : PySem.W.Frag → Sp} {x : Str}
    (hn : l.most = some n) (hn2 : n ≤ sizeLine) (hdf : d.params.defaults = []) (hr : Room k callerA)
    (hY : ∀ (w : World) (h : Heap), YP w h → (K w.params).In h)
    (F : ∀ (w : World) (mg : Str → Option Value) (fa : Addr) (h : Heap), (K w.params).In h → h.Ns mainGlobals mg → mg d.name = some (.ref fa) →
      ∃ fd : FuncData, (∀ (s : Shared) (u : Value), BindsTo s fd ⟨[u], []⟩ [(x, u)]) ∧
        ∀ base : Heap, (K w.params).In base → base.Ns mainGlobals mg → b_ l.prog w (K w.params) mg base (XE l.prog w) k fa fd [x] (sp (K w.params)))
    (hsp : ∀ (K : PySem.W.Frag) (H : Hp) (a : Addr) (ns : List Int), ns.length ≤ n → rE H → SqL K H a (ns.map V.int) → sp K [.ref a] H (fun v _ => v = .bl true) fun _ _ _ => False) :
    PySem.W.WalkO q loose XP YP l.row.toRowW d [] (fun f vs => PySem.call f vs) :=
  sX (K := K) (CX := fun w => XE l.prog w) (sp := fun w => sp (K w.params)) hn hn2 hdf hr hY F (fun w H a ns h1 h2 h3 => hsp (K w.params) H a ns h1 h2 h3) fun w H s e s' ⟨_, _, _, _, _, _, _, _, _, _, _, z⟩ => z
end L2
set_option Elab.async false
set_option linter.all false
set_option maxRecDepth 100000
namespace L2
open PySem PySem.Spec PyProof.Rows
section
variable {prog : Program} {w : World} {A : Around} {R : Result → Shared → Prop} {s : Shared}
theorem kg {elt target iter : Expr} {ifs : List Expr} {scope : Scope} {pos : Pos} {it acc : Value} {env : Env} (I : Nat → Shared → Prop)
    (turn : ∀ n s, I n s → wpAny (model prog w) A (pyNext it) (fun r s₁ => match r with
      | none => R (.ok .next) s₁
      | some v => wpAny (model prog w) A (letOwnedTupleGo target it v) (fun _ s₁' => wpAny (model prog w) A (assign target env v) (fun _ s₂ =>
          wpAny (model prog w) A (forIn ifs true fun c r => if r = true then do let ok ← isTrue c env (eval c env); pure (ForInStep.yield ok) else pure (ForInStep.yield r)) (fun ok s₃ =>
            if ok = true then wpAny (model prog w) A (eval elt env) (fun x s₄ =>
              wpAny (model prog w) A (call (.builtin "list.append") [acc, x]) (fun _ s₅ => ∃ m, m < n ∧ I m s₅) (notedBy (model prog w) A env fun e s' => R (.error e) s') s₄) (notedBy (model prog w) A env fun e s' => R (.error e) s') s₃
            else ∃ m, m < n ∧ I m s₃) (notedBy (model prog w) A env fun e s' => R (.error e) s') s₂) (notedBy (model prog w) A env fun e s' => R (.error e) s') s₁') (notedBy (model prog w) A env fun e s' => R (.error e) s') s₁) (notedBy (model prog w) A env fun e s' => R (.error e) s') s)
    (n : Nat) (h : I n s) :
    codeAny (model prog w) A (.compLoop (.ListComp elt [⟨target, iter, ifs, 0⟩] scope pos) 0 it acc env) R s := by
  refine codeAny_loop rfl I (fun n s hI => ?_) n h
  show wpAny _ A ((compTurn (.ListComp elt [⟨target, iter, ifs, 0⟩] scope pos) 0 it acc env).onRaise (fun x => do noteFrame x env; theTreesLotGoes x)) _ _ s
  refine wpAny_noted ?_
  rw [compTurn_list]
  refine wpAny_bind (wpAny_standAt (wpAny_bind (wpAny_mono (turn n s hI) (fun r s₁ h₁ => ?_) fun _ _ h' => h')))
  cases r with
  | none => exact wpAny_pure h₁
  | some v =>
    refine wpAny_bind (wpAny_mono h₁ (fun _ s₁' h₁' => ?_) fun _ _ h' => h')
    refine wpAny_bind (wpAny_mono h₁' (fun _ s₂ h₂ => wpAny_bind (wpAny_mono h₂ (fun ok s₃ h₃ => ?_) fun _ _ h' => h')) fun _ _ h' => h')
    cases ok with
    | false => exact wpAny_pure ⟨rfl, h₃⟩
    | true =>
      exact wpAny_bind (wpAny_bind (wpAny_mono h₃ (fun x s₄ h₄ => wpAny_bind (wpAny_mono h₄ (fun _ s₅ h₅ => wpAny_pure (wpAny_pure ⟨rfl, h₅⟩)) fun _ _ h' => h')) fun _ _ h' => h'))
end
def bV (X : Cx) (N : List Str) (scope : Scope) (cl : List (Str × Addr)) (C : Addr) (s₂ : Shared) (H₂ : Hp) (ex : List Addr) (pn : List (Addr × Obj)) : Cx :=
  { X with N := N, s₀ := s₂, H₀ := H₂, env := compEnvC scope cl C X.env, outer := X.stack, stack := X.stack, ex := ex, fn := fun _ => false, pn := pn, xe := fun _ _ => False }
structure CompScope (X : Cx) (scope : Scope) (cl : List (Str × Addr)) (x : Str) (fr : List Str) : Prop where
  clos : closureFor scope X.env = pure cl
  nocell : ∀ y ∈ scope.names, y.2 ≠ .cell
  kind : scope.kind = .function
  names : ∀ y ∈ scope.names, y.2 = .local → scope.names.lookup y.1 = some .local
  own : scope.names.lookup x = some .local
  keys : ∀ y ∈ cl, y.1 ∈ fr
  cells : fr.map (fun y => cl.lookup y) = fr.map (fun y => X.env.cells.lookup y)
  kinds : ∀ y ∈ fr, X.env.kindOf y = some .cell ∨ X.env.kindOf y = some .free
  kin : ∀ y ∈ fr, (relabel scope X.env).names.lookup y = some .cell ∨ (relabel scope X.env).names.lookup y = some .free
  only : ∀ y, ((relabel scope X.env).names.lookup y = some .cell ∨ (relabel scope X.env).names.lookup y = some .free) → y ∈ fr
theorem mU {α : Type} {l : List (Str × α)} {y : Str} {c : α} (h : l.lookup y = some c) : (y, c) ∈ l := PySem.mem_of_lookup h
theorem CompScope.cell {X : Cx} {scope : Scope} {cl : List (Str × Addr)} {x : Str} {fr : List Str} (S : CompScope X scope cl x fr) {y : Str} (h : y ∈ fr) : cl.lookup y = X.env.cells.lookup y := by
  have e := S.cells
  obtain ⟨i, hi, rfl⟩ := List.getElem_of_mem h
  have := congrArg (fun l => l[i]?) e
  simpa [hi] using this
theorem CompScope.sub {X : Cx} {scope : Scope} {cl : List (Str × Addr)} {x : Str} {fr : List Str} (S : CompScope X scope cl x fr) {y : Str} {c : Addr} (h : cl.lookup y = some c) : X.env.cells.lookup y = some c := by
  rw [← S.cell (S.keys _ (mU h))]; exact h
def PTs (X : Cx) (ifs : List Expr) (t : TT) : Prop :=
  ∀ (pins : List (Addr × Obj)) (s : Shared) (σ : St) (H : Hp) (Q : Bool → Hp → Prop), Inv X pins σ H s → t σ H Q →
    wpAny (model X.prog X.w) X.A (forIn ifs true fun c r => if r = true then do let ok ← isTrue c X.env (eval c X.env); pure (ForInStep.yield ok) else pure (ForInStep.yield r)) (TP X pins σ Q) X.xe s
theorem gm {X : Cx} : PTs X [] (fun _ H Q => Q true H) := fun pins s σ H Q I h => wpAny_tests_nil ⟨H, I, h⟩
theorem dR {X : Cx} {c : Expr} {t : TT} (h : PT X c t) : PTs X [c] t := fun pins s σ H Q I hw => wpAny_tests_one (h pins s σ H Q I hw)
end L2
set_option Elab.async false
set_option maxHeartbeats 4000000
namespace MT
def isD (c : Nat) : Bool := decide (48 ≤ c) && decide (c ≤ 57)
def vl (t : List Nat) : Nat := t.foldl (fun n c => 10 * n + (c - 48)) 0
def fg (t : List Nat) : List Nat := if t.take 1 = [45] then t.drop 1 else t
def good (t : List Nat) : Prop := fg t ≠ [] ∧ (∀ c ∈ fg t, isD c = true) ∧ ((fg t).head? = some 48 → t = [48])
end MT
set_option Elab.async false
set_option linter.all false
set_option maxRecDepth 100000
namespace L2
open PySem PySem.Spec PyProof.Rows Builtin Builtin.Str
section
variable {X : Cx} {e a b c : Expr} {pos : Pos}
def gIn (neg : Bool) : R2
  | .str i, .str j, H, Q => (match cs i with
    | [c] => Q (.bl (neg ^^ decide (c ∈ cs j))) H
    | _ => False)
  | _, _, _, _ => False
theorem uK {i : Str} {c : Nat} (h : cs i = [c]) : i = ⟨#[c]⟩ := by
  obtain ⟨⟨l⟩⟩ := i
  have h' : l = [c] := h
  rw [h']
def dO (l : List Nat) (lo hi : Option Int) : List Nat := (l.drop (HT.sIx l.length 0 lo)).take (HT.sIx l.length l.length hi - HT.sIx l.length 0 lo)
def gSl : V → Option Int → Option Int → Hp → VK → Prop
  | .str y, lo, hi, H, Q => (cs y).length ≤ sizeLine ∧ Q (T (dO (cs y) lo hi)) H
  | _, _, _, _, _ => False
theorem u_ (lo hi : Option Int) (n : Nat) : Builtin.Str.strSliceIndices lo hi 1 n = (List.range (HT.sIx n n hi - HT.sIx n 0 lo)).map (HT.sIx n 0 lo + ·) := by
  obtain ⟨h1, h2, h3⟩ := gl lo hi n
  have e : Builtin.Str.strSliceIndices lo hi 1 n = sliceRange (sliceBounds lo hi none n).1 (sliceBounds lo hi none n).2.1 1 := by
    unfold Builtin.Str.strSliceIndices sliceBounds
    cases lo <;> cases hi <;> rfl
  rw [e, h1, h2, sliceRange_one]
theorem pk (y : Str) (lo hi : Option Int) : V.str (Txt.slice y lo hi) = T (dO (cs y) lo hi) := by
  have hl : y.length = (cs y).length := by simp [cs, Str.length]
  have ha : HT.sIx y.length 0 lo ≤ y.length := HT.sIx_le _ _ (Nat.zero_le _) lo
  have hb : HT.sIx y.length y.length hi ≤ y.length := HT.sIx_le _ _ (Nat.le_refl _) hi
  unfold Txt.slice
  rw [u_]
  split
  · rename_i h
    simp only [beq_self_eq_true, Bool.true_and, List.length_map, List.length_range, beq_iff_eq] at h
    have e1 : HT.sIx y.length 0 lo = 0 := by omega
    have e2 : HT.sIx y.length y.length hi = y.length := by omega
    rw [xU]
    congr 3
    unfold dO
    rw [← hl, e1, e2, List.drop_zero, Nat.sub_zero, hl, List.take_length]
  · rw [pick_run]
    show V.str ⟨_⟩ = V.str ⟨⟨_⟩⟩
    unfold dO cs
    rw [Array.length_toList]
    rfl
theorem jL : SlR X gSl := by
  intro pins s σ H x v vl vu lo hi sl Q I rx hs pl pu h
  unfold gSl at h
  split at h
  · rename_i y
    obtain ⟨hz, q⟩ := h
    obtain ⟨t, rfl⟩ := rx
    have hz' : y.length ≤ sizeLine := by simpa [cs, Str.length] using hz
    refine ⟨"str", _, F.slot_str_getitem.lookup, typeIs_str _ _ _, ?_⟩
    have fin : ∀ t' k, EP X pins σ Q (.str (Txt.slice y lo hi) t') { s with toks := k } := fun t' k => ⟨.str (Txt.slice y lo hi), H, I.tok _, ⟨_, rfl⟩, by rw [pk]; exact q⟩
    cases pl with
    | none => cases pu with
      | none => exact wpAny_getItem_str_slice (l := none) (u := none) (st := none) hs rfl (post_val_or_str ⟨Nat.le_trans (Txt.slice_le y _ _) hz', fin⟩)
      | int j u => exact wpAny_getItem_str_slice (l := none) (u := some (j, u)) (st := none) hs rfl (post_val_or_str ⟨Nat.le_trans (Txt.slice_le y _ _) hz', fin⟩)
    | int i u' => cases pu with
      | none => exact wpAny_getItem_str_slice (l := some (i, u')) (u := none) (st := none) hs rfl (post_val_or_str ⟨Nat.le_trans (Txt.slice_le y _ _) hz', fin⟩)
      | int j u => exact wpAny_getItem_str_slice (l := some (i, u')) (u := some (j, u)) (st := none) hs rfl (post_val_or_str ⟨Nat.le_trans (Txt.slice_le y _ _) hz', fin⟩)
  · exact h.elim
def ye : V → List V → Hp → VK → Prop
  | .str x, [.str y], H, Q => (match cs y with
    | [c] => c ∈ cs x ∧ ∀ i : Nat, (cs x)[i]? = some c → Q (.int i) H
    | _ => False)
  | _, _, _, _ => False
def p_ : List V → Hp → VK → Prop
  | [.int i], H, Q => Q (.int i) H
  | [.bl k], H, Q => Q (.int (if k then 1 else 0)) H
  | [.str x], H, Q => ((cs x) ≠ [] ∧ (∀ c ∈ cs x, MT.isD c = true) ∧ (cs x).length ≤ 640) ∧ Q (.int (MT.vl (cs x))) H
  | _, _, _ => False
theorem i8 : CallR X (.type "int") (fun xs H Q => ∃ x, xs = [.str x] ∧ ((cs x) ≠ [] ∧ (∀ c ∈ cs x, MT.isD c = true) ∧ (cs x).length ≤ 640) ∧ Q (.int (MT.vl (cs x))) H) := by
  intro pins s σ H xs us Q I r h
  obtain ⟨x, rfl, ⟨h0, hd, hl⟩, q⟩ := h
  obtain ⟨u, rfl, t, rfl⟩ := eJ r
  have hl' : x.length ≤ 640 := by simpa [cs, Str.length] using hl
  have e : PySem.NumText.digitsVal x.cps.toList = MT.vl (cs x) := by
    unfold PySem.NumText.digitsVal MT.vl cs
    congr 1
    funext a c; omega
  have hn : intText? x = some ((MT.vl (cs x) : Nat) : Int) := by
    rw [PySem.intText_digits (fun c hc => by have := hd c hc; simpa [MT.isD] using this) h0 (by omega), e]
  exact PySem.W.KIN.call_text hn hl' ⟨.int _, H, I.tok _, ⟨_, rfl⟩, q⟩
theorem sh : CallR X (.type "int") p_ := (pG.or i8).imp fun xs H Q h => by
  unfold p_ at h; split at h
  · exact .inl (.inl ⟨_, rfl, h⟩)
  · exact .inl (.inr ⟨_, rfl, h⟩)
  · exact .inr ⟨_, rfl, h.1, h.2⟩
  · exact h.elim
end
end L2
set_option Elab.async false
set_option linter.all false
set_option maxRecDepth 100000
namespace L2
open PySem PySem.Spec PyProof.Rows
section
variable {X : Cx}
theorem ms : ∀ {bs : List Bool} {us : List Value}, Vals (bs.map V.bl) us → LSm.BoolsAre us bs
  | [], _, .nil => .nil
  | b :: r, _, .cons e t => by
    cases (show _ = Value.bool b from e)
    exact .cons b (ms t)
def wm (K : PySem.W.Frag) : List V → Hp → VK → Prop
  | [.ref p], H, Q => ∃ bs : List Bool, SqL K H p (bs.map V.bl) ∧ Q (.bl (bs.all id)) H
  | _, _, _ => False
theorem tD (K : PySem.W.Frag) (hc : X.calm = true) (hK : X.K = K := by rfl) : CallR X (.builtin "all") (wm K) := by
  subst hK
  intro pins s σ H xs us Q I r h
  unfold wm at h
  split at h
  · rename_i p
    obtain ⟨bs, hq, q⟩ := h
    obtain ⟨u, rfl, rx⟩ := eJ r
    cases (show u = Value.ref p from rx)
    obtain ⟨its, rv, pl, hz⟩ := I.list hq
    have hne : p ≠ s.heap.objs.size := Nat.ne_of_lt (by obtain ⟨_, e, _⟩ := pl.isList; exact Heap.lt_size e)
    have hb : LSm.BoolsAre its bs := ms rv
    refine call_all_walk (wpAny_pyIter_list pl.isList ?_)
    refine ⟨s.heap.objs.size, [s.heap.objs.size, p], [s.heap.objs.size], its.toArray.size, _, _, fun i => (bs[i]?).getD true, rfl, Walks.list (A := X.A.in1) (I.ok.hd hc) _ p hne its.toArray,
      ⟨⟨_, Heap.get?_push_size _ rfl, rfl, rfl⟩, pl.isList.push _⟩, fun i v s' Q' E' hP hQ => ?_, fun h' tk hk => ?_⟩
    · obtain ⟨b, e, rfl⟩ := hb.get i v (by simpa using hP)
      simp only [e, Option.getD_some] at hQ
      exact wpAny_truthy_bool hQ
    · have e : ((List.range its.toArray.size).all fun i => (bs[i]?).getD true) = bs.all id := by
        rw [List.size_toArray, hb.length]; exact LSm.range_all bs
      rw [e]
      exact ⟨.bl (bs.all id), H, I.kept (LSm.kept_iter hk), rfl, q⟩
  · exact h.elim
end
end L2
set_option Elab.async false
set_option linter.all false
set_option maxRecDepth 100000
namespace L2
open PySem PySem.Spec PyProof.Rows Builtin Builtin.Str
def db (sep : List Nat) : List (List Nat) → List Nat
  | [] => []
  | [x] => x
  | x :: y :: r => x ++ sep ++ db sep (y :: r)
theorem jB : ∀ ls : List (List Nat), db [] ls = ls.flatten
  | [] => rfl
  | [x] => by simp [db]
  | x :: y :: r => by rw [db, jB (y :: r)]; simp
def S (l : List Nat) : Str := ⟨⟨l⟩⟩
theorem jD (sep : List Nat) : ∀ (r : List (List Nat)) (x : List Nat), ((r.map S).foldl (fun acc p => acc ++ (S sep).cps ++ p.cps) (S x).cps) = (S (db sep (x :: r))).cps
  | [], x => rfl
  | y :: r, x => by
    rw [List.map_cons, List.foldl_cons]
    have e : (S x).cps ++ (S sep).cps ++ (S y).cps = (S (x ++ sep ++ y)).cps := by
      apply Array.ext'; simp [S]
    rw [e, jD sep r]
    congr 1
    cases r with
    | nil => rfl
    | cons z r' => unfold db; simp [db, List.append_assoc]
theorem og (sep : List Nat) (ls : List (List Nat)) : Txt.join (S sep) (ls.map S) = S (db sep ls) := by
  unfold Txt.join glued
  cases ls with
  | nil => rfl
  | cons x r =>
    show (⟨((x :: r).map S).drop 1 |>.foldl _ _⟩ : Str) = _
    rw [List.map_cons, List.drop_one, List.tail_cons, List.headD_cons, jD]
theorem oM : ∀ {ls : List (List Nat)} {us : List Value}, Vals (ls.map T) us → StrsAre us (ls.map S)
  | [], _, .nil => .nil
  | l :: r, _, .cons e t => by
    obtain ⟨k, rfl⟩ := e
    exact .cons _ k (oM t)
def uU (sep : List Nat) (ls : List (List Nat)) : Prop := (ls.map List.length).sum + ls.length * sep.length ≤ 16777216
theorem sy {sep : List Nat} {ls : List (List Nat)} (h : uU sep ls) : (((ls.map S).map (·.length)).sum + (ls.map S).length * (S sep).length ≤ 16777216) := by
  have e : (ls.map S).map (·.length) = ls.map List.length := by rw [List.map_map]; apply List.map_congr_left; intro l _; rfl
  rw [e, List.length_map]; exact h
section
variable {X : Cx}
def qi (K : PySem.W.Frag) : V → List V → Hp → VK → Prop
  | .str x, [.ref p], H, Q => ∃ ls : List (List Nat), SqL K H p (ls.map T) ∧ uU (cs x) ls ∧ Q (T (db (cs x) ls)) H
  | _, _, _, _ => False
theorem qv (K : PySem.W.Frag) (hK : X.K = K := by rfl) : MtR X "str.join" (qi K) := by
  subst hK
  intro pins s σ H x xs v us Q I rx rs h
  unfold qi at h
  split at h
  · rename_i y p
    obtain ⟨ls, hq, hf, q⟩ := h
    obtain ⟨t, rfl⟩ := rx
    obtain ⟨u, rfl, ru⟩ := eJ rs
    cases (show u = Value.ref p from ru)
    obtain ⟨its, rv, pl, hz⟩ := I.list hq
    refine join_list pl.isList (oM rv) (sy hf) fun t' k => ?_
    exact ⟨.str (Txt.join y (ls.map S)), H, I.tok _, ⟨_, rfl⟩, by rw [show y = S (cs y) from rfl, og]; exact q⟩
  · exact h.elim
end
end L2
namespace PySem
open Sem (wp)
open Builtin Builtin.Str Builtin.Int
set_option maxRecDepth 100000
namespace F
end F
section
variable {prog : Program} {w : World} {A : Around} {E : Value → Shared → Prop} {s : Shared} {I : Addr} {fp wr : List Addr} {G : Array GenState → Array GenState → Prop} {n : Nat} {P : Nat → Value → Prop} {St : Nat → Shared → Prop}
end
end PySem
set_option Elab.async false
set_option linter.all false
set_option maxRecDepth 100000
namespace L2
open PySem PySem.Spec PyProof.Rows Builtin Builtin.Str
section
variable {X : Cx} {o e : Expr} {to te : TE} {apos cpos p pos : Pos}
end
end L2
set_option Elab.async false
set_option linter.all false
set_option maxRecDepth 100000
namespace L2
open PySem PySem.Spec PyProof.Rows Builtin Builtin.Str
section
variable {X : Cx}
structure xj (J : It) (vs : List V) : Prop where
  go : ∀ i H, i < vs.length → J.go i H
  yld : ∀ i H x H', i < vs.length → J.yld i H x H' → H' = H ∧ vs[i]? = some x
  stop : ∀ H, J.stop vs.length H
theorem qx (n : Nat) : xj (Itr 0 n) ((List.range n).map fun k => .int (k : Nat)) := by
  refine ⟨fun i H h => by simpa [Itr] using h, fun i H x H' hi y => ?_, fun H => by simp [Itr]⟩
  obtain ⟨e, rfl⟩ := y
  refine ⟨e, ?_⟩
  have hi' : i < n := by simpa using hi
  simp [hi']
theorem oZ {J : It} {vs : List V} (E : xj J vs) {σ' : St} {H1 : Hp} {Q : VK} {tt : TT} {te : TE} (C : Hp → Prop) (p : V → Bool) (f : V → V) (hlen : vs.length ≤ sizeLine)
    (hp : ∀ x ∈ vs, ∀ H (R : Bool → Hp → Prop), C H → R (p x) H → tt (some x :: σ') H R) (hf : ∀ x ∈ vs, p x = true → ∀ H (R : VK), C H → R (f x) H → te (some x :: σ') H R)
    (D : Addr) (hD : H1 D = none) (hC : ∀ ys, C (upd H1 D (.lst ys))) (q : Q (.ref D) (upd H1 D (.lst ((vs.filter p).map f)))) :
    ∃ W : Nat → Nat → List V → Hp → Prop, (∃ m, W 0 m [] (upd H1 D (.lst []))) ∧
      ∀ i m ys H2, W i m ys H2 → H2 D = some (.lst ys) ∧ ((J.stop i H2 ∧ Q (.ref D) H2) ∨ (J.go i H2 ∧ ∀ x H3, J.yld i H2 x H3 →
        tt (some x :: σ') H3 fun b H4 => if b = true then te (some x :: σ') H4 fun y H5 => H5 D = some (.lst ys) ∧ ys.length < sizeLine ∧ ∃ m', m' < m ∧ W (i + 1) m' (ys ++ [y]) (upd H5 D (.lst (ys ++ [y])))
          else ∃ m', m' < m ∧ W (i + 1) m' ys H4)) := by
  refine ⟨fun i m ys H2 => m = vs.length - i ∧ i ≤ vs.length ∧ ys = ((vs.take i).filter p).map f ∧ H2 = upd H1 D (.lst ys), ⟨vs.length, by simp, Nat.zero_le _, by simp, rfl⟩, ?_⟩
  rintro i m ys H2 ⟨rfl, hi, hys, rfl⟩
  refine ⟨ad, ?_⟩
  by_cases hlt : i < vs.length
  · refine .inr ⟨E.go i _ hlt, fun x H3 y => ?_⟩
    obtain ⟨e, hx⟩ := E.yld i _ x H3 hlt y
    subst e
    have hm : x ∈ vs := List.mem_of_getElem? hx
    have htk : vs.take (i + 1) = vs.take i ++ [x] := by
      rw [List.take_succ, hx]; rfl
    have hyl : ys.length ≤ i := by
      rw [hys, List.length_map]
      exact Nat.le_trans (List.length_filter_le _ _) (by simp [List.length_take]; omega)
    refine hp x hm _ _ (hC _) ?_
    cases hb : p x with
    | true =>
      rw [if_pos rfl]
      refine hf x hm hb _ _ (hC _) ⟨ad, by omega, vs.length - (i + 1), by omega, rfl, hlt, ?_, ?_⟩
      · rw [htk, List.filter_append, List.map_append, ← hys]
        simp [hb]
      · funext z
        by_cases hz : z = D
        · subst hz; rw [ad, ad]
        · rw [ai hz, ai hz, ai hz]
    | false =>
      rw [if_neg Bool.false_ne_true]
      refine ⟨vs.length - (i + 1), by omega, rfl, hlt, ?_, rfl⟩
      rw [htk, List.filter_append, List.map_append, ← hys]
      simp [hb]
  · have e : i = vs.length := by omega
    subst e
    refine .inl ⟨E.stop _, ?_⟩
    rw [List.take_length] at hys
    rw [hys]; exact q
end
theorem SqL.same {K : PySem.W.Frag} {H H' : Hp} {a : Addr} {xs : List V} (s : Same H H') (h : SqL K H a xs) : SqL K H' a xs := by
  rcases h with (h | ⟨o, h⟩) | h
  · exact .inl (.inl (s _ _ h))
  · exact .inl (.inr ⟨o, s _ _ h⟩)
  · exact .inr h
theorem mr (g : Nat → Nat) : ∀ l : List Nat, (l.map fun k => [g k]).flatten = l.map g
  | [] => rfl
  | a :: r => by rw [List.map_cons, List.flatten_cons, mr g r]; rfl
theorem oQ (g : Nat → Nat) : ∀ l : List Nat, ((l.map fun k => [g k]).map List.length).sum = l.length
  | [] => rfl
  | a :: r => by have := oQ g r; simp only [List.map_cons, List.sum_cons, List.length_cons, List.length_nil, this]; omega
theorem rp {K : PySem.W.Frag} {H1 : Hp} {D : Addr} {Q : VK} (l : List Nat) (g : Nat → Nat) (hs : H1 D = some (.lst (l.map fun k => T [g k]))) (hl : l.length ≤ 1000) (q : Q (T (l.map g)) H1) : qi K (T []) [.ref D] H1 Q := by
  refine ⟨l.map fun k => [g k], SqL.of (by rw [hs, List.map_map]; rfl), ?_, ?_⟩
  · unfold uU; rw [oQ]; simp [cs]; omega
  · show Q (T (db [] _)) H1
    rw [jB, mr]; exact q
def rC : Option NameKind → Bool
  | some .cell => true
  | some .free => true
  | _ => false
theorem lY {k : Option NameKind} : rC k = true ↔ (k = some .cell ∨ k = some .free) := by
  cases k with
  | none => simp [rC]
  | some k => cases k <;> simp [rC]
theorem cw {cl : List (Str × Addr)} {fr : List Str} (h : (cl.map (·.1)).all (fun y => fr.elem y) = true) : ∀ y ∈ cl, y.1 ∈ fr := fun y hy => by
  have := List.all_eq_true.mp h y.1 (List.mem_map_of_mem hy)
  simpa using this
theorem aK {fr : List Str} {k : Str → Option NameKind} (h : fr.all (fun y => rC (k y)) = true) : ∀ y ∈ fr, k y = some .cell ∨ k y = some .free := fun y hy => lY.mp (List.all_eq_true.mp h y hy)
theorem cy {names : List (Str × NameKind)} {fr : List Str} (h : names.all (fun p => !rC (some p.2) || fr.elem p.1) = true) : ∀ y, (names.lookup y = some .cell ∨ names.lookup y = some .free) → y ∈ fr := fun y hy => by
  have hy' := lY.mpr hy
  cases e : names.lookup y with
  | none => rw [e] at hy'; cases hy'
  | some k =>
    rw [e] at hy'
    have := List.all_eq_true.mp h (y, k) (PySem.mem_of_lookup e)
    simpa [hy'] using this
end L2
set_option Elab.async false
set_option linter.all false
set_option maxRecDepth 100000
namespace L2
open PySem PySem.Spec PyProof.Rows Builtin Builtin.Str
section
variable {X : Cx} {pos : Pos}
theorem vR {pins : List (Addr × Obj)} {σ : St} {H : Hp} {s : Shared} (I : Inv X pins σ H s) : sysModules < s.heap.objs.size :=
  Nat.lt_trans (by decide) (show mainGlobals < s.heap.objs.size from (I.mod.glob.keeps I.bk).lt)
def uo : TE := fun _ H Q => ∀ p, H p = none → Q (.ref p) (upd H p (.dK []))
theorem n9 : PE X (.Dict [] [] pos) uo := by
  intro pins s σ H Q I h
  have new : ObjOk X.prog X.w (upd H s.heap.objs.size (.dK [])) (s.heap.push { cls := .type "dict", data := .dict #[] }) s.heap.objs.size (.dK []) :=
    ⟨Nat.zero_le _, beq_eq_false_iff_ne.mpr (Ne.symm (Nat.ne_of_lt (vR I))), [], .nil, Heap.DictOf.new s.heap⟩
  exact wpAny_Dict_empty ⟨.ref s.heap.objs.size, _, I.laid (t' := s.toks) (fun _ _ q => Heap.get?_push_of_some _ q) (Nat.le_refl _) new, rfl, h _ (I.hok.fresh (Nat.le_refl _))⟩
end
end L2
set_option Elab.async false
set_option linter.all false
set_option maxRecDepth 100000
namespace L2
open PySem PySem.Spec PyProof.Rows Builtin Builtin.Str
section
variable {X : Cx}
end
end L2
set_option Elab.async false
set_option linter.all false
set_option maxRecDepth 100000
namespace L2
open PySem PySem.Spec PyProof.Rows
section
variable {X : Cx} {K : PySem.W.Frag} {pos : Pos}
theorem ip (K : PySem.W.Frag) {es : List Expr} {k : Nat} {t : TGs} {n : Nat} (hc : X.calm = true) (h : PGs X es t) (hK : X.K = K := by rfl)
    (hn : (assignEach es X.env).length = n := by rfl) (hst : (assignEach es X.env).findIdx? (·.1) = none := by rfl) : PG X (.Tuple es k pos) (r9 K n t) := by
  subst hK; exact u5 hc h hn hst
end
section
variable {X : Cx} {T name id : String} {r : V → List V → Hp → VK → Prop} {o e : Expr} {es : List Expr} {to : TE} {t : TA} {apos cpos : Pos}
theorem fz (K : PySem.W.Frag) (pa : PlainAttrs T) (slot : Slot T name id) (hty : typeOf (.builtin id) = pure (.type "method_descriptor")) (hm : MtR X id r) (ho : PE X o to) (ha : PA X (e :: es) t) (hK : X.K = K := by rfl)
    (hbase : attributeBase o name X.env (eval o X.env) = eval o X.env := by rfl)
    (hfew : ((backTo cpos (starEach (e :: es) X.env)).all (fun x => !x.1) && (backToKw cpos (keywordEach [] X.env)).all (fun x => x.1.isSome)
      && decide ((e :: es).length + ([] : List Keyword).length + (if ([] : List Keyword).isEmpty then 0 else 1) < 30)) = true := by rfl)
    (hline : (apos.endLine == cpos.line) = true := by rfl) (hs : starEach (e :: es) X.env = (false, eval e X.env) :: starEach es X.env := by rfl) (hplain : (backTo cpos (starEach es X.env)).any (·.1) = false := by rfl) :
    PE X (.Call (.Attribute o name apos) (e :: es) [] cpos) (tBM K T r to t) := by
  subst hK; exact xz pa slot hty hm ho ha hbase hfew hline hs hplain
end
section
variable {K : PySem.W.Frag} {tl : TE} {ks : List Nat} {σ : St} {H : Hp} {Q : VK} {tt : TT} {te : TE}
end
end L2
set_option Elab.async false
set_option linter.all false
set_option maxRecDepth 100000
namespace L2
end L2
set_option Elab.async false
set_option linter.all false
set_option maxRecDepth 100000
namespace L2
open PySem PySem.Spec PyProof.Rows Builtin Builtin.Str
def spN (c : Nat) : List Nat → List (List Nat)
  | [] => [[]]
  | a :: r => if a = c then [] :: spN c r else match spN c r with
    | h :: t => (a :: h) :: t
    | [] => [[a]]
theorem lW (c : Nat) : ∀ l : List Nat, c ∉ l → spN c l = [l]
  | [], _ => rfl
  | a :: r, h => by
    have h1 : ¬ a = c := fun z => h (by rw [z]; simp)
    have h2 : c ∉ r := fun z => h (List.mem_cons_of_mem _ z)
    unfold spN
    rw [if_neg h1, lW c r h2]
theorem oJ (c : Nat) : ∀ (l r : List Nat), c ∉ l → spN c (l ++ c :: r) = l :: spN c r
  | [], r, _ => by simp [spN]
  | a :: l, r, h => by
    have h1 : ¬ a = c := fun z => h (by rw [z]; simp)
    have h2 : c ∉ l := fun z => h (List.mem_cons_of_mem _ z)
    rw [List.cons_append]
    show (if a = c then _ else _) = _
    rw [if_neg h1, oJ c l r h2]
theorem lB (c : Nat) : ∀ ps : List (List Nat), ps ≠ [] → (∀ p ∈ ps, c ∉ p) → spN c (db [c] ps) = ps
  | [], h, _ => absurd rfl h
  | [p], _, h => lW c p (h p (by simp))
  | p :: q :: r, _, h => by
    rw [db, List.append_assoc, List.singleton_append, oJ c p _ (h p (by simp)), lB c (q :: r) (by simp) fun x hx => h x (List.mem_cons_of_mem _ hx)]
theorem pT (x y : Str) : Txt.split x y ≠ [] := by
  unfold Txt.split
  split
  · simp
  · split
    · simp
    · rw [StrLaws.partsBetween_eq]
      obtain ⟨p, r, e⟩ := StrLaws.partsFrom_ne x y.length 0 (occurrences x y 0 x.length (x.length + 1))
      rw [e]; simp
theorem qy (l : List Nat) (c : Nat) : (Txt.split ⟨⟨l⟩⟩ ⟨#[c]⟩).map (fun x => cs x) = spN c l := by
  have h1 := StrLaws.join_split ⟨⟨l⟩⟩ ⟨#[c]⟩
  have h2 := StrLaws.split_free ⟨⟨l⟩⟩ c
  have h0 := pT ⟨⟨l⟩⟩ ⟨#[c]⟩
  generalize Txt.split ⟨⟨l⟩⟩ ⟨#[c]⟩ = ps at h0 h1 h2
  have hj : db [c] (ps.map fun x => cs x) = l := by
    have e : ps = (ps.map fun x => cs x).map S := by rw [List.map_map]; conv => lhs; rw [← List.map_id ps]
                                                     apply List.map_congr_left; intro x _; rfl
    rw [e] at h1
    have h3 : Str.join (S [c]) ((ps.map fun x => cs x).map S) = S (db [c] (ps.map fun x => cs x)) := by
      have := og [c] (ps.map fun x => cs x)
      exact (StrLaws.glued_eq_join _ _).symm.trans this
    have h4 : S (db [c] (ps.map fun x => cs x)) = ⟨⟨l⟩⟩ := h3.symm.trans h1
    have h5 := congrArg cs h4
    exact h5
  have hne : (ps.map fun x => cs x) ≠ [] := by
    intro z
    exact h0 (List.map_eq_nil_iff.mp z)
  rw [← hj, lB c _ hne]
  intro p hp
  obtain ⟨x, hx, rfl⟩ := List.mem_map.mp hp
  exact h2 x hx
section
variable {X : Cx} {e a b c : Expr} {pos : Pos}
def xS : V → List V → Hp → VK → Prop
  | .str x, [.str y], H, Q => (∃ c, cs y = [c] ∧ (cs x).length + 2 ≤ sizeLine ∧ ∀ p, H p = none → Q (.ref p) (upd H p (.lst ((spN c (cs x)).map T))))
  | _, _, _, _ => False
def uM : R2
  | .ref l, .ref b, H, Q => ∃ xs zs, H l = some (.lst xs) ∧ H b = some (.lst zs) ∧ xs.length + zs.length ≤ sizeLine ∧ ∀ p, H p = none → Q (.ref p) (upd H p (.lst (xs ++ zs)))
  | _, _, _, _ => False
theorem j5 : OpR X (binaryOp .Add) uM := uP.imp fun x y H Q h => by
  unfold uM at h; split at h
  · obtain ⟨xs, zs, h1, h2, h3, q⟩ := h
    exact ⟨_, _, xs, zs, rfl, rfl, h1, h2, h3, q⟩
  · exact h.elim
theorem rg (K : PySem.W.Frag) (h : X.K = K := by rfl) : SlR X (xg K) := h ▸ sf
def xE (K : PySem.W.Frag) : List V → Hp → VK → Prop
  | [.ref p], H, Q => ∃ ys, (SqL K H p ys ∨ SqT K H p ys) ∧ ∀ l, H l = none → Q (.ref l) (upd H l (.lst ys))
  | _, _, _ => False
def nF (K : PySem.W.Frag) : List V → Hp → VK → Prop
  | [.ref p], H, Q => ∃ ys, (SqL K H p ys ∧ ∀ l, H l = none → Q (.ref l) (upd H l (.tup ys))) ∨ (SqT K H p ys ∧ Q (.ref p) H)
  | _, _, _ => False
theorem qk (K : PySem.W.Frag) (hK : X.K = K := by rfl) : CallR X (.type "tuple") (nF K) := by
  subst hK
  refine jd.imp fun xs H Q h => ?_
  unfold nF at h; split at h
  · obtain ⟨ys, h1⟩ := h
    exact ⟨_, ys, rfl, h1⟩
  · exact h.elim
inductive EqH (K : PySem.W.Frag) (H : Hp) : Nat → V → V → Bool → Prop
  | flat {n x y} : cj x = true → cj y = true → EqH K H n x y (eqV x y)
  | same {n p} : EqH K H n (.ref p) (.ref p) true
  | lst {n p q xs ys} {e : Nat → Bool} : p ≠ q → SqL K H p xs → SqL K H q ys → xs.length = ys.length → (∀ j x y, xs[j]? = some x → ys[j]? = some y → EqH K H n x y (e j)) → EqH K H (n + 1) (.ref p) (.ref q) ((List.range xs.length).all e)
  | len {n p q xs ys} : p ≠ q → SqL K H p xs → SqL K H q ys → xs.length ≠ ys.length → EqH K H (n + 1) (.ref p) (.ref q) false
  | tup {n p q xs ys} {e : Nat → Bool} : p ≠ q → SqT K H p xs → SqT K H q ys → (∀ j x y, xs[j]? = some x → ys[j]? = some y → EqH K H n x y (e j)) → EqH K H (n + 1) (.ref p) (.ref q) ((List.range (min xs.length ys.length)).all e && xs.length == ys.length)
  | lt {n p q xs ys} : SqL K H p xs → SqT K H q ys → EqH K H (n + 1) (.ref p) (.ref q) false
  | tl {n p q xs ys} : SqT K H p xs → SqL K H q ys → EqH K H (n + 1) (.ref p) (.ref q) false
theorem dJ {P : Value → Value → Bool → Prop} {xs ys : List V} {its its' : List Value} {e : Nat → Bool} (r : Vals xs its) (r' : Vals ys its') (h : ∀ j x y u v, xs[j]? = some x → ys[j]? = some y → RelV x u → RelV y v → P u v (e j)) :
    ∀ j (h1 : j < its.toArray.size) (h2 : j < its'.toArray.size), P its.toArray[j] its'.toArray[j] (e j) := fun j g1 g2 => by
  have h1 : xs.length = its.length := r.length
  have h2 : ys.length = its'.length := r'.length
  have g1' : j < its.length := by simpa using g1
  have g2' : j < its'.length := by simpa using g2
  have l1 : j < xs.length := by omega
  have l2 : j < ys.length := by omega
  obtain ⟨w1, e1, r1⟩ := r.get (List.getElem?_eq_getElem l1)
  obtain ⟨w2, e2, r2⟩ := r'.get (List.getElem?_eq_getElem l2)
  have z1 : its.toArray[j] = w1 := by
    have : its[j]? = some its[j] := List.getElem?_eq_getElem g1'
    rw [this] at e1; simpa using Option.some.inj e1
  have z2 : its'.toArray[j] = w2 := by
    have : its'[j]? = some its'[j] := List.getElem?_eq_getElem g2'
    rw [this] at e2; simpa using Option.some.inj e2
  rw [z1, z2]
  exact h j _ _ _ _ (List.getElem?_eq_getElem l1) (List.getElem?_eq_getElem l2) r1 r2
theorem EqH.at {K : PySem.W.Frag} {H : Hp} {n : Nat} {x y : V} {b : Bool} (h : EqH K H n x y b) : ∀ {X : Cx} {pins : List (Addr × Obj)} {σ : St} {s : Shared} {A : Around} {u v : Value}, X.K = K → Inv X pins σ H s → A.units + n < cLine → RelV x u → RelV y v → SeqAt.EqAt A s u v b := by
  induction h with
  | flat fx fy =>
    intro X pins σ s A u v hK I hu rx ry
    exact nv rx ry fx fy
  | same =>
    intro X pins σ s A u v hK I hu rx ry
    cases rx; cases ry
    exact SeqAt.EqAt.same _
  | @lst n p q xs ys e hpq hx hy hl _ ih =>
    intro X pins σ s A u v hK I hu rx ry
    cases rx; cases ry
    subst hK
    obtain ⟨its, r, pl, hz⟩ := I.list hx
    obtain ⟨its', r', pl', hz'⟩ := I.list hy
    have h1 : xs.length = its.length := r.length
    have h2 : ys.length = its'.length := r'.length
    have := SeqAt.RcAt.lists (A := A) (e := e) pl.isList pl'.isList (by simp; omega) (by omega) (dJ r r' fun j x y u v g1 g2 r1 r2 => ih j x y g1 g2 rfl I (by show A.units + 1 + n < cLine; omega) r1 r2)
    rw [List.size_toArray, ← h1] at this
    exact .of_refs hpq this
  | @len n p q xs ys hpq hx hy hl =>
    intro X pins σ s A u v hK I hu rx ry
    cases rx; cases ry
    subst hK
    obtain ⟨its, r, pl, hz⟩ := I.list hx
    obtain ⟨its', r', pl', hz'⟩ := I.list hy
    have h1 : xs.length = its.length := r.length
    have h2 : ys.length = its'.length := r'.length
    exact .of_refs hpq (SeqAt.RcAt.lists_lengths pl.isList pl'.isList (by simp; omega) (by omega))
  | @tup n p q xs ys e hpq hx hy _ ih =>
    intro X pins σ s A u v hK I hu rx ry
    cases rx; cases ry
    subst hK
    obtain ⟨its, r, pl, hz⟩ := I.tuple hx
    obtain ⟨its', r', pl', hz'⟩ := I.tuple hy
    have h1 : xs.length = its.length := r.length
    have h2 : ys.length = its'.length := r'.length
    have := SeqAt.RcAt.tuples (A := A) (e := e) pl pl' (by omega) (dJ r r' fun j x y u v g1 g2 r1 r2 => ih j x y g1 g2 rfl I (by show A.units + 1 + n < cLine; omega) r1 r2)
    rw [List.size_toArray, List.size_toArray, ← h1, ← h2] at this
    exact .of_refs hpq this
  | lt hx hy =>
    intro X pins σ s A u v hK I hu rx ry
    cases rx; cases ry
    subst hK
    obtain ⟨its, r, pl, hz⟩ := I.list hx
    obtain ⟨its', r', pl', hz'⟩ := I.tuple hy
    exact SeqAt.EqAt.list_tuple pl.isList pl' (by omega)
  | tl hx hy =>
    intro X pins σ s A u v hK I hu rx ry
    cases rx; cases ry
    subst hK
    obtain ⟨its, r, pl, hz⟩ := I.tuple hx
    obtain ⟨its', r', pl', hz'⟩ := I.list hy
    exact SeqAt.EqAt.tuple_list pl pl'.isList (by omega)
inductive EqR (K : PySem.W.Frag) (H : Hp) (p q : Addr) : Bool → Prop
  | lst {xs ys} {e : Nat → Bool} : SqL K H p xs → SqL K H q ys → xs.length = ys.length → (∀ j x y, xs[j]? = some x → ys[j]? = some y → EqH K H 50 x y (e j)) → EqR K H p q ((List.range xs.length).all e)
  | len {xs ys} : SqL K H p xs → SqL K H q ys → xs.length ≠ ys.length → EqR K H p q false
  | tup {xs ys} {e : Nat → Bool} : SqT K H p xs → SqT K H q ys → (∀ j x y, xs[j]? = some x → ys[j]? = some y → EqH K H 50 x y (e j)) → EqR K H p q ((List.range (min xs.length ys.length)).all e && xs.length == ys.length)
def qH (K : PySem.W.Frag) (neg : Bool) : R2
  | .ref p, .ref q, H, Q => ∃ b, EqR K H p q b ∧ Q (.bl (neg ^^ b)) H
  | _, _, _, _ => False
theorem vN (K : PySem.W.Frag) (hu : X.A.units + 100 < cLine) (hK : X.K = K := by rfl) : OpR X (compareOp .Eq) (qH K false) := by
  subst hK
  intro pins s σ H x y v u Q I rx ry h
  unfold qH at h
  split at h
  · rename_i p q
    obtain ⟨b, hb, q⟩ := h
    cases rx; cases ry
    cases hb with
    | @lst xs ys e hx hy hl he =>
      obtain ⟨its, r, pl, hz⟩ := I.list hx
      obtain ⟨its', r', pl', hz'⟩ := I.list hy
      have h1 : xs.length = its.length := r.length
      have h2 : ys.length = its'.length := r'.length
      refine SeqAt.eq_listAt (e := e) pl.isList pl'.isList (by simp; omega) (by omega) (dJ r r' fun j x y u v g1 g2 r1 r2 => (he j x y g1 g2).at rfl I (by show X.A.units + 1 + 50 < cLine; omega) r1 r2) ⟨.bl _, H, I, rfl, ?_⟩
      rw [List.size_toArray, ← h1]; simpa using q
    | @len xs ys hx hy hl =>
      obtain ⟨its, r, pl, hz⟩ := I.list hx
      obtain ⟨its', r', pl', hz'⟩ := I.list hy
      have h1 : xs.length = its.length := r.length
      have h2 : ys.length = its'.length := r'.length
      exact SeqAt.eq_list_lengthsAt pl.isList pl'.isList (by simp; omega) (by omega) ⟨.bl false, H, I, rfl, by simpa using q⟩
    | @tup xs ys e hx hy he =>
      obtain ⟨its, r, pl, hz⟩ := I.tuple hx
      obtain ⟨its', r', pl', hz'⟩ := I.tuple hy
      have h1 : xs.length = its.length := r.length
      have h2 : ys.length = its'.length := r'.length
      refine SeqAt.eq_tupleAt (e := e) pl pl' (by omega) (dJ r r' fun j x y u v g1 g2 r1 r2 => (he j x y g1 g2).at rfl I (by show X.A.units + 1 + 50 < cLine; omega) r1 r2) ⟨.bl _, H, I, rfl, ?_⟩
      rw [List.size_toArray, List.size_toArray, ← h1, ← h2]; simpa using q
  · exact h.elim
theorem uv (K : PySem.W.Frag) (hu : X.A.units + 100 < cLine) (hK : X.K = K := by rfl) : OpR X (compareOp .NotEq) (qH K true) := by
  subst hK
  intro pins s σ H x y v u Q I rx ry h
  unfold qH at h
  split at h
  · rename_i p q
    obtain ⟨b, hb, q⟩ := h
    cases rx; cases ry
    cases hb with
    | @lst xs ys e hx hy hl he =>
      obtain ⟨its, r, pl, hz⟩ := I.list hx
      obtain ⟨its', r', pl', hz'⟩ := I.list hy
      have h1 : xs.length = its.length := r.length
      have h2 : ys.length = its'.length := r'.length
      refine SeqAt.RcNeAt.lists (e := e) pl.isList pl'.isList (by simp; omega) (by omega) (dJ r r' fun j x y u v g1 g2 r1 r2 => (he j x y g1 g2).at rfl I (by show X.A.units + 1 + 50 < cLine; omega) r1 r2) X.prog X.w X.xe _ ⟨.bl _, H, I, rfl, ?_⟩
      rw [List.size_toArray, ← h1]; simpa using q
    | @len xs ys hx hy hl =>
      obtain ⟨its, r, pl, hz⟩ := I.list hx
      obtain ⟨its', r', pl', hz'⟩ := I.list hy
      have h1 : xs.length = its.length := r.length
      have h2 : ys.length = its'.length := r'.length
      exact SeqAt.RcNeAt.lists_lengths pl.isList pl'.isList (by simp; omega) (by omega) X.prog X.w X.xe _ ⟨.bl true, H, I, rfl, by simpa using q⟩
    | @tup xs ys e hx hy he =>
      obtain ⟨its, r, pl, hz⟩ := I.tuple hx
      obtain ⟨its', r', pl', hz'⟩ := I.tuple hy
      have h1 : xs.length = its.length := r.length
      have h2 : ys.length = its'.length := r'.length
      refine SeqAt.RcNeAt.tuples (e := e) pl pl' (by omega) (dJ r r' fun j x y u v g1 g2 r1 r2 => (he j x y g1 g2).at rfl I (by show X.A.units + 1 + 50 < cLine; omega) r1 r2) X.prog X.w X.xe _ ⟨.bl _, H, I, rfl, ?_⟩
      rw [List.size_toArray, List.size_toArray, ← h1, ← h2]; simpa using q
  · exact h.elim
theorem EqR.flatL {K : PySem.W.Frag} {H : Hp} {p q : Addr} {xs : List V} (hx : SqL K H p xs) (hy : SqL K H q xs) (f : xs.all cj = true) : EqR K H p q true := by
  have h := EqR.lst (K := K) (H := H) (e := fun j => eqV (xs.getD j .non) (xs.getD j .non)) hx hy rfl fun j x y gx gy => by
    have e1 : xs.getD j .non = x := by simp [List.getD, gx]
    rw [e1]
    rw [gx] at gy
    cases gy
    exact .flat (List.all_eq_true.mp f _ (List.mem_of_getElem? gx)) (List.all_eq_true.mp f _ (List.mem_of_getElem? gx))
  have e : (List.range xs.length).all (fun j => eqV (xs.getD j .non) (xs.getD j .non)) = true := by
    rw [List.all_eq_true]
    intro j hj
    have hf : cj (xs.getD j .non) = true := by
      have hj' : j < xs.length := by simpa using hj
      have : xs.getD j .non ∈ xs := by
        have e1 : xs.getD j .non = xs[j] := by simp [List.getD, hj']
        rw [e1]; exact List.getElem_mem hj'
      exact List.all_eq_true.mp f _ this
    generalize xs.getD j .non = z at hf
    cases z <;> simp [eqV] at hf ⊢ <;> simp [cj] at hf
  rw [e] at h; exact h
end
end L2
set_option Elab.async false
set_option linter.all false
set_option maxRecDepth 100000
namespace PySem
open Sem (wp)
open Builtin
end PySem
namespace L2
open PySem PySem.Spec PyProof.Rows Builtin Builtin.Str
section
variable {X : Cx} {e a b c : Expr} {pos : Pos}
def gG (K : PySem.W.Frag) (neg : Bool) : R2 := fun x y H Q => match eqS x y with
  | some k => Q (.bl (neg ^^ k)) H
  | none => qH K neg x y H Q
theorem ci (K : PySem.W.Frag) (hu : X.A.units + 100 < cLine) (hK : X.K = K := by rfl) : OpR X (compareOp .Eq) (gG K false) := ((vp (by omega)).or (vN K hu hK)).imp fun x y H Q h => by
  unfold gG at h
  split at h
  · rename_i k hk
    obtain ⟨h1, h2⟩ := kU hk
    exact .inl (.inl ⟨h1, by rw [h2]; simpa using h⟩)
  · exact .inr h
theorem jP (K : PySem.W.Frag) (hu : X.A.units + 100 < cLine) (hK : X.K = K := by rfl) : OpR X (compareOp .NotEq) (gG K true) := ((uZ (by omega)).or (uv K hu hK)).imp fun x y H Q h => by
  unfold gG at h
  split at h
  · rename_i k hk
    obtain ⟨h1, h2⟩ := kU hk
    exact .inl (.inl ⟨h1, by rw [h2]; simpa using h⟩)
  · exact .inr h
variable {K : PySem.W.Frag} {neg : Bool} {H : Hp} {Q : VK}
theorem rX {i j : Int} : gG K neg (.int i) (.int j) H Q = Q (.bl (neg ^^ decide (i = j))) H := rfl
theorem v6 {i j : Bool} : gG K neg (.bl i) (.bl j) H Q = Q (.bl (neg ^^ decide (i = j))) H := rfl
theorem tH {i j : Str} : gG K neg (.str i) (.str j) H Q = Q (.bl (neg ^^ decide (i.cps.toList = j.cps.toList))) H := rfl
theorem rP {p q : Addr} : gG K neg (.ref p) (.ref q) H Q = ∃ b, EqR K H p q b ∧ Q (.bl (neg ^^ b)) H := rfl
theorem vC : gG K neg .non .non H Q = Q (.bl (neg ^^ true)) H := rfl
theorem uF {i : Int} : gG K neg .non (.int i) H Q = Q (.bl (neg ^^ false)) H := rfl
theorem wa {i : Int} : gG K neg (.int i) .non H Q = Q (.bl (neg ^^ false)) H := rfl
theorem v7 {i : Int} {s : Str} : gG K neg (.int i) (.str s) H Q = Q (.bl (neg ^^ false)) H := rfl
theorem v8 {i : Int} {s : Str} : gG K neg (.str s) (.int i) H Q = Q (.bl (neg ^^ false)) H := rfl
end
end L2
namespace L2
theorem bp {k : Nat} {A : PySem.Around} (r : Room k A) : A.units + 100 < PySem.cLine := by have := r.un; omega
end L2
set_option Elab.async false
set_option linter.all false
set_option maxRecDepth 100000
namespace L2
open PySem PySem.Spec PyProof.Rows
section
variable {κ : Type} [DecidableEq κ]
def dk (kvs : List (κ × V)) (k : κ) : Option V := (kvs.find? fun kv => decide (kv.1 = k)).map (·.2)
def cF (kvs : List (κ × V)) (k : κ) (v : V) : List (κ × V) :=
  if (kvs.any fun kv => decide (kv.1 = k)) = true then kvs.map (fun kv => if kv.1 = k then (kv.1, v) else kv) else kvs ++ [(k, v)]
def yk (kvs : List (κ × V)) (k : κ) : List (κ × V) := kvs.filter fun kv => decide (kv.1 ≠ k)
theorem iE {p : κ × V} {r : List (κ × V)} {k : κ} (e : p.1 = k) : dk (p :: r) k = some p.2 := by simp [dk, List.find?_cons, e]
theorem iT {p : κ × V} {r : List (κ × V)} {k : κ} (e : ¬ p.1 = k) : dk (p :: r) k = dk r k := by simp [dk, List.find?_cons, e]
theorem iD (k : κ) : ∀ kvs : List (κ × V), (kvs.any fun kv => decide (kv.1 = k)) = (dk kvs k).isSome
  | [] => rfl
  | p :: r => by
    rw [List.any_cons]
    by_cases e : p.1 = k
    · simp only [iE e, decide_eq_true e, Bool.true_or, Option.isSome_some]
    · rw [iT e, decide_eq_false e, Bool.false_or]; exact iD k r
theorem dD (kvs : List (κ × V)) (k : κ) (v : V) : (cF kvs k v).length ≤ kvs.length + 1 := by
  unfold cF
  split
  · rw [List.length_map]; omega
  · rw [List.length_append, List.length_cons, List.length_nil]; omega
theorem RelO.isSome_eq {o : Option V} {u : Option Value} (r : RelO o u) : o.isSome = u.isSome := by
  cases o with
  | none => cases u with
    | none => rfl
    | some _ => exact (show False from r).elim
  | some _ => cases u with
    | none => exact (show False from r).elim
    | some _ => rfl
theorem RelO.getD {o : Option V} {u : Option Value} {d : V} {d' : Value} (r : RelO o u) (rd : RelV d d') : RelV (o.getD d) (u.getD d') := by
  cases o with
  | none => cases u with
    | none => exact rd
    | some _ => exact (show False from r).elim
  | some _ => cases u with
    | none => exact (show False from r).elim
    | some _ => exact r
theorem KV.val {kvs : List (κ × V)} {vs : List (κ × Value)} (r : KV kvs vs) (k : κ) : RelO (dk kvs k) (valueAt vs k) := by
  unfold KV at r
  induction r with
  | nil => exact True.intro
  | @cons p q ps qs h t ih =>
    obtain ⟨h1, h2⟩ := h
    by_cases e : p.1 = k
    · have e' : q.1 = k := h1.symm.trans e
      have b : valueAt (q :: qs) k = some q.2 := by simp [valueAt, List.find?_cons, e']
      rw [iE e, b]; exact h2
    · have e' : ¬ q.1 = k := fun z => e (h1.trans z)
      have b : valueAt (q :: qs) k = valueAt qs k := by simp [valueAt, List.find?_cons, e']
      rw [iT e, b]; exact ih
theorem KV.any {kvs : List (κ × V)} {vs : List (κ × Value)} (r : KV kvs vs) (k : κ) : (kvs.any fun kv => decide (kv.1 = k)) = vs.any fun kv => decide (kv.1 = k) := by
  unfold KV at r
  induction r with
  | nil => rfl
  | cons h t ih => rw [List.any_cons, List.any_cons, ih, h.1]
theorem KV.repl {kvs : List (κ × V)} {vs : List (κ × Value)} (r : KV kvs vs) (k : κ) {y : V} {u : Value} (ry : RelV y u) :
    KV (kvs.map fun kv => if kv.1 = k then (kv.1, y) else kv) (vs.map fun kv => if kv.1 = k then (kv.1, u) else kv) := by
  unfold KV at r ⊢
  induction r with
  | nil => exact .nil
  | @cons p q ps qs h t ih =>
    rw [List.map_cons, List.map_cons]
    refine .cons ?_ ih
    obtain ⟨h1, h2⟩ := h
    by_cases e : p.1 = k
    · rw [if_pos e, if_pos (h1.symm.trans e)]; exact ⟨h1, ry⟩
    · rw [if_neg e, if_neg (fun z => e (h1.trans z))]; exact ⟨h1, h2⟩
theorem KV.put {kvs : List (κ × V)} {vs : List (κ × Value)} (r : KV kvs vs) (k : κ) {y : V} {u : Value} (ry : RelV y u) : KV (cF kvs k y) (stored vs k u) := by
  unfold cF stored
  rw [r.any k]
  by_cases e : (vs.any fun kv => decide (kv.1 = k)) = true
  · rw [if_pos e, if_pos e]; exact r.repl k ry
  · rw [if_neg e, if_neg e]; exact Paired.snoc r ⟨rfl, ry⟩
theorem KV.length {kvs : List (κ × V)} {vs : List (κ × Value)} (r : KV kvs vs) : kvs.length = vs.length := Paired.length r
end
theorem mj {P : Program} {w : World} {k : Key} {u : Value} (r : RelV (kV k) u) : (bM P w).is k u = true := by
  cases k with
  | inl i => obtain ⟨t, e⟩ := (show ∃ t, u = Value.int i t from r); subst e; exact kL P w i t
  | inr x => obtain ⟨t, e⟩ := (show ∃ t, u = Value.str x t from r); subst e; exact mn P w x t
theorem q_ {a b : Key} (e : kV a = kV b) : a = b := by
  cases a with
  | inl i => cases b with
    | inl j => have e' : V.int i = V.int j := e; injection e' with e'; rw [e']
    | inr y => exact nomatch (show V.int i = V.str y from e)
  | inr x => cases b with
    | inl j => exact nomatch (show V.str x = V.int j from e)
    | inr y => have e' : V.str x = V.str y := e; injection e' with e'; rw [e']
theorem oK : ∀ {a b : List Key}, a.map kV = b.map kV → a = b
  | [], [], _ => rfl
  | [], _ :: _, e => by simp at e
  | _ :: _, [], e => by simp at e
  | x :: xs, y :: ys, e => by
    rw [List.map_cons, List.map_cons] at e
    injection e with e1 e2
    rw [q_ e1, oK e2]
theorem jt {P : Program} {w : World} : ∀ {ks : List Key} {us : List Value}, Vals (ks.map kV) us → ItemsAre (bM P w) ks us
  | [], _, r => by rw [List.map_nil] at r; cases r; exact .nil
  | k :: ks, _, r => by
    rw [List.map_cons] at r
    cases r with
    | cons h t => exact .cons (mj h) (jt t)
abbrev KT (H : Hp) : List (List Key × V) → List (List Key × Addr × Value) → Prop := Paired fun p q => p.1 = q.1 ∧ H q.2.1 = some (.tup (p.1.map kV)) ∧ RelV p.2 q.2.2
theorem KT.val {H : Hp} {kvs : List (List Key × V)} {xs : List (List Key × Addr × Value)} (r : KT H kvs xs) (k : List Key) : RelO (dk kvs k) ((atKey xs k).map (·.2)) := by
  induction r with
  | nil => exact True.intro
  | @cons p q ps qs h t ih =>
    obtain ⟨h1, _, h2⟩ := h
    by_cases e : p.1 = k
    · have e' : q.1 = k := h1.symm.trans e
      have b : atKey (q :: qs) k = some q.2 := by simp [atKey, List.find?_cons, e']
      rw [iE e, b]; exact h2
    · have e' : ¬ q.1 = k := fun z => e (h1.trans z)
      have b : atKey (q :: qs) k = atKey qs k := by simp [atKey, List.find?_cons, e']
      rw [iT e, b]; exact ih
theorem KT.repl {H : Hp} {kvs : List (List Key × V)} {xs : List (List Key × Addr × Value)} (r : KT H kvs xs) (k : List Key) {y : V} {u : Value} (ry : RelV y u) :
    KT H (kvs.map fun kv => if kv.1 = k then (kv.1, y) else kv) (xs.map (putAt k u)) := by
  induction r with
  | nil => exact .nil
  | @cons p q ps qs h t ih =>
    rw [List.map_cons, List.map_cons]
    refine .cons ?_ ih
    obtain ⟨h1, h2, h3⟩ := h
    unfold putAt
    by_cases e : p.1 = k
    · rw [if_pos e, if_pos (h1.symm.trans e)]; exact ⟨h1, h2, ry⟩
    · rw [if_neg e, if_neg (fun z => e (h1.trans z))]; exact ⟨h1, h2, h3⟩
theorem KT.put {H : Hp} {kvs : List (List Key × V)} {xs : List (List Key × Addr × Value)} (r : KT H kvs xs) (k : List Key) {b : Addr} {y : V} {u : Value} (hb : H b = some (.tup (k.map kV))) (ry : RelV y u) :
    KT H (cF kvs k y) (storedH xs k b u) := by
  have e : (kvs.any fun kv => decide (kv.1 = k)) = (atKey xs k).isSome := by
    rw [iD, (r.val k).isSome_eq, Option.isSome_map]
  unfold cF storedH
  rw [e]
  by_cases q : (atKey xs k).isSome = true
  · rw [if_pos q, if_pos q]; exact r.repl k ry
  · rw [if_neg q, if_neg q]; exact Paired.snoc r ⟨rfl, hb, ry⟩
theorem KT.keeps {H H' : Hp} {kvs : List (List Key × V)} {xs : List (List Key × Addr × Value)} (r : KT H kvs xs) (ht : ∀ b ys, H b = some (.tup ys) → H' b = some (.tup ys)) : KT H' kvs xs :=
  Paired.mapP r fun _ _ z => ⟨z.1, ht _ _ z.2.1, z.2.2⟩
section
variable {P : Program} {w : World} {H : Hp} {h : Heap} {a : Addr}
theorem p7 {u : HO} (ok : HOk P w H h) (e : Rd H a u) : ObjOk P w H h a u := e.ok ok
theorem ow {kvs : List (Key × V)} (ok : HOk P w H h) (e : Rd H a (.dK kvs)) : kvs.length ≤ sizeLine ∧ (a == sysModules) = false ∧ ∃ vs, KV kvs vs ∧ h.DictOf (bM P w) a vs :=
  show ObjOk P w H h a (.dK kvs) from p7 ok e
theorem tY {kvs : List (Key × V)} (ok : HOk P w H h) (e : H a = some (.dK kvs)) : kvs.length ≤ sizeLine ∧ (a == sysModules) = false ∧ ∃ vs, KV kvs vs ∧ h.DictOf (bM P w) a vs := ow ok (.inl e)
theorem iS {ks : List Key} (ok : HOk P w H h) (e : H a = some (.tup (ks.map kV))) : (tupleKind (bM P w)).is h ks a := by
  obtain ⟨_, its, r, o, h1, h2, n, h3⟩ := (show ObjOk P w H h a (.tup (ks.map kV)) from ok a _ e)
  exact ⟨o, its.toArray, n, h1, h2, h3, by simpa using jt r⟩
theorem oC {kvs : List (List Key × V)} (ok : HOk P w H h) (e : Rd H a (.dT kvs)) : kvs.length ≤ sizeLine ∧ (a == sysModules) = false ∧
    ∃ xs, KT H kvs xs ∧ h.DictOfH (tupleKind (bM P w)) a xs := by
  obtain ⟨z, y, xs, r, o, es, ep, h1, h2, h3, h4, h5⟩ := (show ObjOk P w H h a (.dT kvs) from p7 ok e)
  refine ⟨z, y, xs, r, o, es, ep, h1, h2, h3, h4, fun x hx => ?_, h5⟩
  have all : ∀ {l : List (List Key × V)} {m : List (List Key × Addr × Value)}, KT H l m → ∀ x ∈ m, (tupleKind (bM P w)).is h x.1 x.2.1 := by
    intro l m q
    induction q with
    | nil => intro x hx; exact nomatch hx
    | @cons p q ps qs hq t ih =>
      intro x hx
      rcases List.mem_cons.mp hx with e | hx
      · subst e
        exact iS ok (by rw [← hq.1]; exact hq.2.1)
      · exact ih x hx
  exact all r x hx
theorem uh {kvs : List (List Key × V)} (ok : HOk P w H h) (e : H a = some (.dT kvs)) : kvs.length ≤ sizeLine ∧ (a == sysModules) = false ∧
    ∃ xs, KT H kvs xs ∧ h.DictOfH (tupleKind (bM P w)) a xs := oC ok (.inl e)
end
def DGet (H : Hp) (a : Addr) (y : V) (r : Option V) : Prop :=
  (∃ kvs k, Rd H a (.dK kvs) ∧ y = kV k ∧ r = dk kvs k) ∨ ∃ kvs k b, Rd H a (.dT kvs) ∧ y = .ref b ∧ H b = some (.tup (k.map kV)) ∧ r = dk kvs k
def DPut (H : Hp) (a : Addr) (y v : V) (H' : Hp) : Prop :=
  (∃ kvs k, H a = some (.dK kvs) ∧ y = kV k ∧ kvs.length < sizeLine ∧ H' = upd H a (.dK (cF kvs k v))) ∨
  ∃ kvs k b, H a = some (.dT kvs) ∧ y = .ref b ∧ H b = some (.tup (k.map kV)) ∧ kvs.length < sizeLine ∧ H' = upd H a (.dT (cF kvs k v))
theorem DGet.k {H : Hp} {a : Addr} {kvs : List (Key × V)} {k : Key} (e : H a = some (.dK kvs)) : DGet H a (kV k) (dk kvs k) := .inl ⟨kvs, k, .inl e, rfl, rfl⟩
theorem DGet.t {H : Hp} {a b : Addr} {kvs : List (List Key × V)} {k : List Key} (e : H a = some (.dT kvs)) (eb : H b = some (.tup (k.map kV))) : DGet H a (.ref b) (dk kvs k) := .inr ⟨kvs, k, b, .inl e, rfl, eb, rfl⟩
theorem DPut.k {H : Hp} {a : Addr} {kvs : List (Key × V)} {k : Key} {v : V} (e : H a = some (.dK kvs)) (hl : kvs.length < sizeLine) : DPut H a (kV k) v (upd H a (.dK (cF kvs k v))) := .inl ⟨kvs, k, e, rfl, hl, rfl⟩
theorem DPut.t {H : Hp} {a b : Addr} {kvs : List (List Key × V)} {k : List Key} {v : V} (e : H a = some (.dT kvs)) (eb : H b = some (.tup (k.map kV))) (hl : kvs.length < sizeLine) :
    DPut H a (.ref b) v (upd H a (.dT (cF kvs k v))) := .inr ⟨kvs, k, b, e, rfl, eb, hl, rfl⟩
section
variable {X : Cx} {pins : List (Addr × Obj)} {σ : St} {H : Hp} {s : Shared} {a : Addr} {y v : V} {u r : Value} {o : Option V} {A : Around} {E : Value → Shared → Prop}
theorem Inv.big (I : Inv X pins σ H s) : sysModules < s.heap.objs.size := by
  have h : mainGlobals < s.heap.objs.size := (I.mod.glob.keeps I.bk).lt
  exact Nat.lt_trans (by decide) h
theorem ie {h' : Heap} {t' : Nat} {ob : HO} (I : Inv X pins σ H s) (mu : Mut (H a)) (hs : Heap.SameBut a s.heap h') (he : ∃ q, h'.get? a = some q) (new : ObjOk X.prog X.w (upd H a ob) h' a ob) :
    Inv X pins σ (upd H a ob) { s with heap := h', toks := t' } :=
  I.write (x := a) (e := a) mu (.inl rfl) (fun b q hb z => (hs.2 b hb).trans z) he new
theorem pX {P : Program} {w : World} {H' : Hp} {h' : Heap} {kvs : List (Key × V)} {vs : List (Key × Value)} (z : kvs.length ≤ sizeLine) (hd : (a == sysModules) = false) (rel : KV kvs vs) (dd : h'.DictOf (bM P w) a vs) :
    ObjOk P w H' h' a (.dK kvs) := ⟨z, hd, vs, rel, dd⟩
theorem py {H' : Hp} {Q : Unit → Shared → Prop} (hu : A.units + 1 < cLine) (I : Inv X pins σ H s) (g : DPut H a y v H') (ry : RelV y u) (rv : RelV v r) (h : ∀ s', Inv X pins σ H' s' → Q () s') :
    wpAny (model X.prog X.w) A (setItem (.ref a) u r) Q E s := by
  rcases g with ⟨kvs, k, e, ey, l, eH⟩ | ⟨kvs, k, b, e, ey, eb, l, eH⟩
  · subst ey eH
    obtain ⟨z, hd, vs, rel, dd⟩ := tY I.hok e
    have hz : vs.length ≤ sizeLine := by rw [← rel.length]; exact z
    have hl : (cF kvs k v).length ≤ sizeLine := by have := dD kvs k v; omega
    refine wpAny_setItem_pairs (hsz := hz) (mj ry) dd fun h' dd' hs => h _ ?_
    have he : ∃ q, h'.get? a = some q := let ⟨q, _, _, hq, _⟩ := dd'; ⟨q, hq⟩
    exact ie I (by rw [e]; exact True.intro) hs he (pX hl hd (rel.put k rv) dd')
  · subst ey eH
    cases (show u = Value.ref b from ry)
    obtain ⟨z, hd, xs, rel, dd⟩ := uh I.hok e
    have hz : xs.length ≤ sizeLine := by rw [← Paired.length rel]; exact z
    have hl : (cF kvs k v).length ≤ sizeLine := by have := dD kvs k v; omega
    refine wpAny_setItem_heap (hsz := hz) (tupleKind_room_in1 hu) (iS I.hok eb) dd fun h' dd' hs => h _ ?_
    obtain ⟨q, es, ep, hq, h2, h3, h4, _, h5⟩ := dd'
    refine ie I (by rw [e]; exact True.intro) hs ⟨q, hq⟩ ⟨hl, hd, _, (rel.put k eb rv).keeps fun c ys ec => ?_, q, es, ep, hq, h2, h3, h4, h5⟩
    rw [ai (hJ ec e (fun z => nomatch z))]
    exact ec
end
section
variable {X : Cx} {pins : List (Addr × Obj)} {σ : St} {H : Hp} {s : Shared} {a : Addr} {kvs : List (Key × V)} {k : Key} {u : Value} {A : Around} {E : Value → Shared → Prop}
end
def tQ (td ty tv : TE) : TS := fun D σ H => tv σ H fun v H1 => td σ H1 fun x H2 => ty σ H2 fun y H3 => ∃ a H4, x = .ref a ∧ DPut H3 a y v H4 ∧ D.nx σ H4
section
variable {X : Cx} {o i e value : Expr} {pos pos' tpos : Pos} {td ty tv : TE}
theorem su (hu : X.A.units + 1 < cLine) (ho : PE X o td) (hi : PE X i ty) (hv : PE X value tv) (hs : swapsWith value (some (.Subscript o i pos')) pos.line X.env = pure false) :
    PS X (.Assign [.Subscript o i pos'] value pos) (tQ td ty tv) := by
  intro pins s σ H D I h
  refine wpAny_Assign_Subscript (thn (hv pins s σ H _ I h) fun r s1 ⟨v, H1, I1, rv, q1⟩ => thn (ho pins s1 σ H1 _ I1 q1) fun u s2 ⟨x, H2, I2, rx, q2⟩ => thn (hi pins s2 σ H2 _ I2 q2) fun iv s3 ⟨y, H3, I3, ry, a, H4, ex, g, q3⟩ => ?_) hs
  subst ex
  obtain rfl : u = Value.ref a := rx
  exact py hu I3 g ry rv fun s4 I4 => ⟨σ, H4, I4, q3⟩
end
theorem qz {P : Program} {w : World} {H : Hp} (h : Heap) (hb : sysModules < h.objs.size) : ObjOk P w H (h.push { cls := .type "dict", data := .dict #[] }) h.objs.size (.dT []) :=
  ⟨Nat.zero_le _, beq_eq_false_iff_ne.mpr (Ne.symm (Nat.ne_of_lt hb)), [], .nil, _, #[], 0, Heap.get?_push_size _ rfl, ⟨rfl, rfl, rfl⟩, rfl, rfl, List.nodup_nil⟩
def qP : TE := fun _ H Q => ∀ p, H p = none → Q (.ref p) (upd H p (.dT []))
section
variable {X : Cx} {pos : Pos}
theorem rq : PE X (.Dict [] [] pos) qP := fun pins s σ H Q I h =>
  wpAny_Dict_empty ⟨.ref s.heap.objs.size, _, I.laid (a := s.heap.objs.size) (o := .dT []) (t' := s.toks) (fun _ _ q => Heap.get?_push_of_some _ q) (Nat.le_refl _) (qz s.heap I.big), rfl, h _ (I.hok.fresh (Nat.le_refl _))⟩
end
structure M2 (X : Cx) (o : Expr) (m : Str) (apos : Pos) (e f : Expr) (cpos : Pos) : Prop where
  base : attributeBase o m X.env (eval o X.env) = eval o X.env
  few : ((backTo cpos (starEach [e, f] X.env)).all (fun x => !x.1) && (backToKw cpos (keywordEach [] X.env)).all (fun x => x.1.isSome)
    && decide (([e, f] : List Expr).length + ([] : List Keyword).length + (if ([] : List Keyword).isEmpty then 0 else 1) < 30)) = true
  line : (apos.endLine == cpos.line) = true
  trees : backTo cpos (starEach [e, f] X.env) = [(false, eval e X.env), (false, eval f X.env)]
def IsD (H : Hp) (a : Addr) : Prop := (∃ kvs, Rd H a (.dK kvs)) ∨ ∃ kvs, Rd H a (.dT kvs)
theorem pY {X : Cx} {pins : List (Addr × Obj)} {σ : St} {H : Hp} {s : Shared} {a : Addr} (I : Inv X pins σ H s) (d : IsD H a) :
    s.TypeIs (.ref a) "dict" ∧ (∀ b, Value.ref a = .ref b → ∃ ob, s.heap.get? b = some ob ∧ ob.dict = none) ∧ (a == sysModules) = false := by
  rcases d with ⟨kvs, e⟩ | ⟨kvs, e⟩
  · obtain ⟨_, hd, vs, _, dd⟩ := ow I.hok e
    refine ⟨dd.typeIs, fun b q => ?_, hd⟩
    cases q
    obtain ⟨ob, _, _, h1, h2, _⟩ := dd
    exact ⟨ob, h1, h2.2.1⟩
  · obtain ⟨_, hd, xs, _, dd⟩ := oC I.hok e
    refine ⟨dd.typeIs, fun b q => ?_, hd⟩
    cases q
    obtain ⟨ob, _, _, h1, h2, _⟩ := dd
    exact ⟨ob, h1, h2.2.1⟩
section
variable {X : Cx} {pins : List (Addr × Obj)} {σ : St} {H : Hp} {s : Shared} {a : Addr} {y d : V} {u r : Value} {o : Option V} {A : Around} {E : Value → Shared → Prop}
theorem uu {Q : Value → Shared → Prop} (hu : A.units + 1 < cLine) (I : Inv X pins σ H s) (g : DGet H a y o) (ry : RelV y u) (rd : RelV d r) (h : ∀ w' s', Inv X pins σ H s' → RelV (o.getD d) w' → Q w' s') :
    wpAny (model X.prog X.w) A (call (.builtin "dict.get") [.ref a, u, r]) Q E s := by
  rcases g with ⟨kvs, k, e, ey, l⟩ | ⟨kvs, k, b, e, ey, eb, l⟩
  · subst ey
    obtain ⟨z, hd, vs, rel, dd⟩ := ow I.hok e
    refine call_meetsIn PySem.F.slot_dict_get dd.typeIs PySem.F.entry_dict_get (PySem.F.args_dict_get_3 _ _ _) (meets_dict_get_default (bM X.prog X.w) a (mj ry) hd r) ⟨_, dd.mapOf, h _ _ (I.tok _) ?_⟩
    rw [l]
    exact (rel.val k).getD rd
  · subst ey
    cases (show u = Value.ref b from ry)
    obtain ⟨z, hd, xs, rel, dd⟩ := oC I.hok e
    refine call_meetsIn PySem.F.slot_dict_get dd.typeIs PySem.F.entry_dict_get (PySem.F.args_dict_get_3 _ _ _) (meetsH_dict_get_default (tupleKind (bM X.prog X.w)) a b hd r) ⟨tupleKind_room_in1 hu, k, xs, iS I.hok eb, dd, h _ _ (I.tok _) ?_⟩
    rw [l]
    exact (rel.val k).getD rd
end
def rj (td ty tx : TE) : TE := fun σ H Q => td σ H fun x H1 => ∃ a, x = .ref a ∧ IsD H1 a ∧ ty σ H1 fun y H2 => tx σ H2 fun z H3 => ∃ o, DGet H3 a y o ∧ Q (o.getD z) H3
section
variable {X : Cx} {o e f : Expr} {apos cpos : Pos} {td ty tx : TE}
theorem mG (hu : X.A.units + 1 < cLine) (ho : PE X o td) (he : PE X e ty) (hf : PE X f tx) (m : M2 X o "get" apos e f cpos) : PE X (.Call (.Attribute o "get" apos) [e, f] [] cpos) (rj td ty tx) := by
  intro pins s σ H Q I h
  refine wpAny_Call_method m.base m.few m.line PySem.F.plainAttrs_dict PySem.F.slot_dict_get PySem.F.type_dict_get (thn (ho pins s σ H _ I h) fun u s1 ⟨x, H1, I1, rx, a, ex, d, q1⟩ => ?_)
  subst ex
  obtain rfl : u = Value.ref a := rx
  obtain ⟨t1, t2, _⟩ := pY I1 d
  refine ⟨t1, t2, ?_⟩
  rw [m.trees]
  refine Calls.callWith_builtin rfl (Calls.evalArgs_plain (Calls.spliced_cons (thn (he pins s1 σ H1 _ I1 q1) fun iv s2 ⟨y, H2, I2, ry, q2⟩ =>
    Calls.spliced_cons (thn (hf pins s2 σ H2 _ I2 q2) fun fv s3 ⟨z, H3, I3, rz, ov, g, q3⟩ => Calls.spliced_nil ?_))))
  exact uu hu I3 g ry rz fun w' s4 I4 rw' => ⟨_, H3, I4, rw', q3⟩
end
section
variable {X : Cx} {pins : List (Addr × Obj)} {σ : St} {H : Hp} {s : Shared} {a : Addr} {kvs : List (Key × V)} {A : Around} {E : Value → Shared → Prop}
end
section
variable {X : Cx} {pins : List (Addr × Obj)} {σ : St} {H : Hp} {s : Shared} {a : Addr} {y : V} {u : Value} {A : Around} {E : Value → Shared → Prop}
end
end L2
set_option Elab.async false
set_option linter.all false
set_option maxRecDepth 100000
namespace L2
open PySem PySem.Spec PyProof.Rows
section
variable {X : Cx} {e o value : Expr} {f : Str} {ta tv : TE} {pos pos' : Pos}
def wc (K : PySem.W.Frag) (f : Str) : V → Hp → VK → Prop
  | .ref p, H, Q => ∃ C dx fs v, H p = some (.ins C dx fs) ∧ Cls K C ∧ NoAttr K C f ∧ fs.lookup f = some v ∧ Q v H
  | _, _, _ => False
def uj (K : PySem.W.Frag) (ta : TE) (f : Str) : TE := fun σ H Q => ta σ H fun x H1 => wc K f x H1 Q
theorem j7 (K : PySem.W.Frag) (he : PE X e ta) (hK : X.K = K := by rfl) (hb : attributeBase e f X.env (eval e X.env) = eval e X.env := by rfl) : PE X (.Attribute e f pos) (uj K ta f) := by
  subst hK
  intro pins s σ H Q I h
  refine tF hb (thn (he pins s σ H _ I h) fun u s1 ⟨x, H1, I1, rx, q⟩ => ?_)
  dsimp only at q
  unfold wc at q
  split at q
  · rename_i a
    obtain ⟨C, dx, fs, v, ea, c, n, l, q⟩ := q
    obtain rfl : u = Value.ref a := rx
    exact mX I1 ea c n l fun u' s2 I2 ru => ⟨v, H1, I2, ru, q⟩
  · exact q.elim
def pV (K : PySem.W.Frag) (f : Str) (y : V) : V → Hp → (Hp → Prop) → Prop
  | .ref p, H, Q => ∃ C dx fs, H p = some (.ins C dx fs) ∧ Cls K C ∧ NoAttr K C f ∧ fs.length < 1000 ∧ Q (upd H p (.ins C dx (eZ f y fs)))
  | _, _, _ => False
def tU (K : PySem.W.Frag) (ta tv : TE) (f : Str) : TS := fun D σ H => tv σ H fun y H1 => ta σ H1 fun x H2 => pV K f y x H2 fun H3 => D.nx σ H3
theorem sB (K : PySem.W.Frag) (ha : PE X o ta) (hv : PE X value tv) (hK : X.K = K := by rfl) (hs : swapsWith value (some (.Attribute o f pos')) pos.line X.env = pure false := by rfl) : PS X (.Assign [.Attribute o f pos'] value pos) (tU K ta tv f) := by
  subst hK
  intro pins s σ H D I h
  refine plainObj_wpAny_Assign_Attribute (thn (hv pins s σ H _ I h) fun u s1 ⟨y, H1, I1, ry, q⟩ => thn (ha pins s1 σ H1 _ I1 q) fun ov s2 ⟨x, H2, I2, rx, q2⟩ => ?_) hs
  dsimp only at q2
  unfold pV at q2
  split at q2
  · rename_i a
    obtain ⟨C, dx, fs, ea, c, n, l, q2⟩ := q2
    obtain rfl : ov = Value.ref a := rx
    exact nA I2 ea c n l ry fun s3 I3 => ⟨σ, _, I3, q2⟩
  · exact q2.elim
end
section
variable {X : Cx} {CX : CXT} {k : Nat} {f C : Addr} {fd : FuncData} {ps : List Str} {sp : Sp} {dvs : List V} {ds : List Value} {E : XKs} {x m : Str} {p pos apos : Pos} {e o : Expr} {es : List Expr} {ta : TE} {t : TA}
def qQ (C : Addr) (m : Str) : V → Hp → (V → Prop) → Prop
  | .ref p, H, Q => ∃ dx fs, H p = some (.ins C dx fs) ∧ fs.lookup m = none ∧ Q (.ref p)
  | _, _, _ => False
def qY (C : Addr) (m : Str) (sp : Sp) (dvs : List V) (E : XKs) (ta : TE) (t : TA) : TE := fun σ H Q => ta σ H fun x0 H1 => qQ C m x0 H1 (fun x => t σ H1 fun vs H2 => sp (x :: (vs ++ dvs)) H2 Q (E σ))
theorem de {pl : Sem Bool} (he : PE X o ta) (c : Cls X.K C) (hm : mF X.K C m f) (F : b_ X.prog X.w X.K X.mg X.base CX k f fd ps sp) (hr : Room k X.A) (hb : Binds X.K fd ps ds) (hd : Vals dvs ds) (hx : eR CX X E) (ha : PA X (e :: es) t)
    (hst : starEach (e :: es) X.env = (false, eval e X.env) :: starEach es X.env := by rfl) (hpl : (backTo pos (starEach es X.env)).any (·.1) = false := by rfl)
    (ht : eval (.Call (.Attribute o m apos) (e :: es) [] pos) X.env = (do
      let ov ← eval o X.env
      standAt apos.atName
      let (f, first) ← holding [ov] (getMethod ov m pl)
      callWith pos f first (backTo pos (starEach (e :: es) X.env)) (backToKw pos (keywordEach [] X.env))) := by rfl) :
    PE X (.Call (.Attribute o m apos) (e :: es) [] pos) (qY C m sp dvs E ta t) := by
  intro pins s σ H Q I h
  refine PySem.W.methodCall_KW (pl := pl) (thn (he pins s σ H _ I h) fun u s1 ⟨xo, H1, I1, rx, q⟩ => ?_) ht
  dsimp only at q
  unfold qQ at q
  split at q
  · rename_i a
    obtain ⟨dx, fs, ea, l, q⟩ := q
    obtain rfl : u = Value.ref a := rx
    refine m3 I1 ea c hm l ?_
    refine PySem.W.callWith_K (first := [.ref a]) (h₀ := X.base) I.ok.mod.kin hm.kp (thn (ha pos pins s1 σ _ _ I1 q) fun us s2 ⟨vs, H2, I2, r, q2⟩ => ⟨I2.kIn, ?_⟩) hst hpl
    exact oG (us := .ref a :: us) (vs := .ref a :: vs) F hr hb hd hx I2 (.cons rfl r) q2
  · exact q.elim
def qA (C : Addr) (sp : Sp) (dvs : List V) (E : XKs) (t : TA) : TE := fun σ H Q => t σ H fun vs H1 => ∀ x dx, H1 x = none → H1 dx = none → dx ≠ x →
  sp (.ref x :: (vs ++ dvs)) (upd (upd H1 dx (.own x)) x (.ins C dx [])) (fun v H2 => v = .non ∧ Q (.ref x) H2) (E σ)
theorem pJ {pins : List (Addr × Obj)} {σ : St} {H : Hp} {s : Shared} {Q : VK} {us : List Value} {vs : List V} (M : Mk X.K C f) (F : b_ X.prog X.w X.K X.mg X.base CX k f fd ps sp) (hr : Room (k + 1) X.A) (hb : Binds X.K fd ps ds) (hd : Vals dvs ds)
    (hx : eR CX X E) (I : Inv X pins σ H s) (r : Vals vs us)
    (h : ∀ x dx, H x = none → H dx = none → dx ≠ x → sp (.ref x :: (vs ++ dvs)) (upd (upd H dx (.own x)) x (.ins C dx [])) (fun v H2 => v = .non ∧ Q (.ref x) H2) (E σ)) :
    wpAny (model X.prog X.w) X.A (call (.ref C) us) (EP X pins σ Q) X.xe s := by
  have hq := h (s.heap.objs.size + 1) s.heap.objs.size (I.hok.fresh (Nat.le_succ _)) (I.hok.fresh (Nat.le_refl _)) (Nat.ne_of_lt (Nat.lt_succ_self _))
  have I2 := Inv.made (C := C) I
  have r2 : Vals (V.ref (s.heap.objs.size + 1) :: (vs ++ dvs)) (Value.ref (s.heap.objs.size + 1) :: (us ++ ds)) := .cons rfl (r.append hd)
  have hl : (Value.ref (s.heap.objs.size + 1) :: us ++ ds).length = ps.length := by
    have e := r2.length
    rw [F.len _ _ _ _ hq] at e
    exact e.symm
  refine wpAny_call (qq (f := f) I.kIn M.makes M.init (beq_iff_eq.mp M.fn) (codeAny_mono (F.run _ X.stack _ _ ⟨Value.ref (s.heap.objs.size + 1) :: us, []⟩ (Value.ref (s.heap.objs.size + 1) :: (us ++ ds)) _ _ (E σ) (hr.make C us [])
    (I2.env0.make C us []) (hb _ (Value.ref (s.heap.objs.size + 1) :: us) I2.kIn hl) r2 hq) fun r s' hq' => ?_))
  cases r with
  | error e => exact hx pins σ _ _ e s' I2 hq'
  | ok fl =>
    cases fl with
    | ret u =>
      obtain ⟨v, H', I3, rv, ev, q3⟩ := I2.after hq'
      subst ev
      exact ⟨rv, ⟨V.ref (s.heap.objs.size + 1), H', I3, rfl, q3⟩⟩
    | next => exact False.elim hq'
    | brk => exact False.elim hq'
    | cont => exact False.elim hq'
theorem jr (M : Mk X.K C f) (F : b_ X.prog X.w X.K X.mg X.base CX k f fd ps sp) (hr : Room (k + 1) X.A) (hg : Gl X x) (hm : X.mg x = some (.ref C)) (hb : Binds X.K fd ps ds) (hd : Vals dvs ds) (hx : eR CX X E)
    (hdb : (x == ("__debug__" : Str)) = false := by decide) : PE X (.Call (.Name x p) [] [] pos) (qA C sp dvs E tK) := by
  intro pins s σ H Q I h
  refine wpAny_Call_Name_kw (ka I hg hm ?_ hdb)
  exact PySem.W.callWith_K0 I.kIn M.kp (pJ (us := []) M F hr hb hd hx I .nil h)
end
end L2
set_option Elab.async false
set_option linter.all false
set_option maxRecDepth 100000
namespace L2
open PySem PySem.Spec PyProof.Rows
def dS (wi : TI) (n : Nat) (g : TG) (ks : List Nat) (tt : TT) (te : TE) : TE := fun σ H Q => wi σ H fun J H1 => ∀ D, H1 D = none → ∃ W : Nat → Nat → List V → Hp → Prop, (∃ m, W 0 m [] (upd H1 D (.lst []))) ∧
  ∀ i m ys H2, W i m ys H2 → H2 D = some (.lst ys) ∧ ((J.stop i H2 ∧ Q (.ref D) H2) ∨ (J.go i H2 ∧ ∀ x H3, J.yld i H2 x H3 → ∀ zs : St, zs.length = n →
    g x (zs ++ ks.map fun k => (σ[k]?).join) H3 fun σ4 H4 => (∃ zs4 : St, zs4.length = n ∧ σ4 = zs4 ++ ks.map fun k => (σ[k]?).join) ∧
      tt σ4 H4 fun b H5 => if b = true then te σ4 H5 fun y H6 => H6 D = some (.lst ys) ∧ ys.length < sizeLine ∧ ∃ m', m' < m ∧ W (i + 1) m' (ys ++ [y]) (upd H6 D (.lst (ys ++ [y])))
        else ∃ m', m' < m ∧ W (i + 1) m' ys H5))
theorem jC {X : Cx} {elt iter : Expr} {x : Str} {xs : List Str} {tg : Expr} {g : TG} {pos : Pos} {ifs : List Expr} {scope : Scope} {cl : List (Str × Addr)} {fr : List Str} {ks : List Nat} {wi : TI} {tt : TT} {te : TE} (hc : X.calm = true) (S : CompScope X scope cl x fr)
    (hks : ks.map (fun k => X.N[k]?) = fr.map some) (hi : PI X tg iter wi) (hg : ∀ C s₂ H₂ ex pn, PG (bV X (xs ++ fr) scope cl C s₂ H₂ ex pn) tg g)
    (ht : ∀ C s₂ H₂ ex pn, PTs (bV X (xs ++ fr) scope cl C s₂ H₂ ex pn) ifs tt) (he : ∀ C s₂ H₂ ex pn, PE (bV X (xs ++ fr) scope cl C s₂ H₂ ex pn) elt te)
    (hs : ∀ x, foldedSetIterable iter X.env x = pure x := by intro _; rfl)
    {pins : List (Addr × Obj)} {s : Shared} {σ : St} {H : Hp} {Q : VK} (I : Inv X pins σ H s) (h : dS wi xs.length g ks tt te σ H Q) (use : Option (Value → Sem Unit)) (Qp : Value → Shared → Prop)
    (hend : ∀ (D C : Addr) (H' : Hp) (s' : Shared) (mC : Str → Option Value) (f : Flow), Inv X pins σ H' s' → kj X pins H' C → s'.heap.Ns C mC → Q (.ref D) H' → compPost (model X.prog X.w) X.A X.xe use Qp (.ref D) C (.ok f) s') :
    wpAny (model X.prog X.w) X.A (comprehension (.ListComp elt [⟨tg, iter, ifs, 0⟩] scope pos) scope X.env (firstIterPos [⟨tg, iter, ifs, 0⟩] pos) (newList []) false (firstIter [⟨tg, iter, ifs, 0⟩] X.env) use) Qp X.xe s := by
  refine wpAny_comprehension_free (use := use) rfl hs S.clos S.kind S.names (thn (hi pins s σ H _ I h) fun v s1 h1 => thn h1 fun itv s2 h2 => ?_)
  obtain ⟨it, fp, tn, J, H2, e, I2, T, st2, f2, hW⟩ := h2
  subst e
  refine wpAny_newObj_type (wpAny_newFunctionEnv S.nocell (by intro y hy; simp at hy) (fun h₁ hns₁ hsb₁ => ?_) S.kind)
  dsimp only at hns₁ hsb₁ ⊢
  have hD0 : H2 s2.heap.objs.size = none := I2.hok.fresh (Nat.le_refl _)
  obtain ⟨W, ⟨m0, w0⟩, turn⟩ := hW s2.heap.objs.size hD0
  generalize hs3 : s2.heap.push { cls := .type "list", dict := none, data := .seq ([] : List Value).toArray } = g3 at hns₁ hsb₁ ⊢
  have hsz3 : g3.objs.size = s2.heap.objs.size + 1 := by rw [← hs3, Heap.size_push]
  have up3 : ∀ b o, s2.heap.get? b = some o → g3.get? b = some o := fun b o e => by rw [← hs3]; exact Heap.get?_push_of_some _ e
  have gD : g3.get? s2.heap.objs.size = some { cls := .type "list", dict := none, data := .seq ([] : List Value).toArray } := by rw [← hs3]; exact Heap.get?_push_size _ rfl
  have I3 : Inv X pins σ (upd H2 s2.heap.objs.size (.lst [])) { s2 with heap := g3 } := I2.laid (t' := s2.toks) up3 (Nat.le_refl _) ⟨by simp, [], 0, .nil, gD⟩
  have keep4 : ∀ b o, g3.get? b = some o → h₁.get? b = some o := fun b o e => (hsb₁.2 b (Nat.ne_of_lt (Heap.lt_size e))).trans (Heap.get?_push_of_some _ e)
  have hCn : (upd H2 s2.heap.objs.size (.lst [])) g3.objs.size = none := I3.hok.fresh (Nat.le_refl _)
  have fpD : ∀ b ∈ fp, b ≠ s2.heap.objs.size := fun b hb z => by
    obtain ⟨o, e, _⟩ := T.obj 0 _ st2 b hb
    exact absurd (Heap.lt_size e) (by rw [z]; exact Nat.lt_irrefl _)
  have fpC : ∀ b ∈ fp, b ≠ g3.objs.size := fun b hb z => by
    obtain ⟨o, e, _⟩ := T.obj 0 _ st2 b hb
    exact absurd (Heap.lt_size (up3 b o e)) (by rw [z]; exact Nat.lt_irrefl _)
  have fpN : ∀ b ∈ fp, (upd H2 s2.heap.objs.size (.lst [])) b = none := fun b hb => by rw [ai (fpD b hb)]; exact (f2 b hb).1
  have Ok : (bV X (xs ++ fr) scope cl g3.objs.size { s2 with heap := g3 } (upd H2 s2.heap.objs.size (.lst [])) fp (X.pn ++ pins)).Ok := by
    refine ⟨I.ok.mod, S.kind, I.ok.glob, I.ok.blt, Nat.le_refl _, fun y z c e1 e2 => I.ok.inj y z c (S.sub e1) (S.sub e2), fun y hy => ?_, (fun y c z => nomatch z), I.ok.hd, I.ok.frames, .inl rfl, fun b hb => ⟨fpC b hb, fun y c e => (f2 b hb).2.2.2.2.1 y c (S.sub e)⟩, I3.bs, Nat.le_trans I.ok.bsz I3.sz, fun b o e hb => ?_, fun b hb z => ?_, I3.stack, I3.stkFree⟩
    · have hy' : y ∈ fr := S.only y hy
      obtain ⟨c, e⟩ := I.ok.has y (S.kinds y hy')
      exact ⟨c, (S.cell hy').trans e⟩
    · rcases (f2 b hb).2.2.2.1 with q | q
      · exact I.ok.noex b o e q
      · exact absurd (Heap.lt_size e) (Nat.not_lt.mpr (Nat.le_trans I.ok.bsz q))
    · rcases List.mem_cons.mp (I3.stkSub b z) with q | q
      · exact (f2 b hb).2.1 q
      · exact (f2 b hb).2.2.1 q
  have I4 : Inv (bV X (xs ++ fr) scope cl g3.objs.size { s2 with heap := g3 } (upd H2 s2.heap.objs.size (.lst [])) fp (X.pn ++ pins)) [] ((xs.map fun _ => none) ++ ks.map fun k => (σ[k]?).join) (upd H2 s2.heap.objs.size (.lst [])) { s2 with heap := h₁, toks := s2.toks + ([] : List (Str × Value)).length } := by
    refine ⟨Ok, rfl, I3.bare, Un.kept keep4, ⟨_, hns₁, fun i y v e1 e2 e3 => ?_⟩, fun y c e => ?_, hCn, fun y c e => I3.freeC y c (S.sub e), fun p hp => ?_, I3.hok.kept keep4, ?_⟩
    · have e1' : (xs ++ fr)[i]? = some y := e1
      by_cases hix : i < xs.length
      · rw [List.getElem?_append_left (by simpa using hix)] at e2
        simp [hix] at e2
      · obtain ⟨i, rfl⟩ : ∃ i', i = xs.length + i' := ⟨i - xs.length, by omega⟩
        rw [List.getElem?_append_right (by omega)] at e1'
        rw [List.getElem?_append_right (by simp)] at e2
        have e1' : fr[i]? = some y := by simpa using e1'
        have e2 : (ks.map fun k => (σ[k]?).join)[i]? = some (some v) := by simpa using e2
        have hy : y ∈ fr := List.mem_of_getElem? e1'
        have ek : (ks.map (fun k => X.N[k]?))[i]? = (fr.map some)[i]? := by rw [hks]
        rw [List.getElem?_map, List.getElem?_map, e1'] at ek
        have e2' := e2
        rw [List.getElem?_map] at e2'
        cases hk : ks[i]? with
        | none => rw [hk] at ek; cases ek
        | some k =>
          rw [hk] at ek e2'
          have ek' : X.N[k]? = some y := by simpa using ek
          have e2'' : (σ[k]?).join = some v := by simpa using e2'
          have es : σ[k]? = some (some v) := by
            cases q : σ[k]? with
            | none => rw [q] at e2''; cases e2''
            | some z => rw [q] at e2''; rw [show z = some v from e2'']
          obtain ⟨m, hn, hl⟩ := I3.loc
          have hkd := S.kinds y hy
          obtain ⟨u, r, lk⟩ := hl k y v ek' es (by rcases hkd with q | q; exact .inr (.inl q); exact .inr (.inr q))
          refine ⟨u, r, .inr ⟨S.kin y hy, ?_⟩⟩
          rcases lk with ⟨q, _⟩ | ⟨_, c, ec, hcell⟩
          · rcases hkd with z | z <;> (rw [q] at z; cases z)
          · obtain ⟨o, ho, hd⟩ := hcell
            exact ⟨c, (S.cell hy).trans ec, o, keep4 _ _ ho, hd⟩
    · obtain ⟨v, o, ho, hd⟩ := I3.cell y c (S.sub e)
      exact ⟨v, o, keep4 _ _ ho, hd⟩
    · have hp' : p ∈ X.pn ++ pins := by simpa [bV] using hp
      obtain ⟨a1, a2, a3, a4, a5⟩ := I3.pin p hp'
      refine ⟨keep4 _ _ a1, a2, Nat.ne_of_lt (Heap.lt_size a1), fun z => ?_, a5⟩
      rcases List.mem_cons.mp (I3.stkSub p.1 z) with q | q
      · exact a3 q
      · exact a4 q
    · show ((xs.map fun _ => none) ++ ks.map _).length = (xs ++ fr).length
      have := congrArg List.length hks
      simp at this
      simp [this]
  have st4 : tn 0 h₁ := T.keep 0 _ _ st2 fun b hb o e => keep4 _ _ (up3 _ _ e)
  have stat : ∀ {H' : Hp}, (∀ b ∈ fp, H' b = none) → ∀ b ∈ fp, kj (bV X (xs ++ fr) scope cl g3.objs.size { s2 with heap := g3 } (upd H2 s2.heap.objs.size (.lst [])) fp (X.pn ++ pins)) [] H' b := fun hn b hb =>
    ⟨hn b hb, fpC b hb, Ok.exfs b hb, .inl hb, fun y c e => (f2 b hb).2.2.2.2.1 y c (S.sub e), fun p hp => (f2 b hb).2.2.2.2.2 p (by simpa [bV] using hp)⟩
  have loop : codeAny (model X.prog X.w) X.A (.compLoop (.ListComp elt [⟨tg, iter, ifs, 0⟩] scope pos) 0 (.ref it) (.ref s2.heap.objs.size) (compEnvC scope cl g3.objs.size X.env))
      (compPost (model X.prog X.w) X.A X.xe use Qp (.ref s2.heap.objs.size) g3.objs.size) { s2 with heap := h₁, toks := s2.toks + ([] : List (Str × Value)).length } := by
    refine kg (fun n s' => ∃ i ys σ' H', Inv (bV X (xs ++ fr) scope cl g3.objs.size { s2 with heap := g3 } (upd H2 s2.heap.objs.size (.lst [])) fp (X.pn ++ pins)) [] σ' H' s' ∧ (∃ zs, zs.length = xs.length ∧ σ' = zs ++ ks.map fun k => (σ[k]?).join) ∧ tn i s'.heap ∧ (∀ b ∈ fp, H' b = none) ∧ W i n ys H') ?_ m0
      ⟨0, [], _, _, I4, ⟨xs.map fun _ => none, by simp, rfl⟩, st4, fpN, w0⟩
    rintro n s' ⟨i, ys, σ', H', I5, ⟨zs, hzs, rfl⟩, st5, fr5, w5⟩
    obtain ⟨hD, hor⟩ := turn i n ys H' w5
    rcases hor with ⟨stop, qn⟩ | ⟨go, step⟩
    · refine wpAny_mono (T.done (bV X (xs ++ fr) scope cl g3.objs.size { s2 with heap := g3 } (upd H2 s2.heap.objs.size (.lst [])) fp (X.pn ++ pins)) rfl rfl rfl hc i [] s' _ H' (fun _ _ => False) I5 (stat fr5) st5 stop) (fun r s6 ⟨hr, I6⟩ => ?_) (fun _ _ f => f.elim)
      subst hr
      obtain ⟨mC, hnC, _⟩ := I6.loc
      have tr : ∀ b o, b ≠ g3.objs.size → s6.heap.get? b = some o → s6.heap.get? b = some o := fun b o hb e => e
      have U := I6.base
      have neC : ∀ b o, g3.get? b = some o → b ≠ g3.objs.size := fun b o e => Nat.ne_of_lt (Heap.lt_size e)
      have U' : Un (frs X.stack) fp (upd H2 s2.heap.objs.size (.lst [])) H' g3 s6.heap := ⟨fun b o q n hb hx => tr b o (neC b o q) (U.keep b o q n hb hx), fun b o q n hb hx => let ⟨sl, e⟩ := U.slot b o q n hb hx; ⟨sl, tr _ _ (neC b o q) e⟩, U.free, fun b o q hx => let ⟨o', e⟩ := U.there b o q hx; ⟨o', tr _ _ (neC b o q) e⟩, U.tups, U.frzs, U.tbls⟩
      have ok' : HOk X.prog X.w H' s6.heap := fun a o e => (I6.hok a o e).stay (fun b u hb q => tr b u (fun z => by
          have fC : H' g3.objs.size = none := I6.free
          rcases hb with r | r
          · rw [← z, r, e] at fC; cases fC
          · rw [← z, r] at fC; cases fC) q) (fun _ q => q) fun _ _ q => q
      have J6 : Inv X pins σ H' s6 := I3.call' (s' := s6) (ch := fp) I6.os U' ok' I6.bare fun b hb => ⟨(f2 b hb).2.2.2.1, (f2 b hb).2.1, (f2 b hb).2.2.2.2.1, (f2 b hb).2.2.2.2.2⟩
      exact hend s2.heap.objs.size g3.objs.size H' s6 mC _ J6 (I3.fpOk (Nat.le_refl _) I6.free) hnC qn
    · refine wpAny_mono (T.item (bV X (xs ++ fr) scope cl g3.objs.size { s2 with heap := g3 } (upd H2 s2.heap.objs.size (.lst [])) fp (X.pn ++ pins)) rfl rfl rfl hc i [] s' _ H' (fun _ _ => False) I5 (stat fr5) st5 go) (fun r s6 ⟨u, hr, h6⟩ => ?_) (fun _ _ f => f.elim)
      subst hr
      refine wpAny_mono h6 (fun _ s7 ⟨xv, H7, I7, r7, y7, st7, fr7⟩ => ?_) (fun _ _ f => f.elim)
      have I7' := I7.pinned (stat fr7) (T.obj _ _ st7)
      have pinsTo : ∀ {σ9 : St} {H9 : Hp} {s9 : Shared}, Inv (bV X (xs ++ fr) scope cl g3.objs.size { s2 with heap := g3 } (upd H2 s2.heap.objs.size (.lst [])) fp (X.pn ++ pins)) ([] ++ iA fp s7.heap) σ9 H9 s9 → tn (i + 1) s9.heap ∧ ∀ b ∈ fp, H9 b = none := fun {σ9 H9 s9} I9 =>
        ⟨T.keep _ _ _ st7 fun b hb o e => (I9.pin (b, o) (List.mem_append_right _ (List.mem_append_right _ (eh hb e)))).1, fun b hb => by
          obtain ⟨o, e, d⟩ := T.obj _ _ st7 b hb
          exact (I9.pin (b, o) (List.mem_append_right _ (List.mem_append_right _ (eh hb e)))).2.1⟩
      refine wpAny_mono (hg _ _ _ _ _ _ s7 _ H7 xv u _ I7' r7 (step xv H7 y7 zs hzs)) (fun _ s8 ⟨σ8, H8, I8, ⟨zs4, hz4, e8⟩, q8⟩ => ?_) (fun _ _ f => f.elim)
      subst e8
      refine wpAny_mono (ht _ _ _ _ _ _ s8 _ H8 _ I8 q8) (fun ok s9 ⟨H9, I9, q9⟩ => ?_) (fun _ _ f => f.elim)
      cases ok with
      | false =>
        rw [if_neg Bool.false_ne_true] at q9 ⊢
        obtain ⟨m', hm, w9⟩ := q9
        obtain ⟨t9, f9⟩ := pinsTo I9
        exact ⟨m', hm, i + 1, ys, _, H9, I9.unpinned, ⟨zs4, hz4, rfl⟩, t9, f9, w9⟩
      | true =>
        rw [if_pos rfl] at q9 ⊢
        refine wpAny_mono (he _ _ _ _ _ _ s9 _ H9 _ I9 q9) (fun yv s10 ⟨y, H10, I10, r10, hD10, hlen, m', hm, w10⟩ => ?_) (fun _ _ f => f.elim)
        refine wpAny_mono (cZ (X := bV X (xs ++ fr) scope cl g3.objs.size { s2 with heap := g3 } (upd H2 s2.heap.objs.size (.lst [])) fp (X.pn ++ pins)) _ s10 _ H10 (.ref s2.heap.objs.size) [y] (.ref s2.heap.objs.size) [yv]
          (fun _ H' => H' = upd H10 s2.heap.objs.size (.lst (ys ++ [y]))) I10 rfl (.cons r10 .nil) ⟨_, ys, y, rfl, rfl, hD10, hlen, rfl⟩) (fun _ s11 ⟨_, H11, I11, _, e11⟩ => ?_) (fun _ _ f => f.elim)
        subst e11
        obtain ⟨t11, f11⟩ := pinsTo I11
        exact ⟨m', hm, i + 1, ys ++ [y], _, _, I11.unpinned, ⟨zs4, hz4, rfl⟩, t11, f11, w10⟩
  exact codeAny_compStart_list loop (T.self X.A 0 _ _ _ st4 loop)
theorem cq {X : Cx} {elt iter : Expr} {x : Str} {xs : List Str} {tg : Expr} {g : TG} {pos : Pos} {ifs : List Expr} {scope : Scope} {cl : List (Str × Addr)} {fr : List Str} {ks : List Nat} {wi : TI} {tt : TT} {te : TE} (hc : X.calm = true) (S : CompScope X scope cl x fr)
    (hks : ks.map (fun k => X.N[k]?) = fr.map some) (hi : PI X tg iter wi) (hg : ∀ C s₂ H₂ ex pn, PG (bV X (xs ++ fr) scope cl C s₂ H₂ ex pn) tg g)
    (ht : ∀ C s₂ H₂ ex pn, PTs (bV X (xs ++ fr) scope cl C s₂ H₂ ex pn) ifs tt) (he : ∀ C s₂ H₂ ex pn, PE (bV X (xs ++ fr) scope cl C s₂ H₂ ex pn) elt te)
    (hs : ∀ x, foldedSetIterable iter X.env x = pure x := by intro _; rfl) : PE X (.ListComp elt [⟨tg, iter, ifs, 0⟩] scope pos) (dS wi xs.length g ks tt te) := by
  intro pins s σ H Q I h
  rw [eval_ListComp]
  refine jC hc S hks hi hg ht he hs I h none _ fun D C H' s' mC f J fp hn q => ⟨mC, hn, fun h' sb => ?_⟩
  obtain ⟨f0, f1, f2, f3, f4, f5⟩ := fp
  exact ⟨.ref D, H', J.turned (t' := s'.toks) (fun b o hb e => (sb.2 b hb).trans e) f0 f1 f3 f4 f5, rfl, q⟩
theorem lU {i0 : Nat} {x0 : Str} {px0 pos0 : Pos} {X : Cx} {elt iter : Expr} {x : Str} {xs : List Str} {tg : Expr} {g : TG} {pos : Pos} {ifs : List Expr} {scope : Scope} {cl : List (Str × Addr)} {fr : List Str} {ks : List Nat} {wi : TI} {tt : TT} {te : TE} (hN : X.N.Nodup) (hi0 : X.N[i0]? = some x0) (hx0 : Loc X.env.scope x0) (hc : X.calm = true) (S : CompScope X scope cl x fr)
    (hks : ks.map (fun k => X.N[k]?) = fr.map some) (hi : PI X tg iter wi) (hg : ∀ C s₂ H₂ ex pn, PG (bV X (xs ++ fr) scope cl C s₂ H₂ ex pn) tg g)
    (ht : ∀ C s₂ H₂ ex pn, PTs (bV X (xs ++ fr) scope cl C s₂ H₂ ex pn) ifs tt) (he : ∀ C s₂ H₂ ex pn, PE (bV X (xs ++ fr) scope cl C s₂ H₂ ex pn) elt te)
    (hs : ∀ x, foldedSetIterable iter X.env x = pure x := by intro _; rfl)
    (hsw : swapsWith (.ListComp elt [⟨tg, iter, ifs, 0⟩] scope pos) (some (.Name x0 px0)) pos0.line X.env = pure true := by rfl) (hf : X.fn x0 = true ∨ X.env.scope.names.lookup x0 = some .local := by first | exact .inl rfl | exact .inr rfl | assumption) :
    PS X (.Assign [.Name x0 px0] (.ListComp elt [⟨tg, iter, ifs, 0⟩] scope pos) pos0) (sv (dS wi xs.length g ks tt te) (e_ i0)) := by
  intro pins s σ H D I h
  rw [exec_Assign_Name_used _ _ _ _ hsw]
  refine wpAny_bind (wpAny_standAt (wpAny_bind (wpAny_bind ?_)))
  refine jC hc S hks hi hg ht he hs I h (some (assign (.Name x0 px0) X.env)) _ fun D' C H' s' mC f J fp hn q => ?_
  obtain ⟨f0, f1, f2, f3, f4, f5⟩ := fp
  refine wpAny_assign_Name (jm J hN hi0 hx0 (v := .ref D') rfl (fun s7 I7 ⟨a, sb, ha⟩ => ?_) hf)
  have hCa : C ≠ a := by
    rcases ha with e | e
    · rw [e]; exact f1
    · exact fun z => f4 _ _ e z.symm
  refine ⟨mC, hn.sameBut sb hCa, fun h' sb2 => ?_⟩
  have J2 := I7.turned (t' := s7.toks) (fun b o hb e => (sb2.2 b hb).trans e) f0 f1 f3 f4 f5
  exact wpAny_pure (wpAny_pure ⟨_, H', J2, q⟩)
end L2
set_option Elab.async false
set_option linter.all false
set_option maxRecDepth 100000
namespace L2
open PySem PySem.Spec PyProof.Rows Builtin Builtin.Str
section
variable {prog : Program} {w : World} {A : Around} {E : Value → Shared → Prop} {s : Shared} {t : Addr}
theorem o3 {xs : Array (Int × Tok)} {Q : Value → Shared → Prop} (hh : A.handled = none) (ht : s.heap.IsList t (intItems xs))
    (h : ∀ h' tk t', (∀ b o, s.heap.get? b = some o → h'.get? b = some o) → Q (.int (preSum (numAt xs) xs.size) t') { s with heap := h', toks := tk }) :
    wpAny (model prog w) A (call (.builtin "sum") [.ref t]) Q E s := by
  obtain ⟨o, ho, hc, n, hd⟩ := id ht
  have hne : t ≠ s.heap.objs.size := Nat.ne_of_lt (Heap.lt_size ho)
  have hsz : (intItems xs).size = xs.size := by simp [intItems]
  have W := (Walks.list (prog := prog) (w := w) (A := A.in1) hh s.heap.objs.size t hne (intItems xs)).toS
  rw [hsz] at W
  refine call_sum_walkAnyS (wpAny_pyIter_list ht ?_)
  refine ⟨s.heap.objs.size, _, _, _, _, _, _, numAt xs, rfl, W, ⟨⟨_, Heap.get?_push_size _ rfl, rfl, rfl⟩, ht.at fun o e => Heap.get?_push_of_some _ e⟩, fun b hb => ?_, fun i v hP => intItems_at hP, fun s' t' hm => ?_⟩
  · rcases List.mem_cons.mp hb with rfl | hb
    · exact Heap.lt_size (Heap.get?_push_size _ rfl)
    · obtain rfl := List.mem_singleton.mp hb
      exact Heap.lt_size (Heap.get?_push_of_some _ ho)
  · obtain ⟨h', g', d', tk', os'⟩ := s'
    have e1 : g' = s.gens := hm.gens
    have e2 : d' = s.drawn := hm.drawn
    have e3 : os' = s.os := hm.os
    subst e1 e2 e3
    exact h h' tk' t' fun b o e => hm.heap b o (fun hb => absurd (Heap.lt_size e) ((List.mem_singleton.mp hb) ▸ Nat.lt_irrefl _)) (Heap.get?_push_of_some _ e)
end
section
variable {X : Cx} {e a b c : Expr} {pos : Pos}
def vB (K : PySem.W.Frag) : List V → Hp → VK → Prop
  | [.ref p], H, Q => ∃ ns : List Int, (SqL K H p (ns.map V.int) ∨ SqT K H p (ns.map V.int)) ∧ Q (.int ns.sum) H
  | _, _, _ => False
theorem fV (K : PySem.W.Frag) (hc : X.calm = true) (hK : X.K = K := by rfl) : CallR X (.builtin "sum") (vB K) := by
  subst hK
  intro pins s σ H xs us Q I r h
  unfold vB at h
  split at h
  · rename_i p
    obtain ⟨ns, hq, q⟩ := h
    rcases hq with hq | hq
    · obtain ⟨u, rfl, rx⟩ := eJ r
      cases (show u = Value.ref p from rx)
      obtain ⟨its, r', pl, hz⟩ := I.list hq
      have hi := ir r'
      obtain ⟨ys, hy⟩ := hi.allInts.items
      have hn : numsOf its.toArray.toList = ns := by rw [show its.toArray.toList = its from rfl, hi.numsOf]
      have pl' := pl.isList
      rw [hy] at pl' hn
      rw [nums_intItems] at hn
      refine o3 (I.ok.hd hc) pl' fun h' tk t' hk => ?_
      rw [preSum_eq, List.take_of_length_le (by simp), hn]
      exact ⟨.int ns.sum, H, I.kept hk, ⟨_, rfl⟩, q⟩
    · exact jI hc pins s σ H _ us Q I r ⟨p, ns, rfl, hq, q⟩
  · exact h.elim
def wb (K : PySem.W.Frag) (neg : Bool) : R2
  | x, .ref p, H, Q => ∃ xs, (SqL K H p xs ∨ SqT K H p xs) ∧ cj x = true ∧ xs.all cj = true ∧ Q (.bl (neg ^^ inV x xs)) H
  | _, _, _, _ => False
theorem pC (K : PySem.W.Frag) (hK : X.K = K := by rfl) : OpR X (compareOp .NotIn) (wb K true) := by
  subst hK
  refine jQ.imp fun x y H Q h => ?_
  unfold wb at h
  split at h
  · obtain ⟨xs, h1, h2, h3, q⟩ := h
    exact ⟨_, xs, rfl, h1, h2, h3, by simpa using q⟩
  · exact h.elim
section
variable {T name id : String} {r : V → List V → Hp → VK → Prop} {o : Expr} {to : TE} {apos cpos : Pos}
end
end
end L2
namespace L2
theorem dw {l : List PySem.Str} (h : l.Nodup) : l.Nodup := h
end L2
namespace L2
def sp5 (f : V → V → V → V → V → Hp → VK → XK → Prop) : Sp := fun vs H Q E => match vs with
  | [x, y, z, u, v] => f x y z u v H Q E
  | _ => False
theorem sp5.inv {vs : List V} {H : Hp} {Q : VK} {E : XK} {f} (h : sp5 f vs H Q E) : ∃ x y z u v, vs = [x, y, z, u, v] ∧ f x y z u v H Q E := by
  unfold sp5 at h; split at h
  · exact ⟨_, _, _, _, _, rfl, h⟩
  · exact h.elim
theorem sp5.len {vs : List V} {H : Hp} {Q : VK} {E : XK} {f} (h : sp5 f vs H Q E) : vs.length = 5 := by obtain ⟨_, _, _, _, _, rfl, _⟩ := sp5.inv h; rfl
theorem uQ {n : PySem.Str} {v : V} {l : List (PySem.Str × V)} : List.lookup n ((n, v) :: l) = some v := by simp [List.lookup]
theorem fR {n m : PySem.Str} {v : V} {l : List (PySem.Str × V)} (h : (n == m) = false) : List.lookup n ((m, v) :: l) = List.lookup n l := by simp [List.lookup, h]
end L2
set_option Elab.async false
set_option linter.all false
set_option maxRecDepth 100000
set_option maxHeartbeats 1000000
namespace L2
open PySem PySem.Spec PyProof.Rows
structure yj (k : Nat) (A : Around) : Prop where
  dp : A.depth + 3 * k + 5 < recursionLimit
  un : A.units + 16 * k + 200 < cLine
section
variable {X : Cx} {CX : CXT} {k : Nat} {f : Addr} {fd : FuncData} {ps : List Str} {sp : Sp} {dvs : List V} {ds : List Value} {E : XKs} {x : Str} {p pos : Pos} {e : Expr} {es : List Expr} {t : TA}
end
end L2
set_option Elab.async false
set_option linter.all false
set_option maxRecDepth 100000
set_option maxHeartbeats 1000000
namespace L2
open PySem PySem.Spec PyProof.Rows
section
variable {X : Cx} {tg : Expr}
end
end L2
namespace L2
theorem ex1 {α : Type} {us : List α} (hl : us.length = 1) : ∃ a0, us = [a0] := by
  match us, hl with
  | [a0], _ => exact ⟨a0, rfl⟩
theorem ex2 {α : Type} {us : List α} (hl : us.length = 2) : ∃ a0 a1, us = [a0, a1] := by
  match us, hl with
  | [a0, a1], _ => exact ⟨a0, a1, rfl⟩
theorem ex3 {α : Type} {us : List α} (hl : us.length = 3) : ∃ a0 a1 a2, us = [a0, a1, a2] := by
  match us, hl with
  | [a0, a1, a2], _ => exact ⟨a0, a1, a2, rfl⟩
theorem ex4 {α : Type} {us : List α} (hl : us.length = 4) : ∃ a0 a1 a2 a3, us = [a0, a1, a2, a3] := by
  match us, hl with
  | [a0, a1, a2, a3], _ => exact ⟨a0, a1, a2, a3, rfl⟩
theorem ex5 {α : Type} {us : List α} (hl : us.length = 5) : ∃ a0 a1 a2 a3 a4, us = [a0, a1, a2, a3, a4] := by
  match us, hl with
  | [a0, a1, a2, a3, a4], _ => exact ⟨a0, a1, a2, a3, a4, rfl⟩
end L2
set_option Elab.async false
set_option linter.all false
namespace L2
open Lean Meta Simp
def ww : List Name := [`L2.vo, `L2.tC, `L2.tOp, `L2.tUn, `L2.gEqN, `L2.kT, `L2.pU, `L2.xG, `L2.fOr, `L2.wL, `L2.fPickL, `L2.fPickT, `L2.w6, `L2.wD, `L2.xI, `L2.tRetN, `L2.ut, `L2.ua, `L2.sv, `L2.e_, `L2.tIf, `L2.wU, `L2.tOr, `L2.xP, `L2.qO, `L2.tK, `L2.tCB, `L2.pR, `L2.xt, `L2.wT, `L2.tIsN, `L2.tR, `L2.tIsB, `L2.ue, `L2.oP, `L2.tSl, `L2.cs, `L2.v4, `L2.CMul, `L2.vV, `L2.tRaise, `L2.tTry, `L2.gcE, `L2.tGcT, `L2.tGc, `L2.tBM, `L2.uo, `L2.fJoinRev, `L2.CDivB, `L2.ox, `L2.r9, `L2.nW, `L2.vz, `L2.xl, `L2.ug, `L2.uj, `L2.tU, `L2.qY, `L2.qA, `L2.tDGet1, `L2.rj, `L2.tQ, `L2.tBM0, `L2.rClear]
def vH : List Name := [`L2.wz, `L2.gI, `L2.gIC, `L2.gNeg, `L2.gLe, `L2.gLt, `L2.eqS, `L2.kB, `L2.yc, `L2.vG, `L2.gMax, `L2.tj, `L2.sC, `L2.gInt, `L2.gIx, `L2.sp0, `L2.sp1, `L2.sp2, `L2.sp3, `L2.sp4, `L2.asI, `L2.asT, `L2.asB, `L2.asR, `L2.tyV, `L2.gSt, `L2.gEn, `L2.gZf, `L2.gStr, `L2.p_, `L2.gIn, `L2.gSl, `L2.ye, `L2.gMulS, `L2.uM, `L2.gRep, `L2.gRepT, `L2.gIsiT, `L2.xE, `L2.nF, `L2.xS, `L2.gStM, `L2.wc, `L2.pV, `L2.qQ, `L2.vB, `L2.gMulT]
def rdI := And.intro @L2.rY (And.intro @L2.yg (And.intro @L2.V.bl.injEq (And.intro @L2.V.str.injEq (And.intro @L2.o5 (And.intro @L2.xx (And.intro @L2.uC (And.intro @L2.vb (And.intro @L2.vf (And.intro @L2.vD (And.intro @L2.h8 (And.intro @L2.lV (And.intro @L2.nM (And.intro @L2.mR (And.intro @L2.kK (And.intro @L2.kz (And.intro @L2.kG (And.intro @L2.sM (And.intro @L2.gs (And.intro @L2.jW (And.intro @L2.lL (And.intro @L2.mq (And.intro @L2.j8 (And.intro @L2.je (And.intro @L2.j0 (And.intro @L2.vY (And.intro @L2.ic (And.intro @L2.k_ (And.intro @L2.nJ (And.intro @L2.mQ (And.intro @L2.lX (And.intro @L2.jO (And.intro @L2.l_ (And.intro @L2.sS (And.intro @L2.gE (And.intro @L2.jK (And.intro @L2.lA (And.intro @L2.mB (And.intro @L2.j1 (And.intro @L2.iW (And.intro @L2.jR (And.intro @L2.qV (And.intro @L2.fO (And.intro @L2.i4 (And.intro @L2.jG (And.intro @L2.ky (And.intro @L2.iV (And.intro @L2.iu (And.intro @L2.jc (And.intro @L2.s_ (And.intro @L2.gC (And.intro @L2.kC (And.intro @L2.lh (And.intro @L2.mH (And.intro @L2.ke (And.intro @L2.jg (And.intro @L2.jM (And.intro @L2.wV (And.intro @L2.uw (And.intro @L2.wx (And.intro @L2.uE (And.intro @L2.tI (And.intro @L2.vT (And.intro @L2.sq (And.intro @L2.tB (And.intro @L2.rG (And.intro @L2.sx (And.intro @L2.vi (And.intro @L2.sw (And.intro @L2.tz (And.intro @L2.tf (And.intro @true_and (And.intro @and_true (And.intro @and_self (And.intro @true_or (And.intro @or_true (And.intro @decide_eq_true_eq (And.intro @Bool.true_eq_false (And.intro @Bool.false_xor (And.intro @Bool.true_xor (And.intro @Bool.not_true (And.intro @Bool.not_false (And.intro @Bool.false_eq_true (And.intro @Bool.not_eq_true' (And.intro @decide_eq_false_iff_not @Classical.not_not))))))))))))))))))))))))))))))))))))))))))))))))))))))))))))))))))))))))))))))))))))
end L2
set_option Elab.async false
set_option linter.all false
set_option maxRecDepth 100000
namespace L2
namespace Srt
open PySem PyProof.Rows
def kv (κ : Keyed → Int) (xs : Array Keyed) (i : Nat) : Int := (xs[i]?.map κ).getD 0
def Up (κ : Keyed → Int) (xs : Array Keyed) (k : Nat) : Prop := ∀ i j, i ≤ j → j < k → kv κ xs i ≤ kv κ xs j
def Dn (κ : Keyed → Int) (xs : Array Keyed) (k : Nat) : Prop := ∀ i j, i ≤ j → j < k → kv κ xs j ≤ kv κ xs i
structure SB (kd : SortKind) (z : Array Keyed) (t : SortSt) : Prop where
  pm : (arrOf t).Perm z
  kn : kindOf t = kd
  fl : failedOf t = none
  pn : pendingOf t = #[]
section
variable {prog : Program} {w : World} {A : Around} {E : Value → Shared → Prop} {s : Shared} {z : Array Keyed} {κ : Keyed → Int} {kd : SortKind} {t : SortSt}
def Lts (prog : Program) (w : World) (A : Around) (s : Shared) (kd : SortKind) (κ : Keyed → Int) (z : Array Keyed) : Prop :=
  ∀ (E : Value → Shared → Prop) (p q : Keyed) (Q : Bool → Shared → Prop), p ∈ z.toList → q ∈ z.toList → Q (decide (κ p < κ q)) s → wpAny (model prog w) A (keyLt' kd p.1 q.1) Q E s
def wN (κ : Keyed → Int) (z : Array Keyed) : Prop := (z.toList.map κ).Nodup
end
section
variable {prog : Program} {w : World} {A : Around} {E : Value → Shared → Prop} {s : Shared}
theorem pairs_mem {vs : List Value} {p : Keyed} (h : p ∈ (vs.toArray.zip vs.toArray).toList) : p.1 ∈ vs ∧ p.2 = p.1 := by
  rw [Array.toList_zip] at h
  simp at h
  rw [List.zip_eq_zipWith, List.zipWith_self] at h
  obtain ⟨a, ha, e⟩ := List.mem_map.mp h
  subst e
  exact ⟨ha, rfl⟩
theorem pairs_fst (vs : List Value) : (vs.toArray.zip vs.toArray).toList.map (·.1) = vs := by
  rw [Array.toList_zip]
  exact List.map_fst_zip (Nat.le_refl _)
end
end Srt
end L2
set_option Elab.async false
set_option linter.all false
set_option maxRecDepth 100000
namespace L2
namespace Srt
open PySem PyProof.Rows
def Two (h : Heap) (p : Addr) (x y : Int) : Prop := ∃ (o : Obj) (t u : Tok) (n : Nat), h.get? p = some o ∧ o.cls = .type "tuple" ∧ o.data = .seq #[.int x t, .int y u] n
section
variable {prog : Program} {w : World} {A : Around} {E : Value → Shared → Prop} {s : Shared}
end
end Srt
end L2
set_option Elab.async false
set_option linter.all false
set_option maxRecDepth 100000
namespace L2
namespace Srt
open PySem PyProof.Rows
section
variable {prog : Program} {w : World} {A : Around} {E : Value → Shared → Prop} {R : Result → Shared → Prop} {s : Shared} {I S ax : Addr} {items : Array Value} {h₀ : Heap} {κ : Value → Int}
def Prs (h : Heap) (κ : Value → Int) (lo : Int) (v : Value) : Prop := ∃ p x y, v = .ref p ∧ Two h p x y ∧ κ v = x * 64 + y ∧ lo ≤ y ∧ y < lo + 64
end
end Srt
end L2
set_option Elab.async false
set_option linter.all false
set_option maxRecDepth 100000
namespace L2
open PySem PyProof.Rows
section
variable {X : Cx} {pins : List (Addr × Obj)} {σ : St} {H : Hp} {s : Shared}
end
end L2
set_option Elab.async false
set_option linter.all false
set_option maxRecDepth 100000
namespace L2
open PySem PyProof.Rows
section
variable {X : Cx} {pins : List (Addr × Obj)} {σ : St} {H : Hp} {s : Shared}
def cQ : Value → List Nat
  | .str x _ => x.cps.toList
  | _ => []
def IsS (v : Value) : Prop := ∃ x t, v = .str x t
abbrev InO (ls : List (List Nat)) : Prop := ls.Pairwise fun a b => ¬ b < a
theorem mw : ∀ {a b : List (List Nat)}, a.Perm b → InO a → InO b → a = b
  | [], _, p, _, _ => p.nil_eq
  | x :: r, b, p, ha, hb => by
    cases b with
    | nil => exact absurd p.length_eq (by simp)
    | cons y t =>
      have hx : x ∈ y :: t := p.mem_iff.mp (.head _)
      have hy : y ∈ x :: r := p.mem_iff.mpr (.head _)
      have e : x = y := by
        rcases List.mem_cons.mp hx with h | h
        · exact h
        · rcases List.mem_cons.mp hy with h' | h'
          · exact h'.symm
          · exact List.le_antisymm (List.not_lt.mp ((List.pairwise_cons.mp ha).1 y h')) (List.not_lt.mp ((List.pairwise_cons.mp hb).1 x h))
      subst e
      rw [mw (List.Perm.cons_inv p) (List.pairwise_cons.mp ha).2 (List.pairwise_cons.mp hb).2]
theorem iI : ∀ {vs : List Value}, (∀ v ∈ vs, IsS v) → Vals ((vs.map cQ).map T) vs
  | [], _ => .nil
  | v :: vs, h => by
    obtain ⟨x, t, rfl⟩ := h v (List.mem_cons_self ..)
    exact .cons ⟨t, rfl⟩ (iI fun u m => h u (List.mem_cons_of_mem _ m))
theorem ma : ∀ {ls : List (List Nat)} {vs : List Value}, Vals (ls.map T) vs → (∀ v ∈ vs, IsS v) ∧ vs.map cQ = ls
  | [], _, .nil => ⟨(fun _ m => nomatch m), rfl⟩
  | l :: ls, _, .cons e t => by
    obtain ⟨k, rfl⟩ := e
    obtain ⟨a, b⟩ := ma t
    refine ⟨fun v m => ?_, by rw [List.map_cons, b]; rfl⟩
    rcases List.mem_cons.mp m with rfl | m
    · exact ⟨_, _, rfl⟩
    · exact a v m
theorem iH : ∀ {vs : List Value}, (∀ v ∈ vs, IsS v) → ∃ ss, StrsAre vs ss
  | [], _ => ⟨[], .nil⟩
  | v :: vs, h => by
    obtain ⟨x, t, rfl⟩ := h v (List.mem_cons_self ..)
    obtain ⟨ss, r⟩ := iH fun u m => h u (List.mem_cons_of_mem _ m)
    exact ⟨x :: ss, .cons x t r⟩
theorem on {vs : List Value} (hv : ∀ v ∈ vs, IsS v) {xs : Array Keyed} (hp : xs.Perm (pairsOf vs)) (hs : SortedToK strKind xs (pairsOf vs).size) :
    (xs.map (·.2)).toList.Perm vs ∧ InO ((xs.map (·.2)).toList.map cQ) := by
  have pl : xs.toList.Perm (vs.toArray.zip vs.toArray).toList := Array.perm_iff_toList_perm.mp hp
  have e2 : (xs.map (·.2)).toList = xs.toList.map (·.1) := by
    rw [Array.toList_map]
    exact List.map_congr_left fun p m => (Srt.pairs_mem (pl.mem_iff.mp m)).2
  have p1 : (xs.map (·.2)).toList.Perm vs := by
    rw [e2]
    have := pl.map (·.1)
    rwa [Srt.pairs_fst] at this
  refine ⟨p1, ?_⟩
  rw [e2, List.map_map]
  have sz : xs.size = (pairsOf vs).size := hp.size_eq
  refine List.pairwise_iff_getElem.mpr fun i j hi hj hij => ?_
  have hi' : i < xs.size := by simpa using hi
  have hj' : j < xs.size := by simpa using hj
  have l := hs i j (Nat.le_of_lt hij) (by omega)
  have kk : ∀ k (h : k < xs.size), KK strKind xs k = cQ xs[k].1 := fun k h => by
    have m : xs[k] ∈ xs.toList := by simp
    obtain ⟨x, t, e⟩ := hv _ (Srt.pairs_mem (pl.mem_iff.mp m)).1
    unfold KK
    rw [Array.getElem?_eq_getElem h]
    show (strKind.keyOf xs[k].1).getD strKind.dflt = _
    rw [e]; rfl
  rw [kk i hi', kk j hj'] at l
  have l' : decide (cQ xs[j].1 < cQ xs[i].1) = false := l
  simp only [List.getElem_map, Array.getElem_toList, Function.comp_apply]
  exact of_decide_eq_false l'
def mN (K : PySem.W.Frag) : List V → Hp → VK → Prop
  | [.ref p], H, Q => ∃ ls : List (List Nat), SqL K H p (ls.map T) ∧ ls.length < 64 ∧ ∀ out : List (List Nat), out.Perm ls → InO out → ∀ l, H l = none → Q (.ref l) (upd H l (.lst (out.map T)))
  | _, _, _ => False
theorem qM (K : PySem.W.Frag) (hK : X.K = K := by rfl) : CallR X (.builtin "sorted") (mN K) := by
  subst hK
  intro pins s σ H xs us Q I r h
  unfold mN at h
  split at h
  · rename_i p
    obtain ⟨ls, hq, h64, q⟩ := h
    obtain ⟨u, rfl, rx⟩ := eJ r
    cases (show u = Value.ref p from rx)
    obtain ⟨its, r', pl, hz⟩ := I.list hq
    obtain ⟨hv, em⟩ := ma r'
    obtain ⟨ss, hS⟩ := iH hv
    have len : its.length < 64 := by have := r'.length; rw [List.length_map] at this; omega
    refine sortedK strKind_oneLt pl.isList hS.keysOf (fun v₁ v₂ rest e => keyKind_strs (by rw [← e]; exact hS)) len fun st' hp hs => ?_
    obtain ⟨p1, o1⟩ := on hv hp hs
    generalize hout : (arrOf st').map (·.2) = out at p1 o1
    obtain ⟨c, ea⟩ := sortedAll_at s.heap its out
    have kp : ∀ b o, s.heap.get? b = some o → (sortedAll s.heap its out).get? b = some o := fun _ _ e => sortedAll_old e
    have hv2 : ∀ v ∈ out.toList, IsS v := fun v m => hv v (p1.mem_iff.mp m)
    have pm : (out.toList.map cQ).Perm ls := by have := p1.map cQ; rwa [em] at this
    refine ⟨.ref (s.heap.objs.size + 1), _, I.laid (t' := s.toks) (a := s.heap.objs.size + 1) kp (Nat.le_succ _) (show ObjOk X.prog X.w _ (sortedAll s.heap its out) _ (.lst ((out.toList.map cQ).map T)) from ⟨?_, out.toList, c, iI hv2, by rw [Array.toArray_toList]; exact ea⟩), rfl, q _ pm o1 _ (I.hok.fresh (Nat.le_succ _))⟩
    rw [List.length_map, pm.length_eq, sizeLine_eq]; omega
  · exact h.elim
end
section
variable {X : Cx} {tg : Expr}
end
open Lean Meta Simp
def sT : List Name := ww ++ [`L2.tDIn, `L2.tDNotIn, `L2.tDGet, `L2.tTryN]
def tJ : List Name := vH ++ [`L2.mN, `L2.gSortD, `L2.gListD, `L2.gAny, `L2.wb, `L2.wm]
end L2
set_option Elab.async false
set_option linter.all false
set_option maxRecDepth 100000
namespace L2
open PySem PyProof.Rows
theorem qt {l : List Nat} {c : Nat} (h : l ≠ []) (hc : c < 256) : Txt.count ⟨⟨l⟩⟩ ⟨#[c]⟩ = ((spN c l).length : Int) - 1 := by
  have e := congrArg List.length (qy l c)
  rw [List.length_map] at e
  have h1 : (decide ((⟨⟨l⟩⟩ : Str).length < (⟨#[c]⟩ : Str).length) || decide (Builtin.Str.strKind ⟨⟨l⟩⟩ < Builtin.Str.strKind ⟨#[c]⟩)) = false := by
    have a1 : ¬ (⟨⟨l⟩⟩ : Str).length < (⟨#[c]⟩ : Str).length := by
      have : 0 < l.length := List.length_pos_iff.mpr h
      show ¬ l.length < 1
      omega
    have a2 : Builtin.Str.strKind ⟨#[c]⟩ = 1 := by
      unfold Builtin.Str.strKind
      rw [if_pos (by simp [hc])]
    have a3 : ¬ Builtin.Str.strKind ⟨⟨l⟩⟩ < 1 := by
      unfold Builtin.Str.strKind
      split
      · decide
      · split <;> decide
    rw [a2, decide_eq_false a1, decide_eq_false a3]; rfl
  unfold Txt.split at e
  rw [if_neg (ne_true_of_eq_false h1)] at e
  unfold Txt.count
  by_cases hf : (Builtin.Str.occurrences ⟨⟨l⟩⟩ ⟨#[c]⟩ 0 (⟨⟨l⟩⟩ : Str).length ((⟨⟨l⟩⟩ : Str).length + 1)).isEmpty = true
  · rw [if_pos hf] at e
    rw [← e, List.isEmpty_iff.mp hf]; rfl
  · rw [if_neg hf, length_partsBetween] at e
    rw [← e]; omega
section
variable {X : Cx} {pins : List (Addr × Obj)} {σ : St} {H : Hp} {s : Shared}
def uA : V → List V → Hp → VK → Prop
  | .str x, [.str y], H, Q => ∃ c, cs y = [c] ∧ c < 256 ∧ cs x ≠ [] ∧ Q (.int ((spN c (cs x)).length - 1)) H
  | _, _, _, _ => False
theorem qf : MtR X "str.count" uA := by
  intro pins s σ H x xs v us Q I rx rs h
  unfold uA at h
  split at h
  · rename_i x y
    obtain ⟨c, hc, h2, h0, q⟩ := h
    obtain ⟨t, rfl⟩ := rx
    obtain ⟨u, rfl, t', rfl⟩ := eJ rs
    have hy := uK hc
    subst hy
    obtain ⟨⟨l⟩⟩ := x
    refine SC.count ⟨.int _, H, I.kept (t' := s.toks + 1) (fun b o e => e), ⟨_, rfl⟩, ?_⟩
    rw [qt (l := l) h0 h2]; exact q
  · exact h.elim
end
namespace Srt
section
variable {prog : Program} {w : World} {A : Around} {E : Value → Shared → Prop} {s : Shared}
end
end Srt
section
variable {X : Cx} {pins : List (Addr × Obj)} {σ : St} {H : Hp} {s : Shared}
end
end L2
set_option Elab.async false
set_option linter.all false
set_option maxRecDepth 100000
namespace L2
namespace Rv
open PySem PyProof.Rows
section
variable {prog : Program} {w : World} {A : Around} {E : Value → Shared → Prop} {s : Shared}
end
end Rv
open PySem PyProof.Rows
section
variable {X : Cx} {pins : List (Addr × Obj)} {σ : St} {H : Hp} {s : Shared}
end
end L2
set_option Elab.async false
set_option linter.all false
set_option maxRecDepth 100000
namespace L2
open PySem PyProof.Rows
def FE (J : It) (g : TG) (tb : TS) (D : d4) (σ : St) (H : Hp) : Prop := ∃ W : Nat → Nat → St → Hp → Prop, (∃ m, W 0 m σ H) ∧ ∀ i m σ H, W i m σ H →
  (J.stop i H ∧ D.nx σ H) ∨ (J.go i H ∧ ∃ N : St → Hp → Prop, (∀ σ' H', N σ' H' → ∃ m', m' < m ∧ W (i + 1) m' σ' H') ∧ ∀ x H', J.yld i H x H' → g x σ H' fun σ2 H2 => tb { D with nx := N, ct := N, bk := D.nx } σ2 H2)
theorem ph {J : It} {H1 : Hp} {D : Addr} {Q : VK} {σr : St} {tt : TT} {te : TE} (h : ∃ W : Nat → Nat → List V → Hp → Prop, (∃ m, W 0 m [] (upd H1 D (.lst []))) ∧
      ∀ i m ys H2, W i m ys H2 → H2 D = some (.lst ys) ∧ ((J.stop i H2 ∧ Q (.ref D) H2) ∨ (J.go i H2 ∧ ∀ x H3, J.yld i H2 x H3 →
        tt (some x :: σr) H3 fun b H4 => if b = true then te (some x :: σr) H4 fun y H5 => H5 D = some (.lst ys) ∧ ys.length < sizeLine ∧ ∃ m', m' < m ∧ W (i + 1) m' (ys ++ [y]) (upd H5 D (.lst (ys ++ [y])))
          else ∃ m', m' < m ∧ W (i + 1) m' ys H4))) :
    ∃ W : Nat → Nat → List V → Hp → Prop, (∃ m, W 0 m [] (upd H1 D (.lst []))) ∧
      ∀ i m ys H2, W i m ys H2 → H2 D = some (.lst ys) ∧ ((J.stop i H2 ∧ Q (.ref D) H2) ∨ (J.go i H2 ∧ ∀ x H3, J.yld i H2 x H3 → ∀ zs : St, zs.length = 1 →
        e_ 0 x (zs ++ σr) H3 fun σ4 H4 => (∃ zs4 : St, zs4.length = 1 ∧ σ4 = zs4 ++ σr) ∧
          tt σ4 H4 fun b H5 => if b = true then te σ4 H5 fun y H6 => H6 D = some (.lst ys) ∧ ys.length < sizeLine ∧ ∃ m', m' < m ∧ W (i + 1) m' (ys ++ [y]) (upd H6 D (.lst (ys ++ [y])))
            else ∃ m', m' < m ∧ W (i + 1) m' ys H5)) := by
  obtain ⟨W, h0, h⟩ := h
  refine ⟨W, h0, fun i m ys H2 w => ?_⟩
  obtain ⟨h1, h2⟩ := h i m ys H2 w
  refine ⟨h1, h2.imp id fun ⟨g1, g2⟩ => ⟨g1, fun x H3 y zs hz => ?_⟩⟩
  obtain ⟨z, rfl⟩ := ex1 hz
  exact ⟨⟨[some x], rfl, rfl⟩, g2 x H3 y⟩
theorem cmR {ta : TA} {ks : List Nat} {σ : St} {H : Hp} {Q : VK} {tt : TT} {te : TE} (C : Hp → Prop) (hC : ∀ D ys, H D = none → C (upd H D (.lst ys))) (n : Nat) (p : Nat → Bool) (f : Nat → V) (hl : ∀ R : List V → Hp → Prop, R [.int n] H → ta σ H R) (hz : n ≤ sizeLine)
    (hp : ∀ k, k < n → ∀ H (R : Bool → Hp → Prop), C H → R (p k) H → tt (some (.int k) :: ks.map fun k => (σ[k]?).join) H R) (hf : ∀ k, k < n → p k = true → ∀ H (R : VK), C H → R (f k) H → te (some (.int k) :: ks.map fun k => (σ[k]?).join) H R)
    (q : ∀ D, H D = none → Q (.ref D) (upd H D (.lst (((List.range n).filter p).map f)))) : dS (pZ ta) 1 (e_ 0) ks tt te σ H Q := by
  have hz' : (n : Int) < 2 ^ 62 := by
    have : sizeLine < 2 ^ 62 := by rw [sizeLine_eq]; decide
    have h2 : n < 2 ^ 62 := by omega
    have e : ((2 ^ 62 : Nat) : Int) = (2 : Int) ^ 62 := by decide
    omega
  refine hl _ ⟨n, rfl, by omega, hz', ?_⟩
  rw [Int.toNat_natCast]
  intro D hD
  have P : ∀ x ∈ (List.range n).map fun k => V.int (k : Nat), ∃ k, k < n ∧ x = .int (k : Nat) := fun x hx => by
    obtain ⟨c, hc, rfl⟩ := List.mem_map.mp hx; exact ⟨c, by simpa using hc, rfl⟩
  let hd : V → Nat := fun v => match v with | .int i => i.toNat | _ => 0
  have hhd : ∀ c : Nat, hd (.int c) = c := fun c => Int.toNat_natCast c
  refine ph (oZ (qx n) C (fun v => p (hd v)) (fun v => f (hd v)) (by simpa using hz) (fun x hx H R c' r => ?_) (fun x hx hb H R c' r => ?_) D hD (fun ys => hC D ys hD) ?_)
  · obtain ⟨c, hc, rfl⟩ := P x hx
    rw [hhd] at r
    exact hp c hc H R c' r
  · obtain ⟨c, hc, rfl⟩ := P x hx
    rw [hhd] at r hb
    exact hf c hc hb H R c' r
  · have e : (((List.range n).map fun k => V.int (k : Nat)).filter fun v => p (hd v)).map (fun v => f (hd v)) = ((List.range n).filter p).map f := by
      rw [List.filter_map, List.map_map]
      have e1 : ((fun v => p (hd v)) ∘ fun k : Nat => V.int (k : Nat)) = p := by funext k; simp only [Function.comp, hhd]
      have e2 : ((fun v => f (hd v)) ∘ fun k : Nat => V.int (k : Nat)) = f := by funext k; simp only [Function.comp, hhd]
      rw [e1, e2]
    rw [e]; exact q D hD
inductive A2 {α β : Type} (R : α → β → Prop) : List α → List β → Prop
  | nil : A2 R [] []
  | cons {a : α} {b : β} {as : List α} {bs : List β} : R a b → A2 R as bs → A2 R (a :: as) (b :: bs)
namespace A2
variable {α β : Type} {R S : α → β → Prop}
theorem len {as : List α} {bs : List β} (h : A2 R as bs) : as.length = bs.length := by
  induction h with
  | nil => rfl
  | cons _ _ ih => simp [ih]
theorem app {as : List α} {bs : List β} (h : A2 R as bs) {cs : List α} {ds : List β} (g : A2 R cs ds) : A2 R (as ++ cs) (bs ++ ds) := by
  induction h with
  | nil => exact g
  | cons r _ ih => exact .cons r ih
theorem snoc {as : List α} {bs : List β} {a : α} {b : β} (h : A2 R as bs) (r : R a b) : A2 R (as ++ [a]) (bs ++ [b]) := h.app (.cons r .nil)
end A2
def sp6 (f : V → V → V → V → V → V → Hp → VK → XK → Prop) : Sp := fun vs H Q E => match vs with
  | [x, y, z, u, v, a] => f x y z u v a H Q E
  | _ => False
def sp7 (f : V → V → V → V → V → V → V → Hp → VK → XK → Prop) : Sp := fun vs H Q E => match vs with
  | [x, y, z, u, v, a, b] => f x y z u v a b H Q E
  | _ => False
theorem sp7.inv {vs : List V} {H : Hp} {Q : VK} {E : XK} {f} (h : sp7 f vs H Q E) : ∃ x y z u v a b, vs = [x, y, z, u, v, a, b] ∧ f x y z u v a b H Q E := by
  unfold sp7 at h
  split at h
  · exact ⟨_, _, _, _, _, _, _, rfl, h⟩
  · exact h.elim
theorem sp7.len {vs : List V} {H : Hp} {Q : VK} {E : XK} {f} (h : sp7 f vs H Q E) : vs.length = 7 := by obtain ⟨_, _, _, _, _, _, _, rfl, _⟩ := sp7.inv h; rfl
theorem ex7 {α : Type} {us : List α} (hl : us.length = 7) : ∃ a0 a1 a2 a3 a4 a5 a6, us = [a0, a1, a2, a3, a4, a5, a6] := by
  match us, hl with
  | [a0, a1, a2, a3, a4, a5, a6], _ => exact ⟨_, _, _, _, _, _, _, rfl⟩
open Lean Meta Simp
def sY : List Name := sT ++ [`L2.fm, `Option.join]
def sN : List Name := tJ ++ [`L2.uA, `L2.gSortT, `L2.sp5, `L2.sp6, `L2.sp7]
def wl : Name → Bool
  | .str _ s => s.startsWith "sp_"
  | _ => false
end L2
set_option Elab.async false
set_option linter.all false
set_option maxRecDepth 100000
namespace L2
open PySem PyProof.Rows Builtin Builtin.Str
section
variable {X : Cx}
end
end L2
set_option Elab.async false
set_option linter.all false
set_option maxRecDepth 100000
namespace L2
open PySem PyProof.Rows
section
variable {prog : Program} {w : World} {A : Around} {E : Value → Shared → Prop} {s : Shared} {it d : Addr} {i ep : Nat} {od : Obj} {es : Array DictEntry}
theorem sr {Q : Value → Shared → Prop} (lo : (d == sysModules) = false) (ho : s.heap.get? d = some od) (ex : od.ExactDict) (hd : od.data = .dict es ep)
    (q : Q (.ref s.heap.objs.size) { s with heap := s.heap.push { cls := .type "dict_keyiterator", data := .fields #[.ref d, .int 0 0, .int es.size 0, .int ep 0] } }) : wpAny (model prog w) A (pyIter (.ref d)) Q E s := by
  have ty : s.TypeIs (.ref d) "dict" := ⟨od, ho, ex.1⟩
  refine wpAny_pyIter_slot ty F.slot_dict_iter (wpAny_call_entry F.slot_dict_iter ty F.entry_dict_iter ?_ (F.args_dict_iter_1 _))
  unfold Builtin.«dict.__iter__» Builtin.Dict.dictSlotNone
  refine wpAny_bind (wpAny_bind (wpAny_notOrdered_dict ty ?_)); show wpAny _ _ (pure (Value.ref d)) _ _ s
  refine wpAny_pure ?_; show wpAny _ _ (Builtin.Dict.showsAll d >>= _) _ _ s
  unfold Builtin.Dict.showsAll; rw [if_neg (by rw [lo]; exact Bool.false_ne_true)]
  refine wpAny_bind (wpAny_pure (wpAny_bind (wpAny_dictEntries ho hd (wpAny_bind (wpAny_dictEpoch ho hd ?_)))))
  refine wpAny_bind (wpAny_newObj_type (wpAny_pure ⟨_, rfl, "dict_keyiterator", _, ⟨_, Heap.get?_push_size _ rfl, rfl⟩, F.slot_dict_keyiterator_next.lookup, by simpa [rawInt] using q⟩))
theorem rS {e : DictEntry} {Q : Option Value → Shared → Prop} (hi : s.heap.IsKeyIter it d i es.size ep) (hod : s.heap.get? d = some od) (hdd : od.data = .dict es ep) (hx : es[i]? = some e)
    (q : ∀ h', h'.IsKeyIter it d (i + 1) es.size ep → Heap.SameBut it s.heap h' → Q (some e.key) { s with heap := h' }) : wpAny (model prog w) A (pyNext (.ref it)) Q E s := by
  obtain ⟨o, ho, hc, hd⟩ := id hi
  have ty := hi.typeIs
  unfold pyNext
  refine wpAny_bind (wpAny_attempt (wpAny_callSpecial?_slot (name := Str.ofString "__next__") ty F.slot_dict_keyiterator_next (wpAny_call_entry F.slot_dict_keyiterator_next ty F.entry_dict_keyiterator_next ?_ (F.args_dict_keyiterator_next_1 _))))
  refine wpAny_bind (wpAny_pure (wpAny_bind (wpAny_bind ?_)))
  first | refine wpAny_bind (wpAny_typeNameOfWhole_keyiter ty (wpAny_pure (wpAny_bind (wpAny_fieldsOf ho hd ?_)))) | refine wpAny_bind (wpAny_typeNameOf_keyiter ty (wpAny_pure (wpAny_bind (wpAny_fieldsOf ho hd ?_))))
  simp only [show Builtin.Dict_items.ownsTuple "dict_keyiterator" = false by decide, Bool.false_eq_true, if_false]
  show wpAny _ _ (if (Value.ref d == Value.none) = true then _ else _) _ _ s; rw [if_neg (show ¬ ((Value.ref d == Value.none) = true) from Bool.false_ne_true)]
  refine wpAny_bind (wpAny_pure (wpAny_bind (wpAny_dictEntries hod hdd ?_))); rw [if_neg (by simp)]
  refine wpAny_bind (wpAny_pure (wpAny_bind (wpAny_dictEpoch hod hdd ?_))); rw [if_neg (by simp)]
  refine wpAny_pure ?_
  have lt : i < es.size := (Array.getElem?_eq_some_iff.mp hx).1
  have ee : es[i] = e := (Array.getElem?_eq_some_iff.mp hx).2
  simp only [show ¬ ((i : Int) < 0) from by omega, if_false, Int.toNat_natCast, Array.getElem?_eq_getElem lt]; refine wpAny_bind ?_
  first | refine wpAny_bind (wpAny_typeNameOfWhole_keyiter ty (wpAny_pure (wpAny_bind (wpAny_isOneOf_keyiter ty ?_)))) | refine wpAny_bind (wpAny_typeNameOf_keyiter ty (wpAny_pure (wpAny_bind (wpAny_isOneOf_keyiter ty ?_))))
  show wpAny _ _ (setField (.ref it) 1 (rawInt ((i : Int) + 1)) >>= _) _ _ s; refine wpAny_bind (wpAny_setField ho hd (by simp) ?_)
  have hi' : (s.heap.update it (Obj.mapFields (·.setIfInBounds 1 (rawInt ((i : Int) + 1))))).IsKeyIter it d (i + 1) es.size ep := ⟨_, Heap.get?_update_self _ ho (Obj.isFreed_of_fields (Obj.data_mapFields hd _)), (Obj.cls_mapFields ..).trans hc, by rw [Obj.data_mapFields hd]; simp [rawInt]⟩
  refine wpAny_bind (wpAny_holding (wpAny_bind (wpAny_isOneOf_keyiter (s := { s with heap := s.heap.update it (Obj.mapFields (·.setIfInBounds 1 (rawInt ((i : Int) + 1)))) }) hi'.typeIs ?_)))
  show wpAny _ _ (pure es[i].key) _ _ _; rw [ee]
  exact wpAny_pure (wpAny_pure ⟨_, rfl, wpAny_pure (q _ hi' (Heap.SameBut.update ..))⟩)
theorem uI {Q : Option Value → Shared → Prop} (hh : A.handled = none) (hi : s.heap.IsKeyIter it d i es.size ep) (hod : s.heap.get? d = some od) (hdd : od.data = .dict es ep) (hx : es.size ≤ i)
    (q : ∀ h', Heap.ExtBut it s.heap h' → Q none { s with heap := h' }) : wpAny (model prog w) A (pyNext (.ref it)) Q E s := by
  obtain ⟨o, ho, hc, hd⟩ := id hi
  have ty := hi.typeIs
  unfold pyNext
  refine wpAny_bind (wpAny_attempt (wpAny_callSpecial?_slot (name := Str.ofString "__next__") ty F.slot_dict_keyiterator_next (wpAny_call_entry F.slot_dict_keyiterator_next ty F.entry_dict_keyiterator_next ?_ (F.args_dict_keyiterator_next_1 _))))
  refine wpAny_bind (wpAny_pure (wpAny_bind (wpAny_bind ?_)))
  first | refine wpAny_bind (wpAny_typeNameOfWhole_keyiter ty (wpAny_pure (wpAny_bind (wpAny_fieldsOf ho hd ?_)))) | refine wpAny_bind (wpAny_typeNameOf_keyiter ty (wpAny_pure (wpAny_bind (wpAny_fieldsOf ho hd ?_))))
  simp only [show Builtin.Dict_items.ownsTuple "dict_keyiterator" = false by decide, Bool.false_eq_true, if_false]
  show wpAny _ _ (if (Value.ref d == Value.none) = true then _ else _) _ _ s; rw [if_neg (show ¬ ((Value.ref d == Value.none) = true) from Bool.false_ne_true)]
  refine wpAny_bind (wpAny_pure (wpAny_bind (wpAny_dictEntries hod hdd ?_))); rw [if_neg (by simp)]
  refine wpAny_bind (wpAny_pure (wpAny_bind (wpAny_dictEpoch hod hdd ?_))); rw [if_neg (by simp)]
  refine wpAny_pure ?_
  simp only [show ¬ ((i : Int) < 0) from by omega, if_false, Int.toNat_natCast, Array.getElem?_eq_none hx]; refine wpAny_bind ?_
  first | refine wpAny_bind (wpAny_typeNameOfWhole_keyiter ty (wpAny_pure ?_)) | refine wpAny_bind (wpAny_typeNameOf_keyiter ty (wpAny_pure ?_))
  show wpAny _ _ (setField (.ref it) 0 .none >>= _) _ _ s; refine wpAny_bind (wpAny_setField ho hd (by simp) ?_)
  show wpAny _ _ (newExc (.type "StopIteration") [] >>= _) _ _ _; refine wpAny_bind ?_
  simp only [newExc, newTuple]; refine wpAny_bind (wpAny_newObj_type ?_ (by size_fits))
  refine wpAny_bind (m := firstArgMember _ _) (wpAny_of_eq (a := Value.none) (by first | rfl | (simp only [firstArgMember]; rfl)) (wpAny_newObj_type ?_ (by size_fits)))
  simp only [raiseNew]; refine wpAny_bind (wpAny_handled ?_)
  rw [show A.in1.handled = none from hh]; refine wpAny_bind (wpAny_pure (wpAny_throw ?_))
  refine wpAny_bind (wpAny_isInstance (T := "StopIteration") (b := true) ⟨_, Heap.get?_push_size _ rfl, rfl⟩ isSubtype_stop (wpAny_pure (q _ (((Heap.SameBut.update ..).extBut.push _).push _))))
end
abbrev Pt := List Nat × List Nat
def ltP (a b : Pt) : Prop := a.1 < b.1 ∨ (a.1 = b.1 ∧ a.2 < b.2)
instance (a b : Pt) : Decidable (ltP a b) := by unfold ltP; infer_instance
namespace Srt
def ym (h : Heap) (p : Addr) (e : Pt) : Prop := ∃ (o : Obj) (t u : Tok) (n : Nat), h.get? p = some o ∧ o.cls = .type "tuple" ∧ o.data = .seq #[.str ⟨⟨e.1⟩⟩ t, .str ⟨⟨e.2⟩⟩ u] n
section
variable {prog : Program} {w : World} {A : Around} {E : Value → Shared → Prop} {s : Shared}
end
end Srt
section
variable {X : Cx} {pins : List (Addr × Obj)} {σ : St} {H : Hp} {s : Shared}
abbrev kP (e : Pt) : List Key := [.inr ⟨⟨e.1⟩⟩, .inr ⟨⟨e.2⟩⟩]
theorem nO {a b : Pt} (h : kP a = kP b) : a = b := by
  obtain ⟨a1, a2⟩ := a
  obtain ⟨b1, b2⟩ := b
  simp only [kP, List.cons.injEq, and_true] at h
  obtain ⟨h1, h2⟩ := h
  injection h1 with h1; injection h1 with h1; injection h1 with h1
  injection h2 with h2; injection h2 with h2; injection h2 with h2
  rw [h1, h2]
end
def CEl (J : It) (n : Nat) (g : TG) (ks : List Nat) (tt : TT) (te : TE) (σ : St) (H1 : Hp) (Q : VK) : Prop := ∀ D, H1 D = none → ∃ W : Nat → Nat → List V → Hp → Prop, (∃ m, W 0 m [] (upd H1 D (.lst []))) ∧
  ∀ i m ys H2, W i m ys H2 → H2 D = some (.lst ys) ∧ ((J.stop i H2 ∧ Q (.ref D) H2) ∨ (J.go i H2 ∧ ∀ x H3, J.yld i H2 x H3 → ∀ zs : St, zs.length = n →
    g x (zs ++ ks.map fun k => (σ[k]?).join) H3 fun σ4 H4 => (∃ zs4 : St, zs4.length = n ∧ σ4 = zs4 ++ ks.map fun k => (σ[k]?).join) ∧
      tt σ4 H4 fun b H5 => if b = true then te σ4 H5 fun y H6 => H6 D = some (.lst ys) ∧ ys.length < sizeLine ∧ ∃ m', m' < m ∧ W (i + 1) m' (ys ++ [y]) (upd H6 D (.lst (ys ++ [y])))
        else ∃ m', m' < m ∧ W (i + 1) m' ys H5))
theorem xB {K : PySem.W.Frag} {tl : TE} {n : Nat} {g : TG} {ks : List Nat} {tt : TT} {te : TE} {σ : St} {H : Hp} {Q : VK} (h : tl σ H fun x H1 => ∃ a, x = .ref a ∧ (∃ xs, SqL K H1 a xs) ∧ CEl (Itl K a) n g ks tt te σ H1 Q) : dS (lJ K tl) n g ks tt te σ H Q := h
theorem xK {K : PySem.W.Frag} {n : Nat} {g : TG} {ks : List Nat} {tt : TT} {te : TE} {σ : St} {H1 : Hp} {Q : VK} (a : Addr) (xs : List V) (P : Addr → Nat → List V → Hp → Prop) (hz : xs.length < sizeLine)
    (h0 : ∀ D, H1 D = none → P D 0 [] (upd H1 D (.lst []))) (hD : ∀ D i ys H', P D i ys H' → H' D = some (.lst ys) ∧ SqL K H' a xs ∧ ys.length ≤ i)
    (hs : ∀ D i y ys H' (zs : St) (N1 : VK) (N0 : Hp → Prop), xs[i]? = some y → P D i ys H' → zs.length = n → (∀ v H6, H6 D = some (.lst ys) → P D (i + 1) (ys ++ [v]) (upd H6 D (.lst (ys ++ [v]))) → N1 v H6) → (∀ H6, P D (i + 1) ys H6 → N0 H6) →
      g y (zs ++ ks.map fun k => (σ[k]?).join) H' fun σ4 H4 => (∃ zs4 : St, zs4.length = n ∧ σ4 = zs4 ++ ks.map fun k => (σ[k]?).join) ∧ tt σ4 H4 fun b H5 => if b = true then te σ4 H5 N1 else N0 H5)
    (hd : ∀ D ys H', P D xs.length ys H' → Q (.ref D) H') : CEl (Itl K a) n g ks tt te σ H1 Q := by
  intro D hDn
  refine ⟨fun i m ys H' => m = xs.length - i ∧ i ≤ xs.length ∧ P D i ys H', ⟨_, rfl, Nat.zero_le _, h0 D hDn⟩, ?_⟩
  rintro i m ys H' ⟨rfl, hi, p⟩
  obtain ⟨d1, d2, d3⟩ := hD D i ys H' p
  refine ⟨d1, ?_⟩
  rcases Nat.lt_or_ge i xs.length with lt | ge
  · refine .inr ⟨⟨xs, xs[i], d2, by simp [lt]⟩, ?_⟩
    rintro x H3 ⟨rfl, hx⟩ zs hzs
    exact hs D i x ys _ zs _ _ (hx xs d2) p hzs (fun v H6 h6 p6 => ⟨h6, by omega, _, by omega, rfl, lt, p6⟩) fun H6 p6 => ⟨_, by omega, rfl, lt, p6⟩
  · obtain rfl : i = xs.length := Nat.le_antisymm hi ge
    exact .inl ⟨⟨xs, d2, Nat.le_refl _⟩, hd D ys H' p⟩
section
variable {X : Cx} {pos : Pos}
end
open Lean Meta Simp
def sQ : List Name := sY ++ [`L2.qP, `L2.rExtT, `L2.tPar3]
def r6 : List Name := sN ++ [`L2.gSortDT, `L2.gRp]
end L2
set_option Elab.async false
set_option linter.all false
set_option maxRecDepth 100000
namespace L2
open PySem PyProof.Rows
theorem qN {H : Hp} {a : Addr} {o : HO} (h : H a = some o) : upd H a o = H := by
  funext b
  by_cases e : b = a
  · subst e; rw [ad, h]
  · rw [ai e]
def isD : HO → Bool
  | .dK _ => true
  | .dT _ => true
  | _ => false
def dl : HO → Nat
  | .dK kvs => kvs.length
  | .dT kvs => kvs.length
  | _ => 0
def jq (H : Hp) (u : HO) (i : Nat) (x v : V) : Prop := match u with
  | .dK kvs => ∃ k, kvs[i]? = some (k, v) ∧ x = kV k
  | .dT kvs => ∃ k q, kvs[i]? = some (k, v) ∧ x = .ref q ∧ H q = some (.tup (k.map kV))
  | _ => False
theorem tG {P : Program} {w : World} {k : Key} {u : Value} (h : (bM P w).is k u = true) : RelV (kV k) u := by
  cases k with
  | inl i => obtain ⟨t, z⟩ := Value.isInt_shape h; exact ⟨t, z⟩
  | inr x => obtain ⟨t, z⟩ := Value.isStrOf_shape h; exact ⟨t, z⟩
theorem ud {α β : Type} {R : α → β → Prop} {xs : List α} {ys : List β} (h : Paired R xs ys) : ∀ {i : Nat} {y : β}, ys[i]? = some y → ∃ x, xs[i]? = some x ∧ R x y := by
  induction h with
  | nil => intro i y e; simp at e
  | cons r _ ih =>
    intro i y e
    cases i with
    | zero => cases e; exact ⟨_, rfl, r⟩
    | succ i => exact ih (i := i) (by simpa using e)
section
variable {X : Cx} {pins : List (Addr × Obj)} {σ : St} {H : Hp} {s : Shared} {a : Addr}
theorem oj (I : Inv X pins σ H s) {u : HO} (hu : isD u = true) (x : ObjOk X.prog X.w H s.heap a u) : ∃ (o : Obj) (es : Array DictEntry) (ep : Nat), s.heap.get? a = some o ∧ o.ExactDict ∧ o.data = .dict es ep ∧ (a == sysModules) = false ∧ es.size = dl u ∧
    ∀ i e, es[i]? = some e → ∃ x v, jq H u i x v ∧ RelV x e.key ∧ RelV v e.val := by
  cases u with
  | dK kvs =>
    obtain ⟨z, lo, vs, rel, o, es, ep, ho, ex, hd, hk, hp, hn⟩ := x
    have hl : es.size = vs.length := by rw [← hp.length]; simp
    refine ⟨o, es, ep, ho, ex, hd, lo, by rw [hl]; exact rel.length.symm, fun i e he => ?_⟩
    have hi : i < vs.length := by rw [← hl]; exact (Array.getElem?_eq_some_iff.mp he).1
    obtain ⟨p1, p2⟩ := hp.get? (e := e) (k := vs[i].1) (v := vs[i].2) (by rw [Array.getElem?_toList]; exact he) (by simp [hi])
    obtain ⟨⟨k, v⟩, hx, e1, e2⟩ := ud rel (y := vs[i]) (List.getElem?_eq_getElem hi)
    have e1' : k = vs[i].1 := e1
    refine ⟨kV k, v, ⟨k, hx, rfl⟩, by rw [e1']; exact tG p1, by rw [p2]; exact e2⟩
  | dT kvs =>
    obtain ⟨z, lo, xs, rel, o, es, ep, ho, ex, hd, he, hn⟩ := x
    have hl : es.size = xs.length := size_of_entries he
    refine ⟨o, es, ep, ho, ex, hd, lo, by rw [hl]; exact (Paired.length rel).symm, fun i e h => ?_⟩
    rw [entry_at he i] at h
    obtain ⟨q, hq, rfl⟩ := Option.map_eq_some_iff.mp h
    obtain ⟨⟨k, v⟩, hx, e1, e2, e3⟩ := ud rel hq
    exact ⟨.ref q.2.1, v, ⟨k, q.2.1, hx, rfl, e2⟩, rfl, e3⟩
  | _ => cases hu
theorem Inv.freeze (I : Inv X pins σ H s) {u : HO} (hu : isD u = true) (e : Rd H a u) : ∃ (o : Obj) (es : Array DictEntry) (ep : Nat), s.heap.get? a = some o ∧ o.ExactDict ∧ o.data = .dict es ep ∧ (a == sysModules) = false ∧ es.size = dl u ∧ (H a = some u ∨ H a = some (.frz o u)) ∧ Inv X pins σ (upd H a (.frz o u)) s := by
  have x := p7 I.hok e
  obtain ⟨o, es, ep, ho, ex, hd, lo, hz, _⟩ := oj I hu x
  rcases e with e | ⟨o', e⟩
  · refine ⟨o, es, ep, ho, ex, hd, lo, hz, .inl e, ?_⟩
    have no : ∀ b w, H b = some w → isD w = false → b ≠ a := fun b w q n z => by rw [z, e] at q; cases q; rw [hu] at n; cases n
    exact I.write (x := a) (e := a) (t' := s.toks) (h' := s.heap) (by rw [e]; cases u <;> first | exact True.intro | cases hu) (.inl rfl) (fun _ _ _ q => q) ⟨o, ho⟩ ⟨ho, x.stay (fun _ _ _ q => q) (fun c z => by rw [ai (no c _ z rfl)]; exact z) fun c xs z => by rw [ai (no c _ z rfl)]; exact z⟩
  · have h1 := (show ObjOk X.prog X.w H s.heap a (.frz o' u) from I.hok a _ e).1
    rw [ho] at h1; cases h1
    refine ⟨o, es, ep, ho, ex, hd, lo, hz, .inr e, ?_⟩
    rw [qN e]; exact I
theorem Inv.thaw (I : Inv X pins σ H s) {o : Obj} {u : HO} (e : H a = some (.frz o u)) (nf : ∀ o' u', X.H₀ a ≠ some (.frz o' u')) : Inv X pins σ (upd H a u) s := by
  have na : ∀ b, H b = none → b ≠ a := fun b n z => by rw [z, e] at n; cases n
  have no : ∀ b w, H b = some w → (∀ o x, w ≠ .frz o x) → b ≠ a := fun b w q n z => by rw [z, e] at q; cases q; exact n _ _ rfl
  have own : ∀ {d : Addr} c, H c = some (.own d) → upd H a u c = some (.own d) := fun c z => by rw [ai (no c _ z (by intro _ _ y; cases y))]; exact z
  have tup : ∀ c xs, H c = some (.tup xs) → upd H a u c = some (.tup xs) := fun c xs z => by rw [ai (no c _ z (by intro _ _ y; cases y))]; exact z
  refine ⟨I.ok, I.os, I.bare, ⟨I.base.keep, I.base.slot, fun b ob q n hx => ?_, I.base.there, fun b xs q => tup b xs (I.base.tups b xs q), fun b ob x q => ?_, fun b ps q => ?_⟩, I.loc, I.cell, ?_, fun x c ec => ?_, fun p hp => ?_, fun b ob q => ?_, I.len⟩
  · have h := I.base.free b ob q n hx
    rw [ai (na b h)]; exact h
  · have h := I.base.frzs b ob x q
    by_cases eb : b = a
    · subst eb; exact absurd q (nf _ _)
    · rw [ai eb]; exact h
  · obtain ⟨m, h⟩ := I.base.tbls b ps q
    exact ⟨m, by rw [ai (no b _ h (by intro _ _ z; cases z))]; exact h⟩
  · rw [ai (na _ I.free)]; exact I.free
  · have h := I.freeC x c ec
    rw [ai (na _ h)]; exact h
  · obtain ⟨p1, p2, p3⟩ := I.pin p hp
    exact ⟨p1, by rw [ai (na _ p2)]; exact p2, p3⟩
  · by_cases eb : b = a
    · subst eb
      rw [ad] at q; cases q
      exact (show ObjOk X.prog X.w H s.heap b (.frz o u) from I.hok _ _ e).2.stay (fun _ _ _ z => z) own tup
    · rw [ai eb] at q
      exact (I.hok b ob q).stay (fun _ _ _ z => z) own tup
def Th (H H1 : Hp) (P : Hp → Prop) : Prop := ∃ a o u, H1 a = some (.frz o u) ∧ ((H a = some u ∧ isD u = true ∧ P (upd H1 a u)) ∨ (H a = some (.frz o u) ∧ P H1))
theorem Inv.th {H1 : Hp} {s1 : Shared} {σ1 : St} {P : Hp → Prop} (I : Inv X pins σ H s) (I1 : Inv X pins σ1 H1 s1) (h : Th H H1 P) : ∃ H2, Inv X pins σ1 H2 s1 ∧ P H2 := by
  obtain ⟨a, o, u, e1, ⟨e2, hu, q⟩ | ⟨e2, q⟩⟩ := h
  · exact ⟨_, I1.thaw e1 (fun o' u' z => by rw [I.base.frzs _ _ _ z] at e2; cases e2; cases hu), q⟩
  · exact ⟨_, I1, q⟩
def uk (te : TE) : TE := fun σ H Q => te σ H fun v H1 => Th H H1 (Q v)
theorem r8 {e : Expr} {te : TE} (he : PE X e te) : PE X e (uk te) := by
  intro pins s σ H Q I h
  refine thn (he pins s σ H _ I h) fun u s1 ⟨v, H1, I1, r, q⟩ => ?_
  obtain ⟨H2, I2, q2⟩ := I.th I1 q
  exact ⟨v, H2, I2, r, q2⟩
def Itk (a : Addr) (o : Obj) (u : HO) : It :=
  ⟨fun i H => i < dl u ∧ H a = some (.frz o u), fun i H x H' => H' = H ∧ ∃ v, jq H u i x v, fun i H => dl u ≤ i ∧ H a = some (.frz o u)⟩
theorem ki (I : Inv X pins σ H s) {o : Obj} {es : Array DictEntry} {ep : Nat} {u : HO} (hu : isD u = true) (hd : o.data = .dict es ep) (e : H a = some (.frz o u)) : s.heap.get? a = some o ∧ es.size = dl u ∧ ∀ i e, es[i]? = some e → ∃ x v, jq H u i x v ∧ RelV x e.key ∧ RelV v e.val := by
  obtain ⟨ho, x⟩ := (show ObjOk X.prog X.w H s.heap a (.frz o u) from I.hok a _ e)
  obtain ⟨o', es', ep', ho', ex, hd', lo, hz, h⟩ := oj I hu x
  rw [ho] at ho'; cases ho'
  rw [hd] at hd'
  injection hd' with h2 h3
  subst h2
  exact ⟨ho, hz, h⟩
theorem pA {P : Program} {w : World} {K : PySem.W.Frag} {tg : Expr} (a it : Addr) (o : Obj) (es : Array DictEntry) (ep : Nat) (u : HO) (hu : isD u = true) (hd : o.data = .dict es ep) : pF P w K tg (Itk a o u) [it] it (fun i h => h.IsKeyIter it a i es.size ep) where
  mem := by simp
  obj := fun i h st b hb => by
    have e : b = it := by simpa using hb
    subst e
    obtain ⟨o, e, c, d⟩ := st
    exact ⟨o, e, fun v z => by rw [d] at z; cases z⟩
  keep := fun i h h' st k => st.at fun o e => k it (by simp) o e
  item := by
    intro X hP hw hK hc i pins s σ H E I hf st hg
    subst hP hw hK
    obtain ⟨hi, hq⟩ := hg
    obtain ⟨ho, hz, hen⟩ := ki I hu hd hq
    obtain ⟨f0, f1, f2, f3, f4, f5⟩ := hf it (by simp)
    have hx : es[i]? = some es[i] := by simp [show i < es.size by omega]
    obtain ⟨x, v, en, rx, rv⟩ := hen i _ hx
    refine rS st ho hd hx fun h' st' sb => ?_
    have I1 : Inv X pins σ H { s with heap := h' } := I.turned (t' := s.toks) (fun b o hb e => (sb.2 b hb).trans e) f0 f1 f3 f4 f5
    obtain ⟨oi, e, c, d⟩ := id st'
    exact ⟨_, rfl, jw (s := { s with heap := h' }) e c d (by decide) ⟨x, H, I1, rx, ⟨rfl, v, en⟩, st', fun b hb => (hf b hb).1⟩⟩
  done := by
    intro X hP hw hK hc i pins s σ H E I hf st hg
    subst hP hw hK
    obtain ⟨hi, hq⟩ := hg
    obtain ⟨ho, hz, hen⟩ := ki I hu hd hq
    obtain ⟨f0, f1, f2, f3, f4, f5⟩ := hf it (by simp)
    exact uI (I.ok.hd hc) st ho hd (by omega) fun h' eb => ⟨rfl, I.turned (t' := s.toks) (fun b o hb e => eb b o hb e) f0 f1 f3 f4 f5⟩
  self := fun _ _ _ _ _ st h => wpAny_pyIter_keyiter st h
def tX (td : TE) : TI := fun σ H R => td σ H fun x H1 => ∃ b u, x = .ref b ∧ isD u = true ∧ Rd H1 b u ∧ ∀ o, (H1 b = some u ∨ H1 b = some (.frz o u)) → R (Itk b o u) (upd H1 b (.frz o u))
theorem sK {tg l : Expr} {td : TE} (hl : PE X l td) : PI X tg l (tX td) := by
  intro pins s σ H R I h
  refine thn (hl pins s σ H _ I h) fun v s1 ⟨x, H1, I1, rx, b, u, ex, hu, hr, q⟩ => ?_
  subst ex
  cases (show v = Value.ref b from rx)
  obtain ⟨o, es, ep, ho, ex, hd, lo, hz, hor, I2⟩ := I1.freeze hu hr
  refine sr lo ho ex hd ?_
  refine ⟨s1.heap.objs.size, [s1.heap.objs.size], _, Itk b o u, _, rfl, I2.kept (t' := s1.toks) (fun c ob e => Heap.get?_push_of_some _ e), pA b _ o es ep u hu hd, ⟨_, Heap.get?_push_size _ rfl, rfl, rfl⟩, fun c hc => ?_, q o hor⟩
  rw [List.mem_singleton.mp hc]
  exact I2.fpOk (Nat.le_refl _) (I2.hok.fresh (Nat.le_refl _))
end
theorem w_ {td : TE} {n : Nat} {g : TG} {ks : List Nat} {tt : TT} {te : TE} {σ : St} {H : Hp} {Q : VK} (h : td σ H fun x H1 => ∃ b u, x = .ref b ∧ isD u = true ∧ Rd H1 b u ∧ ∀ o, (H1 b = some u ∨ H1 b = some (.frz o u)) → CEl (Itk b o u) n g ks tt te σ (upd H1 b (.frz o u)) fun v H2 => Th H H2 (Q v)) : uk (dS (tX td) n g ks tt te) σ H Q := h
theorem wQ {n : Nat} {g : TG} {ks : List Nat} {tt : TT} {te : TE} {σ : St} {H1 : Hp} {Q : VK} (b : Addr) (o : Obj) (u : HO) (P : Addr → Nat → List V → Hp → Prop) (hz : dl u < sizeLine)
    (h0 : ∀ D, H1 D = none → P D 0 [] (upd H1 D (.lst []))) (hD : ∀ D i ys H', P D i ys H' → H' D = some (.lst ys) ∧ H' b = some (.frz o u) ∧ ys.length ≤ i)
    (hs : ∀ D i y v ys H' (zs : St) (N1 : VK) (N0 : Hp → Prop), i < dl u → jq H' u i y v → P D i ys H' → zs.length = n → (∀ v H6, H6 D = some (.lst ys) → P D (i + 1) (ys ++ [v]) (upd H6 D (.lst (ys ++ [v]))) → N1 v H6) → (∀ H6, P D (i + 1) ys H6 → N0 H6) →
      g y (zs ++ ks.map fun k => (σ[k]?).join) H' fun σ4 H4 => (∃ zs4 : St, zs4.length = n ∧ σ4 = zs4 ++ ks.map fun k => (σ[k]?).join) ∧ tt σ4 H4 fun b H5 => if b = true then te σ4 H5 N1 else N0 H5)
    (hd : ∀ D ys H', P D (dl u) ys H' → Q (.ref D) H') : CEl (Itk b o u) n g ks tt te σ H1 Q := by
  intro D hDn
  refine ⟨fun i m ys H' => m = dl u - i ∧ i ≤ dl u ∧ P D i ys H', ⟨_, rfl, Nat.zero_le _, h0 D hDn⟩, ?_⟩
  rintro i m ys H' ⟨rfl, hi, p⟩
  obtain ⟨d1, d2, d3⟩ := hD D i ys H' p
  refine ⟨d1, ?_⟩
  rcases Nat.lt_or_ge i (dl u) with lt | ge
  · refine .inr ⟨⟨lt, d2⟩, ?_⟩
    rintro x H3 ⟨rfl, v, hx⟩ zs hzs
    exact hs D i x v ys _ zs _ _ lt hx p hzs (fun v H6 h6 p6 => ⟨h6, by omega, _, by omega, rfl, lt, p6⟩) fun H6 p6 => ⟨_, by omega, rfl, lt, p6⟩
  · obtain rfl : i = dl u := Nat.le_antisymm hi ge
    exact .inl ⟨⟨Nat.le_refl _, d2⟩, hd D ys H' p⟩
section
variable {X : Cx} {pos : Pos}
def ul (K : PySem.W.Frag) (n : Nat) (t : TGs) : TG := fun v σ H Q => ∃ a xs, v = .ref a ∧ SqL K H a xs ∧ xs.length = n ∧ t xs σ H Q
theorem tE (K : PySem.W.Frag) {es : List Expr} {k : Nat} {t : TGs} {n : Nat} (hc : X.calm = true) (h : PGs X es t) (hK : X.K = K := by rfl)
    (hn : (assignEach es X.env).length = n := by rfl) (hst : (assignEach es X.env).findIdx? (·.1) = none := by rfl) : PG X (.Tuple es k pos) (ul K n t) := by
  subst hK
  intro pins s σ H v u Q I r hw
  obtain ⟨a, xs, e1, hq, hl, hw⟩ := hw
  subst e1
  cases r
  obtain ⟨its, rv, pl, hz⟩ := I.list hq
  have hl2 := rv.length
  rw [PyProof.Rows.assign_Tuple]
  refine wpAny_bind (wpAny_standAt ?_)
  have hs : (assignEach es X.env).length = its.toArray.size := by rw [hn, List.size_toArray]; omega
  unfold unpack
  rw [hs, hst]
  refine wpAny_bind (wpAny_holding (PySem.W.kun_itemsOf (I.ok.hd hc) pl.isList fun h' hx => ?_))
  exact h pins _ σ H xs _ Q (I.kept (t' := s.toks) fun b o e => hx b o (Nat.ne_of_lt (Heap.lt_size e)) e) (by simpa using rv) hw
end
section
variable {X : Cx}
end
end L2
set_option Elab.async false
set_option linter.all false
set_option maxRecDepth 100000
namespace L2
open PySem PyProof.Rows
section
variable {prog : Program} {w : World} {A : Around} {E : Value → Shared → Prop} {s : Shared} {it d : Addr} {i ep : Nat} {od : Obj} {es : Array DictEntry}
theorem rB {Q : Value → Shared → Prop} (lo : (d == sysModules) = false) (ho : s.heap.get? d = some od) (ex : od.ExactDict)
    (q : Q (.ref s.heap.objs.size) { s with heap := s.heap.push { cls := .type "dict_items", data := .fields #[.ref d] } }) : wpAny (model prog w) A (call (.builtin "dict.items") [.ref d]) Q E s := by
  have ty : s.TypeIs (.ref d) "dict" := ⟨od, ho, ex.1⟩
  refine wpAny_call_entry PySem.F.slot_dict_items ty PySem.F.entry_dict_items ?_ (PySem.F.args_dict_items_1 _)
  unfold Builtin.«dict.items» Builtin.Dict.noArgs
  refine wpAny_bind (wpAny_bind (wpAny_notOrdered_dict ty ?_)); show wpAny _ _ (pure d) _ _ s
  refine wpAny_pure ?_; show wpAny _ _ (Builtin.Dict.showsAll d >>= _) _ _ s
  unfold Builtin.Dict.showsAll; rw [if_neg (by rw [lo]; exact Bool.false_ne_true)]
  exact wpAny_bind (wpAny_pure (wpAny_bind (wpAny_newObj_type (wpAny_pure ⟨_, rfl, q⟩))))
theorem jS {v : Addr} {Q : Value → Shared → Prop} (hv : s.heap.IsItemsView v d) (ho : s.heap.get? d = some od) (hd : od.data = .dict es ep)
    (q : Q (.ref s.heap.objs.size) { s with heap := s.heap.push { cls := .type "dict_itemiterator", data := .fields #[.none, .bool false, .ref d, .int 0 0, .int es.size 0, .int ep 0, .none, .none] } }) : wpAny (model prog w) A (pyIter (.ref v)) Q E s := by
  obtain ⟨ov, hov, hcv, hdv⟩ := id hv
  refine wpAny_pyIter_slot hv.typeIs F.slot_dict_items_iter (wpAny_call_entry F.slot_dict_items_iter hv.typeIs F.entry_dict_items_iter ?_ (F.args_dict_items_iter_1 _))
  unfold Builtin.«dict_items.__iter__» Builtin.Dict_items.dictOf Builtin.Dict_items.newIterator
  refine wpAny_bind (wpAny_pure (wpAny_bind (wpAny_bind (wpAny_field hov hdv (x := .ref d) rfl (wpAny_pure (wpAny_bind (wpAny_bind (wpAny_dictEntries ho hd (wpAny_bind (wpAny_dictEpoch ho hd ?_)))))))) ))
  simp only [show Builtin.Dict_items.ownsTuple "dict_itemiterator" = true by decide, if_true]
  refine wpAny_newObj_type (wpAny_pure ⟨_, rfl, "dict_itemiterator", _, ⟨_, Heap.get?_push_size _ rfl, rfl⟩, F.slot_dict_itemiterator_next.lookup, by simpa [rawInt, Builtin.Dict_items.ownedTupleFields] using q⟩)
    (by simp only [sizeOk, Builtin.Dict_items.ownedTupleFields, List.size_toArray, List.length_append, List.length_cons, List.length_nil, sizeLine_eq]; omega)
theorem rW {e : DictEntry} {ok ov : Value} {Q : Option Value → Shared → Prop} (hit : IsItemIter s.heap it d i es.size ep ok ov) (hod : s.heap.get? d = some od) (hdd : od.data = .dict es ep) (hx : es[i]? = some e)
    (q : ∀ h', IsItemIterOut h' it d (i + 1) es.size ep e.key e.val s.heap.objs.size → h'.get? s.heap.objs.size = some { cls := .type "tuple", data := .seq #[e.key, e.val] } → h'.objs.size = s.heap.objs.size + 1 →
      (∀ b o, b ≠ it → s.heap.get? b = some o → h'.get? b = some o) → Q (some (.ref s.heap.objs.size)) { s with heap := h' }) : wpAny (model prog w) A (pyNext (.ref it)) Q E s := by
  obtain ⟨hp, g, dr, tk, os⟩ := s
  have ty : Shared.TypeIs ⟨hp, g, dr, tk, os⟩ (.ref it) "dict_itemiterator" := ⟨_, hit, rfl⟩
  unfold pyNext
  refine wpAny_bind (wpAny_attempt (wpAny_callSpecial?_slot (name := Str.ofString "__next__") ty F.slot_dict_itemiterator_next (wpAny_call_entry F.slot_dict_itemiterator_next ty F.entry_dict_itemiterator_next ?_ (F.args_dict_itemiterator_next_1 _))))
  refine wpAny_bind (wpAny_pure (wpAny_bind (wpAny_bind ?_)))
  first | refine wpAny_bind (wpAny_typeNameOfWhole_itemiter ty (wpAny_pure (wpAny_bind (wpAny_fieldsOf hit rfl ?_)))) | refine wpAny_bind (wpAny_typeNameOf_itemiter ty (wpAny_pure (wpAny_bind (wpAny_fieldsOf hit rfl ?_))))
  simp only [show Builtin.Dict_items.ownsTuple "dict_itemiterator" = true by decide, if_true]
  show wpAny _ _ (if (Value.ref d == Value.none) = true then _ else _) _ _ _; rw [if_neg (show ¬ ((Value.ref d == Value.none) = true) from Bool.false_ne_true)]
  refine wpAny_bind (wpAny_pure (wpAny_bind (wpAny_dictEntries hod hdd ?_))); rw [if_neg (by simp)]
  refine wpAny_bind (wpAny_pure (wpAny_bind (wpAny_dictEpoch hod hdd ?_))); rw [if_neg (by simp)]
  refine wpAny_pure ?_
  have lt : i < es.size := (Array.getElem?_eq_some_iff.mp hx).1
  have ee : es[i] = e := (Array.getElem?_eq_some_iff.mp hx).2
  simp only [show ¬ ((i : Int) < 0) from by omega, if_false, Int.toNat_natCast, Array.getElem?_eq_getElem lt]; refine wpAny_bind ?_
  first | refine wpAny_bind (wpAny_typeNameOfWhole_itemiter ty (wpAny_pure (wpAny_bind (wpAny_isOneOf_itemiter ty ?_)))) | refine wpAny_bind (wpAny_typeNameOf_itemiter ty (wpAny_pure (wpAny_bind (wpAny_isOneOf_itemiter ty ?_))))
  show wpAny _ _ (setField (.ref it) 3 (rawInt ((i : Int) + 1)) >>= _) _ _ ⟨hp, g, dr, tk, os⟩; refine wpAny_bind (wpAny_setField_rec hit (by simp) fun a1 n1 b1 => ?_)
  replace b1 : Heap.SameBut it hp a1 := b1
  replace n1 : IsItemIter a1 it d (i + 1) es.size ep ok ov := by
    have z : ((i + 1 : Nat) : Int) = (i : Int) + 1 := by omega
    unfold IsItemIter; rw [z]; simpa [rawInt] using n1
  have ty1 : Shared.TypeIs ⟨a1, g, dr, tk, os⟩ (.ref it) "dict_itemiterator" := ⟨_, n1, rfl⟩
  refine wpAny_bind (wpAny_holding (wpAny_bind (wpAny_isOneOf_itemiter ty1 (wpAny_bind (wpAny_isOneOf_itemiter ty1 ?_)))))
  show wpAny _ _ (Builtin.Dict_items.pairFromOwner (.ref it) 6 es[i].key es[i].val) _ _ ⟨a1, g, dr, tk, os⟩
  rw [ee]; unfold Builtin.Dict_items.pairFromOwner; refine wpAny_bind (wpAny_newTuple ?_)
  have n2 : IsItemIter (a1.push { cls := .type "tuple", data := .seq #[e.key, e.val] }) it d (i + 1) es.size ep ok ov := Heap.get?_push_of_some _ n1
  generalize ha : a1.push { cls := .type "tuple", data := .seq #[e.key, e.val] } = a2 at n2
  have z1 : a1.objs.size = hp.objs.size := b1.1
  have il : it < hp.objs.size := Heap.lt_size hit
  have t2 : a2.get? hp.objs.size = some { cls := .type "tuple", data := .seq #[e.key, e.val] } := by rw [← ha, ← z1]; exact Heap.get?_push_size _ rfl
  have z2 : a2.objs.size = hp.objs.size + 1 := by rw [← ha, Heap.size_push, z1]
  have k2 : ∀ b o, b ≠ it → hp.get? b = some o → a2.get? b = some o := fun b o hb z => by rw [← ha]; exact Heap.get?_push_of_some _ (b1.extBut b o hb z)
  show wpAny _ _ (Builtin.Dict_items.ownedTupleIsFree (.ref it) >>= _) _ _ ⟨a2, g, dr, tk, os⟩; rw [z1]; clear ha n1 b1 ty1 z1 a1
  refine wpAny_bind ?_; unfold Builtin.Dict_items.ownedTupleIsFree
  refine wpAny_bind (wpAny_field n2 rfl (x := .none) rfl (wpAny_pure ?_)); simp only [if_true]
  refine wpAny_bind (wpAny_field n2 rfl (x := ok) rfl (wpAny_bind (wpAny_field n2 rfl (x := ov) rfl (wpAny_bind (wpAny_setField_rec n2 (by simp) fun a3 n3 b3 => ?_)))))
  replace b3 : Heap.SameBut it a2 a3 := b3
  replace n3 : IsItemIter a3 it d (i + 1) es.size ep e.key ov := n3
  refine wpAny_bind (wpAny_setField_rec n3 (by simp) fun a4 n4 b4 => ?_)
  replace b4 : Heap.SameBut it a3 a4 := b4
  replace n4 : IsItemIter a4 it d (i + 1) es.size ep e.key e.val := n4
  refine wpAny_bind (wpAny_setField_rec n4 (by simp) fun a5 n5 b5 => ?_)
  replace b5 : Heap.SameBut it a4 a5 := b5
  replace n5 : IsItemIterOut a5 it d (i + 1) es.size ep e.key e.val hp.objs.size := n5
  refine wpAny_bind (wpAny_setField_rec n5 (by simp) fun a6 n6 b6 => ?_)
  replace b6 : Heap.SameBut it a5 a6 := b6
  replace n6 : IsItemIterOut a6 it d (i + 1) es.size ep e.key e.val hp.objs.size := n6
  have up : ∀ b o, b ≠ it → a2.get? b = some o → a6.get? b = some o := fun b o hb z => b6.extBut b o hb (b5.extBut b o hb (b4.extBut b o hb (b3.extBut b o hb z)))
  exact wpAny_bind (wpAny_letGo (wpAny_pure (wpAny_pure ⟨_, rfl, wpAny_pure (q a6 n6 (up _ _ (Nat.ne_of_gt il) t2) (by show a6.objs.size = hp.objs.size + 1; rw [b6.1, b5.1, b4.1, b3.1, z2]) fun b o hb z => up b o hb (k2 b o hb z))⟩)))
theorem m8 {ok ov : Value} {Q : Option Value → Shared → Prop} (hh : A.handled = none) (hit : IsItemIter s.heap it d i es.size ep ok ov) (hod : s.heap.get? d = some od) (hdd : od.data = .dict es ep) (hx : es.size ≤ i)
    (q : ∀ h', Heap.ExtBut it s.heap h' → Q none { s with heap := h' }) : wpAny (model prog w) A (pyNext (.ref it)) Q E s := by
  have ty : s.TypeIs (.ref it) "dict_itemiterator" := ⟨_, hit, rfl⟩
  unfold pyNext
  refine wpAny_bind (wpAny_attempt (wpAny_callSpecial?_slot (name := Str.ofString "__next__") ty F.slot_dict_itemiterator_next (wpAny_call_entry F.slot_dict_itemiterator_next ty F.entry_dict_itemiterator_next ?_ (F.args_dict_itemiterator_next_1 _))))
  refine wpAny_bind (wpAny_pure (wpAny_bind (wpAny_bind ?_)))
  first | refine wpAny_bind (wpAny_typeNameOfWhole_itemiter ty (wpAny_pure (wpAny_bind (wpAny_fieldsOf hit rfl ?_)))) | refine wpAny_bind (wpAny_typeNameOf_itemiter ty (wpAny_pure (wpAny_bind (wpAny_fieldsOf hit rfl ?_))))
  simp only [show Builtin.Dict_items.ownsTuple "dict_itemiterator" = true by decide, if_true]
  show wpAny _ _ (if (Value.ref d == Value.none) = true then _ else _) _ _ s; rw [if_neg (show ¬ ((Value.ref d == Value.none) = true) from Bool.false_ne_true)]
  refine wpAny_bind (wpAny_pure (wpAny_bind (wpAny_dictEntries hod hdd ?_))); rw [if_neg (by simp)]
  refine wpAny_bind (wpAny_pure (wpAny_bind (wpAny_dictEpoch hod hdd ?_))); rw [if_neg (by simp)]
  refine wpAny_pure ?_
  simp only [show ¬ ((i : Int) < 0) from by omega, if_false, Int.toNat_natCast, Array.getElem?_eq_none hx]; refine wpAny_bind ?_
  first | refine wpAny_bind (wpAny_typeNameOfWhole_itemiter ty (wpAny_pure ?_)) | refine wpAny_bind (wpAny_typeNameOf_itemiter ty (wpAny_pure ?_))
  show wpAny _ _ (setField (.ref it) 2 .none >>= _) _ _ s; refine wpAny_bind (wpAny_setField hit rfl (by simp) ?_)
  show wpAny _ _ (newExc (.type "StopIteration") [] >>= _) _ _ _; refine wpAny_bind ?_
  simp only [newExc, newTuple]; refine wpAny_bind (wpAny_newObj_type ?_ (by size_fits))
  refine wpAny_bind (m := firstArgMember _ _) (wpAny_of_eq (a := Value.none) (by first | rfl | (simp only [firstArgMember]; rfl)) (wpAny_newObj_type ?_ (by size_fits)))
  simp only [raiseNew]; refine wpAny_bind (wpAny_handled ?_)
  rw [show A.in1.handled = none from hh]; refine wpAny_bind (wpAny_pure (wpAny_throw ?_))
  refine wpAny_bind (wpAny_isInstance (T := "StopIteration") (b := true) ⟨_, Heap.get?_push_size _ rfl, rfl⟩ isSubtype_stop (wpAny_pure (q _ (((Heap.SameBut.update ..).extBut.push _).push _))))
end
section
variable {X : Cx} {pins : List (Addr × Obj)} {σ : St} {H : Hp} {s : Shared}
theorem Inv.turned1 {h' : Heap} {t' : Nat} {it : Addr} {oi : Obj} (I : Inv X pins σ H s) (gi : s.heap.get? it = some oi) (hi : ∃ o, h'.get? it = some o ∧ o.isFreed = false)
    (k : ∀ b o, b ≠ it → s.heap.get? b = some o → h'.get? b = some o) (fi : kj X pins H it) : ∃ h2 : Heap, h2.objs.size = s.heap.objs.size ∧ Inv X pins σ H { s with heap := h2, toks := t' } ∧ ∀ b o, h2.get? b = some o → h'.get? b = some o := by
  obtain ⟨o2, g2, z2⟩ := hi
  refine ⟨s.heap.update it fun _ => o2, by rw [Heap.size_update], I.turned (fun b o hb q => (Heap.get?_update_other _ _ (Ne.symm hb)).trans q) fi.1 fi.2.1 fi.2.2.2.1 fi.2.2.2.2.1 fi.2.2.2.2.2, fun b o q => ?_⟩
  by_cases b2 : b = it
  · subst b2
    rw [Heap.get?_update_self _ gi z2] at q
    cases q; exact g2
  · rw [Heap.get?_update_other _ _ (Ne.symm b2)] at q
    exact k b o b2 q
def Iti (a : Addr) (o : Obj) (u : HO) : It :=
  ⟨fun i H => i < dl u ∧ H a = some (.frz o u), fun i H y H' => ∃ p x v, H p = none ∧ y = .ref p ∧ jq H u i x v ∧ H' = upd H p (.tup [x, v]), fun i H => dl u ≤ i ∧ H a = some (.frz o u)⟩
theorem mY {P : Program} {w : World} {K : PySem.W.Frag} {elts : List Expr} {cx : _} {pos : Pos} (a it : Addr) (o : Obj) (es : Array DictEntry) (ep : Nat) (u : HO) (hu : isD u = true) (hd : o.data = .dict es ep) :
    pF P w K (.Tuple elts cx pos) (Iti a o u) [it] it (fun i h => ∃ ok ov, IsItemIter h it a i es.size ep ok ov) where
  mem := by simp
  obj := fun i h st b hb => by
    have e : b = it := by simpa using hb
    subst e
    obtain ⟨ok, ov, e⟩ := st
    exact ⟨_, e, fun v z => by
      have z' : Data.fields _ = Data.cell v := z
      cases z'⟩
  keep := fun i h h' st k => by
    obtain ⟨ok, ov, e⟩ := st
    exact ⟨ok, ov, k it (by simp) _ e⟩
  item := by
    intro X hP hw hK hc i pins s σ H E I hf st hg
    subst hP hw hK
    obtain ⟨hi, hq⟩ := hg
    obtain ⟨ho, hz, hen⟩ := ki I hu hd hq
    have fi := hf it (by simp)
    obtain ⟨ok, ov, st⟩ := st
    have hx : es[i]? = some es[i] := by simp [show i < es.size by omega]
    obtain ⟨x, v, en, rx, rv⟩ := hen i _ hx
    refine rW st ho hd hx fun h' n1 t1 z1 k1 => ?_
    obtain ⟨h3, z3, I3, k3⟩ := I.turned1 (t' := s.toks) (h' := h') st ⟨_, n1, rfl⟩ k1 fi
    have hn := I.hok.fresh (Nat.le_refl s.heap.objs.size)
    have I4 : Inv X pins σ (upd H s.heap.objs.size (.tup [x, v])) { s with heap := h', toks := s.toks } :=
      I3.laid (t' := s.toks) k3 (Nat.le_of_eq z3) (show ObjOk X.prog X.w _ h' _ (.tup [x, v]) from ⟨by show 2 ≤ sizeLine; rw [sizeLine_eq]; decide, [es[i].key, es[i].val], .cons rx (.cons rv .nil), ⟨_, t1, rfl, 0, rfl⟩⟩)
    have li : it < s.heap.objs.size := Heap.lt_size st
    have nH : upd H s.heap.objs.size (.tup [x, v]) it = H it := ai (Nat.ne_of_lt li)
    refine ⟨_, rfl, wpAny_letOwnedTupleGo_items (s := { s with heap := h' }) n1 fun h5 e5 s5 => ?_⟩
    have I5 : Inv X pins σ (upd H s.heap.objs.size (.tup [x, v])) { s with heap := h5, toks := s.toks } :=
      I4.turned (t' := s.toks) (fun b o hb q => (s5.2 b hb).trans q) (nH.trans fi.1) fi.2.1 fi.2.2.2.1 fi.2.2.2.2.1 fi.2.2.2.2.2
    refine ⟨.ref s.heap.objs.size, _, I5, rfl, ⟨_, x, v, hn, rfl, en, rfl⟩, ⟨_, _, e5⟩, fun b hb => ?_⟩
    rw [List.mem_singleton.mp hb]; exact nH.trans fi.1
  done := by
    intro X hP hw hK hc i pins s σ H E I hf st hg
    subst hP hw hK
    obtain ⟨hi, hq⟩ := hg
    obtain ⟨ho, hz, hen⟩ := ki I hu hd hq
    have fi := hf it (by simp)
    obtain ⟨ok, ov, st⟩ := st
    exact m8 (I.ok.hd hc) st ho hd (by omega) fun h' eb => ⟨rfl, I.turned (t' := s.toks) (fun b o hb q => eb b o hb q) fi.1 fi.2.1 fi.2.2.2.1 fi.2.2.2.2.1 fi.2.2.2.2.2⟩
  self := fun _ _ s Q E st h => by
    obtain ⟨ok, ov, st⟩ := st
    exact PySem.W.kcp_self st h
def qZ (td : TE) : TI := fun σ H R => td σ H fun x H1 => ∃ b u, x = .ref b ∧ isD u = true ∧ Rd H1 b u ∧ ∀ o, (H1 b = some u ∨ H1 b = some (.frz o u)) → R (Iti b o u) (upd H1 b (.frz o u))
theorem mf {o : Expr} {td : TE} {apos cpos tp : Pos} {elts : List Expr} {cx : _} (ho : PE X o td)
    (hbase : attributeBase o "items" X.env (eval o X.env) = eval o X.env := by rfl) (hline : (apos.endLine == cpos.line) = true := by rfl) : PI X (.Tuple elts cx tp) (.Call (.Attribute o "items" apos) [] [] cpos) (qZ td) := by
  intro pins s σ H R I h
  refine wpAny_Call_method0_late hbase hline (thn (ho pins s σ H _ I h) fun v s1 ⟨x, H1, I1, rx, b, u, ex, hu, hr, q⟩ => ?_)
  subst ex
  cases (show v = Value.ref b from rx)
  obtain ⟨oo, es, ep, hob, ex, hd, lo, hz, hor, I2⟩ := I1.freeze hu hr
  refine ⟨"dict", "dict.items", PySem.F.plainAttrs_dict, PySem.F.slot_dict_items, PySem.F.type_dict_items, ⟨oo, hob, ex.1⟩, fun a e => by cases e; exact ⟨oo, hob, ex.2.1⟩, Calls.callWith_builtin rfl (PySem.evalArgs_none (rB lo hob ex ?_))⟩
  refine jS (s := { s1 with heap := _ }) ⟨_, Heap.get?_push_size _ rfl, rfl, rfl⟩ (Heap.get?_push_of_some _ hob) hd ?_
  have I3 : Inv X pins σ (upd H1 b (.frz oo u)) { s1 with heap := s1.heap.push { cls := .type "dict_items", data := .fields #[.ref b] } } := I2.kept (t' := s1.toks) fun c ob e => Heap.get?_push_of_some _ e
  refine ⟨_, [_], _, Iti b oo u, _, rfl, I3.kept (t' := s1.toks) (fun c ob e => Heap.get?_push_of_some _ e), mY b _ oo es ep u hu hd, ⟨_, _, Heap.get?_push_size _ rfl⟩, fun c hc => ?_, q oo hor⟩
  rw [List.mem_singleton.mp hc]
  exact I3.fpOk (Nat.le_refl _) (I3.hok.fresh (Nat.le_refl _))
end
section
variable {prog : Program} {w : World} {A : Around} {E : Value → Shared → Prop} {s : Shared} {d : Addr}
theorem uX {K : Type} [DecidableEq K] {knd : KeyKind prog w K} {kvs : List (K × Value)} {k : K} {key dflt : Value} {Q : Value → Shared → Prop} (hkey : knd.is k key = true) (hm : s.heap.DictOf knd d kvs) (hv : valueAt kvs k = none) (hsz : kvs.length ≤ sizeLine)
    (q : ∀ h', h'.DictOf knd d (stored kvs k dflt) → Heap.SameBut d s.heap h' → Q dflt { s with heap := h', toks := s.toks + 1 }) : wpAny (model prog w) A (dictSetDefault d key dflt) Q E s := by
  obtain ⟨o, es, ep, ho, hc, hd, hk, hp, hn⟩ := id hm
  have hes : es.size ≤ sizeLine := by have e1 := hp.length; rw [Array.length_toList] at e1; omega
  have hidx : (es.findIdx? fun e => knd.is k e.key) = kvs.findIdx? fun kv => decide (kv.1 = k) := by rw [← hp.findIdx k]; obtain ⟨l⟩ := es; simp
  have hany : (kvs.any fun kv => decide (kv.1 = k)) = false := by
    cases c : kvs.any fun kv => decide (kv.1 = k) with
    | false => rfl
    | true =>
      exfalso
      unfold valueAt at hv
      rw [Option.map_eq_none_iff, List.find?_eq_none] at hv
      obtain ⟨kv, m, e⟩ := List.any_eq_true.mp c
      exact hv kv m e
  have hno : (kvs.findIdx? fun kv => decide (kv.1 = k)) = none := by
    rw [List.findIdx?_eq_none_iff]
    intro x hx
    cases c : decide (x.1 = k) with
    | false => rfl
    | true => rw [List.any_eq_true.mpr ⟨x, hx, c⟩] at hany; cases hany
  have hnot : k ∉ kvs.map (·.1) := not_mem_of_findIdx_none hno
  unfold dictSetDefault
  try with_reducible refine wpAny_holding ?_
  refine wpAny_bind (knd.pyHash hkey (wpAny_bind (wpAny_dictFind_of (s := { s with toks := s.toks + 1 }) hkey ho hd hk ?_)))
  rw [hidx, hno]
  refine wpAny_bind (wpAny_rule (wpAny_bind (wpAny_updateDictKeys (hz := hes) (s := { s with toks := s.toks + 1 }) ho hd (wpAny_pure (q _ ⟨_, _, ep + 1, Heap.get?_update_self _ ho (Obj.isFreed_of_dict (Obj.data_mapDictKeys hd _)), hc.mapDictKeys _, Obj.data_mapDictKeys hd _, hk.push hkey _, ?_, ?_⟩ (Heap.SameBut.update ..))))))
  · rw [stored, if_neg (by rw [hany]; decide)]
    have := hp.append hkey (knd.hash k) dflt
    obtain ⟨l⟩ := es
    simpa using this
  · rw [stored, if_neg (by rw [hany]; decide), List.map_append]
    exact List.nodup_append.mpr ⟨hn, by simp, fun a ha b hb => by simp at hb; rw [hb]; rintro rfl; exact hnot ha⟩
theorem nP {K : Type} [DecidableEq K] {knd : HeapKind prog w K} {a : Addr} {xs : List (K × Addr × Value)} {k : K} {dflt : Value} {Q : Value → Shared → Prop} (hu : knd.room A) (hkey : knd.is s.heap k a) (hm : s.heap.DictOfH knd d xs) (hsz : xs.length ≤ sizeLine)
    (q1 : ∀ p, atKey xs k = some p → Q p.2 { s with toks := s.toks + knd.draws k })
    (q2 : atKey xs k = none → ∀ h', h'.DictOfH knd d (storedH xs k a dflt) → Heap.SameBut d s.heap h' → Q dflt { s with heap := h', toks := s.toks + knd.draws k }) : wpAny (model prog w) A (dictSetDefault d (.ref a) dflt) Q E s := by
  obtain ⟨o, es, ep, ho, hc, hd, he, his, hn⟩ := id hm
  unfold dictSetDefault
  try with_reducible refine wpAny_holding ?_
  refine wpAny_bind (knd.pyHash hu hkey (wpAny_bind (wpAny_dictFind_heap (s := { s with toks := s.toks + knd.draws k }) hu hkey ho hd he his hn ?_ ?_)))
  · intro hno
    have hnot : k ∉ xs.map (·.1) := not_mem_keys_of_get hno
    have en := atKey_none_of_get hno
    refine wpAny_bind (wpAny_rule (wpAny_bind (wpAny_updateDictKeys (hz := by have e := size_of_entries he; omega) (s := { s with toks := s.toks + knd.draws k }) ho hd (wpAny_pure (q2 en _ ⟨_, _, ep + 1, Heap.get?_update_self _ ho (Obj.isFreed_of_dict (Obj.data_mapDictKeys hd _)), hc.mapDictKeys _, Obj.data_mapDictKeys hd _, ?_, ?_, ?_⟩ (Heap.SameBut.update ..))))))
    · rw [storedH_new en]; simp [he, entryOfKey]
    · rw [storedH_new en]
      intro x hx
      rcases List.mem_append.mp hx with hx | hx
      · exact knd.keeps (his x hx) ho hd (Heap.SameBut.update ..)
      · rw [List.mem_singleton.mp hx]; exact knd.keeps hkey ho hd (Heap.SameBut.update ..)
    · rw [storedH_new en, List.map_append]
      exact List.nodup_append.mpr ⟨hn, by simp, fun a ha b hb => by simp at hb; rw [hb]; rintro rfl; exact hnot ha⟩
  · intro j p hj
    refine wpAny_bind (wpAny_dictEntries (s := { s with toks := s.toks + knd.draws k }) ho hd ?_)
    rw [entry_at he j, hj]
    exact wpAny_bind (wpAny_rule (wpAny_pure (q1 p (atKey_of_get hn hj))))
theorem iq {key dflt : Value} {Q : Value → Shared → Prop} (lo : (d == sysModules) = false) (ty : s.TypeIs (.ref d) "dict") (h : ∀ E' : Value → Shared → Prop, wpAny (model prog w) A.in1 (dictSetDefault d key dflt) Q E' s) : wpAny (model prog w) A (call (.builtin "dict.setdefault") [.ref d, key, dflt]) Q E s := by
  refine wpAny_call_entry PySem.F.slot_dict_setdefault ty PySem.F.entry_dict_setdefault ?_ (PySem.F.args_dict_setdefault_3 _ _ _)
  unfold Builtin.«dict.setdefault» Builtin.Dict.keyAndDefault
  refine wpAny_bind (wpAny_bind (wpAny_notOrdered_dict ty ?_)); show wpAny _ _ (pure (d, key, some dflt)) _ _ s
  refine wpAny_pure ?_; show wpAny _ _ (if (d == sysModules) = true then _ else (dictSetDefault d key dflt >>= _)) _ _ s
  rw [if_neg (by rw [lo]; exact Bool.false_ne_true)]
  exact wpAny_bind (wpAny_mono (h _) (fun v s' z => wpAny_pure ⟨v, rfl, z⟩) fun _ _ z => z)
end
section
variable {X : Cx} {o e f : Expr} {apos cpos : Pos} {td ty tx : TE}
def t_ (td ty tx : TE) : TE := fun σ H Q => td σ H fun x H1 => ∃ a, x = .ref a ∧ IsD H1 a ∧ ty σ H1 fun y H2 => tx σ H2 fun z H3 => (∃ v, DGet H3 a y (some v) ∧ Q v H3) ∨ (DGet H3 a y none ∧ ∃ H4, DPut H3 a y z H4 ∧ Q z H4)
theorem sP (hu : X.A.units + 1 < cLine) (ho : PE X o td) (he : PE X e ty) (hf : PE X f tx) (m : M2 X o "setdefault" apos e f cpos) : PE X (.Call (.Attribute o "setdefault" apos) [e, f] [] cpos) (t_ td ty tx) := by
  intro pins s σ H Q I h
  refine wpAny_Call_method m.base m.few m.line PySem.F.plainAttrs_dict PySem.F.slot_dict_setdefault PySem.F.type_dict_setdefault (thn (ho pins s σ H _ I h) fun u s1 ⟨x, H1, I1, rx, a, ex, d, q1⟩ => ?_)
  subst ex
  obtain rfl : u = Value.ref a := rx
  obtain ⟨t1, t2, _⟩ := pY I1 d
  refine ⟨t1, t2, ?_⟩
  rw [m.trees]
  refine Calls.callWith_builtin rfl (Calls.evalArgs_plain (Calls.spliced_cons (thn (he pins s1 σ H1 _ I1 q1) fun iv s2 ⟨y, H2, I2, ry, q2⟩ =>
    Calls.spliced_cons (thn (hf pins s2 σ H2 _ I2 q2) fun fv s3 ⟨z, H3, I3, rz, q3⟩ => Calls.spliced_nil ?_))))
  rcases q3 with ⟨v, g, q⟩ | ⟨g, H4, p, q⟩
  · rcases g with ⟨kvs, k, er, ey, l⟩ | ⟨kvs, k, b, er, ey, eb, l⟩
    · subst ey
      obtain ⟨zz, lo, vs, rel, dd⟩ := ow I3.hok er
      obtain ⟨v', hv', rv⟩ : ∃ v', valueAt vs k = some v' ∧ RelV v v' := by
        have r := rel.val k
        rw [← l] at r
        cases c : valueAt vs k with
        | none => rw [c] at r; exact (show False from r).elim
        | some v' => rw [c] at r; exact ⟨v', rfl, r⟩
      refine iq lo dd.typeIs fun E' => wpAny_dictSetDefault_of (f := valueAt vs) (mj ry) dd.mapOf (fun v2 e2 => ?_) (fun e2 => by rw [hv'] at e2; cases e2) (hz := ?_)
      · rw [hv'] at e2; cases e2
        exact ⟨v, H3, I3.tok _, rv, q⟩
      · obtain ⟨o1, es, ep, h1, _, h3, _, hp, _⟩ := dd
        intro o2 es2 ep2 g1 g2
        rw [h1] at g1; cases g1
        rw [h3] at g2; injection g2 with g2 _
        subst g2
        have e1 := hp.length
        rw [Array.length_toList] at e1
        rw [rel.length] at zz; omega
    · subst ey
      cases (show iv = Value.ref b from ry)
      obtain ⟨zz, lo, xs, rel, dd⟩ := oC I3.hok er
      have r := rel.val k
      rw [← l] at r
      refine iq lo dd.typeIs fun E' => nP (tupleKind_room_in1 hu) (iS I3.hok eb) dd (by rw [← Paired.length rel]; exact zz) (fun p e2 => ?_) (fun e2 => by rw [e2] at r; exact (show False from r).elim)
      rw [e2] at r
      exact ⟨v, H3, I3.tok _, r, q⟩
  · rcases p with ⟨kvs, k, er, ey, hl, eH⟩ | ⟨kvs, k, b, er, ey, eb, hl, eH⟩
    · subst ey eH
      obtain ⟨zz, lo, vs, rel, dd⟩ := tY I3.hok er
      have hv : valueAt vs k = none := by
        rcases g with ⟨kvs2, k2, er2, ey2, l2⟩ | ⟨_, _, b2, _, ey2, _, _⟩
        · have ek := q_ ey2
          subst ek
          rcases er2 with er2 | ⟨o2, er2⟩
          · rw [er] at er2; cases er2
            have r := rel.val k
            rw [← l2] at r
            exact RelO.none_of r
          · rw [er] at er2; cases er2
        · cases k <;> cases ey2
      have hz : vs.length ≤ sizeLine := by rw [← rel.length]; exact zz
      have hl2 : (cF kvs k z).length ≤ sizeLine := by have := dD kvs k z; omega
      refine iq lo dd.typeIs fun E' => uX (mj ry) dd hv hz fun h' dd' hs => ⟨z, _, ?_, rz, q⟩
      have hx : ∃ q, h'.get? a = some q := let ⟨q, _, _, hq, _⟩ := dd'; ⟨q, hq⟩
      exact ie I3 (by rw [er]; exact True.intro) hs hx (pX hl2 lo (rel.put k rz) dd')
    · subst ey eH
      cases (show iv = Value.ref b from ry)
      obtain ⟨zz, lo, xs, rel, dd⟩ := uh I3.hok er
      have hv : atKey xs k = none := by
        rcases g with ⟨kvs2, k2, er2, ey2, l2⟩ | ⟨kvs2, k2, b2, er2, ey2, eb2, l2⟩
        · cases k2 <;> cases ey2
        · cases ey2
          rw [eb] at eb2
          injection eb2 with eb2; injection eb2 with eb2
          have ek := oK eb2
          subst ek
          rcases er2 with er2 | ⟨o2, er2⟩
          · rw [er] at er2; cases er2
            have r := rel.val k
            rw [← l2] at r
            exact Option.map_eq_none_iff.mp (RelO.none_of r)
          · rw [er] at er2; cases er2
      have hl2 : (cF kvs k z).length ≤ sizeLine := by have := dD kvs k z; omega
      refine iq lo dd.typeIs fun E' => nP (tupleKind_room_in1 hu) (iS I3.hok eb) dd (by rw [← Paired.length rel]; exact zz) (fun p e2 => by rw [hv] at e2; cases e2) fun _ h' dd' hs => ⟨z, _, ?_, rz, q⟩
      obtain ⟨qo, es, ep, hq, h2, h3, h4, _, h5⟩ := dd'
      refine ie I3 (by rw [er]; exact True.intro) hs ⟨qo, hq⟩ ⟨hl2, lo, _, (rel.put k eb rz).keeps fun c ys ec => ?_, qo, es, ep, hq, h2, h3, h4, h5⟩
      rw [ai (hJ ec er (fun z => nomatch z))]
      exact ec
end
end L2
set_option Elab.async false
set_option linter.all false
set_option maxRecDepth 100000
namespace L2
open PySem PyProof.Rows
namespace Srt
section
variable {prog : Program} {w : World} {A : Around} {E : Value → Shared → Prop} {s : Shared}
end
end Srt
section
variable {X : Cx} {pins : List (Addr × Obj)} {σ : St} {H : Hp} {s : Shared}
end
end L2
set_option Elab.async false
set_option linter.all false
set_option maxRecDepth 100000
namespace L2
open PySem PyProof.Rows
section
variable {X : Cx}
end
section
variable {prog : Program} {w : World} {A : Around} {E : Value → Shared → Prop} {s : Shared}
end
section
variable {X : Cx}
end
open Lean Meta Simp
def rK : List Name := sQ ++ [`L2.t_, `L2.rCntT, `L2.rIdxT, `L2.ul]
def tL : List Name := r6 ++ [`L2.gMaxL, `L2.gMinT, `L2.gMaxT, `L2.gSortK]
end L2
set_option Elab.async false
set_option linter.all false
set_option maxRecDepth 100000
namespace L2
section
variable {κ : Type} [DecidableEq κ]
theorem fJ {kvs : List (κ × V)} {k : κ} {v : V} (h : dk kvs k = some v) : (k, v) ∈ kvs := by
  unfold dk at h
  obtain ⟨e, he, rfl⟩ := Option.map_eq_some_iff.mp h
  have h1 := List.find?_some he
  have h2 := List.mem_of_find?_eq_some he
  have h3 := of_decide_eq_true h1
  subst h3; exact h2
theorem nX {kvs : List (κ × V)} {k : κ} (h : dk kvs k = none) {v : V} : (k, v) ∉ kvs := fun m => by
  unfold dk at h
  have h1 := List.find?_eq_none.mp (Option.map_eq_none_iff.mp h) _ m
  exact h1 (decide_eq_true rfl)
theorem wy {kvs : List (κ × V)} (nd : (kvs.map (·.1)).Nodup) {k : κ} {v v' : V} (h : (k, v) ∈ kvs) (h' : (k, v') ∈ kvs) : v = v' := by
  induction kvs with
  | nil => cases h
  | cons p r ih =>
    rw [List.map_cons, List.nodup_cons] at nd
    rcases List.mem_cons.mp h with e | m
    · rcases List.mem_cons.mp h' with e' | m'
      · rw [← e] at e'; exact (Prod.mk.inj e').2.symm
      · exact absurd (List.mem_map.mpr ⟨_, m', rfl⟩) (by rw [← e] at nd; exact nd.1)
    · rcases List.mem_cons.mp h' with e' | m'
      · exact absurd (List.mem_map.mpr ⟨_, m, rfl⟩) (by rw [← e'] at nd; exact nd.1)
      · exact ih nd.2 m m'
theorem eG {kvs : List (κ × V)} {k : κ} {v : V} {x : κ × V} : x ∈ cF kvs k v ↔ x = (k, v) ∨ (x ∈ kvs ∧ x.1 ≠ k) := by
  unfold cF
  split
  · rename_i h
    obtain ⟨e, me, he⟩ := List.any_eq_true.mp h
    have he := of_decide_eq_true he
    constructor
    · intro m
      obtain ⟨z, mz, rfl⟩ := List.mem_map.mp m
      split
      · rename_i q; exact .inl (by rw [q])
      · rename_i q; exact .inr ⟨mz, q⟩
    · rintro (rfl | ⟨m, n⟩)
      · exact List.mem_map.mpr ⟨e, me, by rw [if_pos he, he]⟩
      · exact List.mem_map.mpr ⟨x, m, by rw [if_neg n]⟩
  · rename_i h
    rw [List.mem_append, List.mem_singleton]
    constructor
    · rintro (m | e)
      · refine .inr ⟨m, fun z => h (List.any_eq_true.mpr ⟨x, m, decide_eq_true z⟩)⟩
      · exact .inl e
    · rintro (e | ⟨m, _⟩)
      · exact .inr e
      · exact .inl m
theorem sD (kvs : List (κ × V)) (k : κ) (v : V) : (cF kvs k v).map (·.1) = if (kvs.any fun kv => decide (kv.1 = k)) = true then kvs.map (·.1) else kvs.map (·.1) ++ [k] := by
  unfold cF
  split
  · rw [List.map_map]
    apply List.map_congr_left
    intro e _
    show (if e.1 = k then (e.1, v) else e).1 = e.1
    split <;> rfl
  · rw [List.map_append]; rfl
theorem tS {kvs : List (κ × V)} {k : κ} {v : V} (nd : (kvs.map (·.1)).Nodup) : ((cF kvs k v).map (·.1)).Nodup := by
  rw [sD]
  split
  · exact nd
  · rename_i h
    rw [List.nodup_append]
    refine ⟨nd, by simp, fun x mx y my => ?_⟩
    rw [List.mem_singleton.mp my]
    rintro rfl
    obtain ⟨e, me, rfl⟩ := List.mem_map.mp mx
    exact h (List.any_eq_true.mpr ⟨e, me, decide_eq_true rfl⟩)
theorem nG (kvs : List (κ × V)) (k : κ) (v : V) : (cF kvs k v).length ≤ kvs.length + 1 := by
  unfold cF
  split
  · rw [List.length_map]; omega
  · rw [List.length_append]; exact Nat.le_refl _
end
structure Qr where
  d : Int
  a : List Nat
  p : Int
  b : List Nat
  q : Int
abbrev Wt := Int × Int
def hit (r : Qr) (x y : List Nat) : Option Wt := if r.a = x ∧ r.b = y then some (r.p, r.q) else if r.a = y ∧ r.b = x then some (r.q, r.p) else none
def xT (r : Qr) (x y : List Nat) (D : Int) (o : Option Wt) : Option Wt := if r.d = D then (hit r x y).or o else o
def val (R : List Qr) (x y : List Nat) (D : Int) : Option Wt := R.foldl (fun o r => xT r x y D o) none
def wN (R : List Qr) : Prop := ∀ r ∈ R, r.a ≠ r.b
theorem nz {α : Type} [DecidableEq α] : ∀ {l l' : List α}, l.Nodup → (∀ x ∈ l, x ∈ l') → l.length ≤ l'.length
  | [], _, _, _ => Nat.zero_le _
  | x :: r, l', nd, s => by
    rw [List.nodup_cons] at nd
    have m := s x (.head _)
    have ih := nz (l := r) (l' := l'.erase x) nd.2 fun y my => (List.mem_erase_of_ne (fun e : y = x => nd.1 (e ▸ my))).mpr (s y (.tail _ my))
    rw [List.length_erase_of_mem m] at ih
    have := List.length_pos_of_mem m
    rw [List.length_cons]; omega
end L2
set_option Elab.async false
set_option linter.all false
set_option maxRecDepth 100000
namespace L2
open PySem PyProof.Rows
section
variable {X : Cx} {e c : Expr} {te : TE} {ts : TO} {pos p2 : Pos}
end
section
variable {X : Cx}
end
section
variable {X : Cx}
end
open Lean Meta Simp
def tm : List Name := rK ++ [`L2.tEv, `L2.tDisp1]
def tu : List Name := tL ++ [`L2.gMinLT, `L2.gInA]
def rN (e : Lean.Expr) : MetaM (Option Lean.Expr) := do
  let .const n us := e.getAppFn | return none
  let fr := wl n || tm.contains n
  unless fr || tu.contains n do return none
  let some (.defnInfo d) := (← getEnv).find? n | return none
  let v := d.value.instantiateLevelParams d.levelParams us
  if e.getAppNumArgs < v.getNumHeadLambdas then return none
  let b := v.beta e.getAppArgs
  if fr then return some b
  match ← reduceMatcher? b with
  | .reduced r => return some r
  | .notMatcher => return some b
  | _ => return none
dsimproc_decl vn (_) := fun e => do
  match ← rN e with
  | some r => return .visit r
  | none => return .continue
end L2
set_option Elab.async false
set_option linter.all false
set_option maxRecDepth 100000
namespace L2
section
variable {N : Type} {A : N → N → Prop} {g : N}
def Wk (A : N → N → Prop) (g : N) : Nat → N → Prop
  | 0, x => x = g
  | k + 1, x => ∃ y, Wk A g k y ∧ A y x
def Far (A : N → N → Prop) (g : N) (k : Nat) (x : N) : Prop := Wk A g k x ∧ ∀ j, j < k → ¬ Wk A g j x
end
section
variable {A : List Nat → List Nat → Prop} {g : List Nat}
def Nx (A : List Nat → List Nat → Prop) (g x y : List Nat) : Prop := ∃ k, Far A g (k + 1) x ∧ Far A g k y ∧ A x y ∧ ∀ z, Far A g k z → A x z → ¬ z < y
def Chn (A : List Nat → List Nat → Prop) (g : List Nat) : List (List Nat) → Prop
  | [] => False
  | [x] => x = g
  | x :: y :: r => Nx A g x y ∧ Chn A g (y :: r)
end
section
variable {N : Type} {A : N → N → Prop} {g : N}
def Up (A : N → N → Prop) (g : N) (k : Nat) (F : List N) (x : N) (n : Nat) : Prop := (n ≤ k ∧ Far A g n x) ∨ (n = k + 1 ∧ x ∈ F)
end
end L2
namespace L2
def pr (r : Qr) (x y : List Nat) : Prop := (r.a = x ∧ r.b = y) ∨ (r.a = y ∧ r.b = x)
def Lk (R : List Qr) (d : Int) (x y : List Nat) : Prop := ∃ r ∈ R, r.d ≤ d ∧ pr r x y
def Cov (R : List Qr) (C : List (List Nat)) : Prop := ∀ r ∈ R, r.a ∈ C ∧ r.b ∈ C
structure SD (m : List (Key × V)) (P : List Nat → Nat → Prop) : Prop where
  nd : (m.map (·.1)).Nodup
  to : ∀ k v, (k, v) ∈ m → ∃ (x : List Nat) (n : Nat), k = .inr ⟨⟨x⟩⟩ ∧ v = .int n ∧ P x n
  fr : ∀ x (n : Nat), P x n → ((.inr ⟨⟨x⟩⟩ : Key), V.int n) ∈ m
def Rows (R : List Qr) (C : List (List Nat)) : Prop := ∀ r ∈ R, (0 ≤ r.d ∧ r.d ≤ 146096) ∧ r.a ∈ C ∧ r.b ∈ C ∧ r.a ≠ r.b ∧ (1 ≤ r.p ∧ r.p ≤ 1000000000) ∧ 1 ≤ r.q ∧ r.q ≤ 1000000000
end L2
set_option Elab.async false
set_option linter.all false
set_option maxRecDepth 100000
namespace L2
open PySem PyProof.Rows
section
variable {P : Program} {w : World} {A : Around} {E : Value → Shared → Prop} {s : Shared}
abbrev skd (P : Program) (w : World) := PySem.strKind P w
def SetTx (P : Program) (w : World) (h : Heap) (a : Addr) (ls : List (List Nat)) (ld : Bool) : Prop := ∃ o es ep t, h.get? a = some o ∧ o.ExactSet ∧ o.data = .set es ep t ∧ ElemsOf (skd P w) es.toList ∧ es.size < scanBound ∧ t.fits es.size = true ∧ t.led = ld ∧ (0 < es.size → t.plain = false) ∧ (es.toList.map fun e => cQ e.2).Nodup ∧ ∀ l, l ∈ es.toList.map (fun e => cQ e.2) ↔ l ∈ ls
theorem rL (t : SetTable) (es : Array (Int × Value)) (n : Int) (x : Value) : (layNew t es n x).2.1.led = t.led := by
  unfold layNew
  split
  · rename_i q e
    show (SetTable.orStandIn _ _).led = _
    unfold SetTable.orStandIn
    split
    · unfold SetTable.put; (try split) <;> rfl
    · show (SetTable.standIn _ _).led = _
      unfold SetTable.put SetTable.standIn; (try split) <;> rfl
  · rfl
theorem pi (t : SetTable) (es : Array (Int × Value)) (n : Int) (x : Value) (h : t.plain = false) : (layNew t es n x).2.1.plain = false := by
  unfold layNew
  split
  · rename_i q e
    show (SetTable.orStandIn _ _).plain = _
    unfold SetTable.orStandIn
    split
    · unfold SetTable.put; (try split) <;> exact h
    · rfl
  · rfl
theorem pD (t : SetTable) (es : Array (Int × Value)) (n : Nat) : (relayAll t es n).2.1.led = t.led := by
  unfold relayAll
  split
  · rename_i t' od e
    have : t'.led = t.led := by
      unfold SetTable.relaid SetTable.laid at e
      obtain ⟨_, _, e2⟩ := Option.bind_eq_some_iff.mp e
      cases e2; rfl
    dsimp only
    split
    · exact this
    · rfl
  · rfl
theorem lM (t : SetTable) (es : Array (Int × Value)) (n : Nat) (h : t.plain = false) : (relayAll t es n).2.1.plain = false := by
  unfold relayAll
  split
  · rename_i t' od e
    have : t'.plain = t.plain := by
      unfold SetTable.relaid SetTable.laid at e
      obtain ⟨_, _, e2⟩ := Option.bind_eq_some_iff.mp e
      cases e2; rfl
    dsimp only
    split
    · rw [← h]; exact this
    · rfl
  · rfl
theorem qU {h : Heap} {a : Addr} {o : Obj} {es : Array (Int × Value)} {ep : Nat} {t : SetTable} (ho : h.get? a = some o) (hd : o.data = .set es ep t) (es' : Array (Int × Value)) (t' : SetTable) : (h.update a (Obj.putSet es' t')).get? a = some { o with data := .set es' (ep + 1) t' } := by
  have q := Heap.get?_update_self (Obj.putSet es' t') ho (by rw [putSet_of es' t' hd]; rfl)
  rwa [putSet_of es' t' hd] at q
theorem re {g : Bool → Sem Unit} (hg : ∀ (b : Bool) (s1 : Shared) (Q1 : Unit → Shared → Prop), Q1 () s1 → wpAny (model P w) A (g b) Q1 E s1) {a : Addr} {o : Obj} {es : Array (Int × Value)} {ep : Nat} {t : SetTable} (ho : s.heap.get? a = some o) (hd : o.data = .set es ep t)
    {es1 : Array (Int × Value)} {t2 : SetTable} (hb1 : es1.size < scanBound) (hf2 : t2.fits es1.size = true) {wd : Bool} {R : Option Bool → Shared → Prop}
    (fin : ∀ h' es' t' ep', Heap.SameBut a s.heap h' → h'.get? a = some { o with data := .set es' ep' t' } → es'.toList.Perm es1.toList → t'.fits es'.size = true → t'.led = t2.led → (t2.plain = false → t'.plain = false) → R (some true) { s with heap := h' }) :
    wpAny (model P w) A (do
      storeSet a es1 t2
      if (!wd && t2.tooFull) = true then do
        g (relayAll t2 es1 (SetTable.grown es1.size)).2.2
        storeSet a (relayAll t2 es1 (SetTable.grown es1.size)).1 (relayAll t2 es1 (SetTable.grown es1.size)).2.1
        pure (some true)
      else pure (some true)) R E s := by
  refine wpAny_bind (wpAny_storeSet_of ho hd ?_ (fits_of_scanBound hb1))
  have g1 := qU ho hd es1 t2
  have k1 := Heap.SameBut.update s.heap a (Obj.putSet es1 t2)
  split
  · have pm := relayAll_perm t2 es1 (SetTable.grown es1.size)
    have ft := relayAll_fits t2 es1 (SetTable.grown es1.size)
    have ld := pD t2 es1 (SetTable.grown es1.size)
    have pl := lM t2 es1 (SetTable.grown es1.size)
    generalize relayAll t2 es1 (SetTable.grown es1.size) = Z at pm ft ld pl ⊢
    have z2 : Z.1.size < scanBound := by
      have := pm.length_eq
      rw [Array.length_toList, Array.length_toList] at this
      omega
    refine wpAny_bind (hg _ _ _ (wpAny_bind (wpAny_storeSet_of g1 rfl ?_ (fits_of_scanBound z2))))
    exact wpAny_pure (fin _ _ _ _ (k1.trans (Heap.SameBut.update _ a _)) (qU g1 rfl _ _) pm ft ld pl)
  · exact wpAny_pure (fin _ _ _ _ k1 g1 (List.Perm.refl _) hf2 rfl id)
theorem lQ {x : Str} {v : Value} : (skd P w).is x v = true ↔ ∃ tk, v = .str x tk := by
  constructor
  · exact Value.isStrOf_shape
  · rintro ⟨tk, rfl⟩
    show Value.isStrOf x (.str x tk) = true
    simp [Value.isStrOf]
theorem qK {es : List (Int × Value)} (h : ElemsOf (skd P w) es) {e : Int × Value} (m : e ∈ es) : ∃ x tk, e.2 = .str x tk := by
  obtain ⟨⟨k, hk, _⟩, _⟩ := h e m
  obtain ⟨tk, e2⟩ := lQ.mp hk
  exact ⟨k, tk, e2⟩
theorem vJ {x y : Str} (h : cs x = cs y) : x = y := by
  obtain ⟨⟨l⟩⟩ := x; obtain ⟨⟨r⟩⟩ := y
  have : l = r := h
  rw [this]
theorem SetTx.size {h : Heap} {a : Addr} {ls : List (List Nat)} {ld : Bool} (hS : SetTx P w h a ls ld) : ∃ o es ep t, h.get? a = some o ∧ o.data = .set es ep t ∧ es.size ≤ ls.length := by
  obtain ⟨o, es, ep, t, ho, hex, hd, hel, hb, hf, hld, hpl, hnd, hmem⟩ := hS
  refine ⟨o, es, ep, t, ho, hd, ?_⟩
  have := nz hnd fun l m => (hmem l).mp m
  rwa [List.length_map, Array.length_toList] at this
theorem xO {a : Addr} {ls : List (List Nat)} {ld : Bool} {x : Str} {tk : Tok} {Q : Bool → Shared → Prop} (hS : SetTx P w s.heap a ls ld) (room : ls.length + 1 < scanBound)
    (h : ∀ b h', Heap.SameBut a s.heap h' → SetTx P w h' a (ls ++ [cs x]) ld → Q b { s with heap := h' }) : wpAny (model P w) A (setAddHashed a (.str x tk) ((skd P w).hash x)) Q E s := by
  obtain ⟨o0, es0, ep0, t0, ho0, hd0, lz0⟩ := hS.size
  obtain ⟨o, es, ep, t, ho, hex, hd, hel, hb, hf, hld, hpl, hnd, hmem⟩ := hS
  rw [ho0] at ho; cases ho
  rw [hd0] at hd; cases hd
  have lz : es0.size ≤ ls.length := lz0
  have hkey : (skd P w).is x (.str x tk) = true := lQ.mpr ⟨tk, rfl⟩
  unfold setAddHashed setAddHashedIn
  refine wpAny_holding (wpAny_bind (wpAny_setState_of ho0 hd0 hf ?_))
  dsimp only
  rw [byScan_of (knd := skd P w) (x := .str x tk) rfl hb hel]
  simp only [↓reduceIte]
  unfold setAddByScan
  refine wpAny_bind (wpAny_bind (wpAny_rule (wpAny_bind (wpAny_setScan_of hkey ho0 hd0 hf hel ?_))))
  cases hr : List.findIdx? (fun e => (skd P w).is x e.2) es0.toList with
  | some j =>
    dsimp only
    obtain ⟨hj, pj, _⟩ := List.findIdx?_eq_some_iff_getElem.mp hr
    obtain ⟨tk', e2⟩ := lQ.mp pj
    have mx : cs x ∈ ls := (hmem _).mp (List.mem_map.mpr ⟨_, List.getElem_mem hj, by rw [e2]; rfl⟩)
    refine wpAny_pure (wpAny_pure ?_)
    have := h false s.heap (Heap.SameBut.refl a s.heap) ⟨o0, es0, ep0, t0, ho0, hex, hd0, hel, hb, hf, hld, hpl, hnd, fun l => (hmem l).trans ⟨fun m => List.mem_append_left _ m, fun m => (List.mem_append.mp m).elim id fun m => by rw [List.mem_singleton.mp m]; exact mx⟩⟩
    cases s; exact this
  | none =>
    dsimp only
    have nx : ∀ e ∈ es0.toList, cQ e.2 ≠ cs x := fun e me q => by
      have z := List.findIdx?_eq_none_iff.mp hr e me
      obtain ⟨y, ty, ey⟩ := qK hel me
      rw [ey] at q z
      have : y = x := vJ q
      subst this
      rw [lQ.mpr ⟨ty, rfl⟩] at z; cases z
    have gw : ∀ (b : Bool) {s1 : Shared} {Q1 : Unit → Shared → Prop}, Q1 () s1 → wpAny (model P w) A (match b with | true => rule "set.scan.the-table-gave-way" | false => pure ()) Q1 E s1 := fun b s1 Q1 q => by
      cases b
      · exact wpAny_pure q
      · exact wpAny_rule q
    have pm := layNew_perm t0 es0 ((skd P w).hash x) (.str x tk)
    have ft := layNew_fits t0 es0 ((skd P w).hash x) (.str x tk)
    have ll := rL t0 es0 ((skd P w).hash x) (.str x tk)
    have lp := pi t0 es0 ((skd P w).hash x) (.str x tk)
    generalize layNew t0 es0 ((skd P w).hash x) (.str x tk) = Z at pm ft ll lp ⊢
    obtain ⟨es1, t1, wd, gave⟩ := Z
    dsimp only at pm ft ll lp ⊢
    rw [Array.toList_push] at pm
    have s1 : es1.size = es0.size + 1 := by
      have := pm.length_eq
      rwa [Array.length_toList, List.length_append, Array.length_toList] at this
    have fin : ∀ (tt : SetTable), tt.led = t1.led → tt.plain = false → ∀ h' es' t' ep', Heap.SameBut a s.heap h' → h'.get? a = some { o0 with data := .set es' ep' t' } → es'.toList.Perm es1.toList → t'.fits es'.size = true → t'.led = tt.led → (tt.plain = false → t'.plain = false) → Q true { s with heap := h' } := fun tt tl tp h' es' t' ep' sb gh p1 f1 l1 pl1 => by
      have p2 := p1.trans pm
      have sz : es'.size = es0.size + 1 := by
        have := p2.length_eq
        rwa [Array.length_toList, List.length_append, Array.length_toList] at this
      have p3 : (es'.toList.map fun e => cQ e.2).Perm (es0.toList.map (fun e => cQ e.2) ++ [cs x]) := by
        have := p2.map fun e => cQ e.2
        rwa [List.map_append] at this
      refine h true h' sb ⟨_, es', ep', t', gh, hex, rfl, (hel.push hkey rfl).perm p2, by omega, f1, by rw [l1, tl, ll]; exact hld, fun _ => pl1 tp, p3.nodup_iff.mpr (List.nodup_append.mpr ⟨hnd, by simp, fun u mu v mv => ?_⟩), fun l => ?_⟩
      · rw [List.mem_singleton.mp mv]
        obtain ⟨e, me, rfl⟩ := List.mem_map.mp mu
        exact nx e me
      · rw [p3.mem_iff, List.mem_append, List.mem_append, hmem]
    refine wpAny_bind (gw _ ?_)
    split
    · refine wpAny_bind ?_
      rw [hashByValue_scannable 8 (x := .str x tk) rfl]
      refine wpAny_pure ?_
      refine re ?_ ho0 hd0 (by omega) ?_ ?_
      · intro b s2 Q2 q; cases b <;> first | exact wpAny_pure q | exact wpAny_rule q
      · split
        · exact ft
        · exact SetTable.fits_plain_off ft
      · intro h' es' t' ep' sb gh p1 f1 l1 pl1
        dsimp only
        exact wpAny_pure (fin { t1 with plain := false } rfl rfl h' es' t' ep' sb gh p1 f1 l1 pl1)
    · rename_i np
      have np' : t1.plain = false := by cases e : t1.plain with | true => exact absurd e np | false => rfl
      refine wpAny_bind (wpAny_pure ?_)
      simp only [↓reduceIte]
      refine re ?_ ho0 hd0 (by omega) ft ?_
      · intro b s2 Q2 q; cases b <;> first | exact wpAny_pure q | exact wpAny_rule q
      · intro h' es' t' ep' sb gh p1 f1 l1 pl1
        dsimp only
        exact wpAny_pure (fin t1 rfl np' h' es' t' ep' sb gh p1 f1 l1 pl1)
end
end L2
set_option Elab.async false
set_option linter.all false
set_option maxRecDepth 100000
namespace L2
open PySem PyProof.Rows
section
variable {P : Program} {w : World} {A : Around} {E : Value → Shared → Prop} {s : Shared}
theorem SetTx.mv {h h' : Heap} {a : Addr} {ls : List (List Nat)} {ld : Bool} (x : SetTx P w h a ls ld) (k : ∀ o, h.get? a = some o → h'.get? a = some o) : SetTx P w h' a ls ld := by
  obtain ⟨o, es, ep, t, ho, r⟩ := x
  exact ⟨o, es, ep, t, k _ ho, r⟩
theorem wE {R : Result → Shared → Prop} {I : Addr} {fp wr : List Addr} {G : Array GenState → Array GenState → Prop} {n : Nat} {Pv : Nat → Value → Prop} {St : Nat → Shared → Prop} {ld : Bool}
    (W : WalksS P w A.in1 I fp wr G n Pv St) (S : Addr) (nf : S ∉ fp) (val : Nat → List Nat) (hv : ∀ i v, Pv i v → ∃ x tk, v = .str x tk ∧ cs x = val i) (hb : n + 1 < scanBound) :
    ∀ (k i : Nat) (s : Shared), n - i = k → i ≤ n → St i s → SetTx P w s.heap S ((List.range i).map val) ld → (∀ s2, Moved (S :: wr) G s s2 → SetTx P w s2.heap S ((List.range n).map val) ld → R (.ok (.ret .none)) s2) →
      codeAny (model P w) A (.builtin "set.update.loop" ⟨[.ref S, .ref I], []⟩) R s := by
  have nw : S ∉ wr := fun z => nf (W.sub _ z)
  have up : ∀ b ∈ wr, b ∈ S :: wr := fun b m => List.mem_cons_of_mem _ m
  intro k
  induction k with
  | zero =>
    intro i s hk hi st hS hR
    obtain rfl : i = n := by omega
    refine codeAny_builtin F.entry_set_update_loop ?_
    rw [Around.under_plainId F.plain_set_update_loop _]
    show wpAny _ A.in1 (pyNext (.ref I) >>= _) _ _ s
    refine wpAny_bind (W.done s _ _ st fun s2 mv => ?_)
    show wpAny _ A.in1 (ret Value.none) _ _ s2
    exact wpAny_pure (hR s2 (mv.mono up) (hS.mv fun o e => mv.heap S _ nw e))
  | succ k ih =>
    intro i s hk hi st hS hR
    have lt : i < n := by omega
    refine codeAny_builtin F.entry_set_update_loop ?_
    rw [Around.under_plainId F.plain_set_update_loop _]
    show wpAny _ A.in1 (pyNext (.ref I) >>= _) _ _ s
    refine wpAny_bind (W.item i s _ _ lt st fun v s2 pv st2 mv => ?_)
    obtain ⟨x, tk, rfl, ex⟩ := hv i v pv
    have hS2 : SetTx P w s2.heap S ((List.range i).map val) ld := hS.mv fun o e => mv.heap S _ nw e
    show wpAny _ A.in1 (holding [Value.str x tk] (setAdd S (.str x tk)) >>= _) _ _ s2
    refine wpAny_bind (wpAny_holding ?_)
    unfold setAdd
    refine wpAny_holding (wpAny_bind ((skd P w).pyHash (k := x) (lQ.mpr ⟨tk, rfl⟩) ?_))
    refine xO (s := { s2 with toks := s2.toks + 1 }) hS2 (by rw [List.length_map, List.length_range]; omega) fun b h3 sb hS3 => ?_
    have hS4 : SetTx P w h3 S ((List.range (i + 1)).map val) ld := by
      rw [List.range_succ, List.map_append, List.map_singleton, ← ex]; exact hS3
    refine wpAny_pure ⟨plainId_quiet F.plain_set_update_loop _, ih (i + 1) _ (by omega) lt (W.frame _ s2 _ _ st2 (Nat.le_succ _) fun c mc o e => ?_) hS4 fun s5 mv5 hS5 => ?_⟩
    · rw [sb.2 c fun z => nf (z ▸ mc)]; exact e
    · refine hR s5 (Moved.trans W.gtrans ((mv.mono up).then_heap (Nat.le_succ _) fun c o mc e => ?_) mv5) hS5
      rw [sb.2 c fun z => mc (by rw [z]; exact List.mem_cons_self)]; exact e
def byT (w : World) : Bool := w.params.followText "set-order"
abbrev i6 (w : World) : Obj := { cls := .type "set", dict := none, data := .set #[] 0 (.fresh 0 0 (!byT w)) }
theorem xq (l : Value) {Q1 : Value → Shared → Prop} (h : Q1 (.ref s.heap.objs.size) { s with heap := s.heap.push (i6 w) }) :
    codeAny (model P w) A (.call (.builtin "set.__new__") ⟨[.type "set", l], []⟩) (wants Q1 E) s := by
  refine codeAny_of_tree ?_
  show wpAny _ A.in1 (do checkBuiltinCall "set.__new__" ⟨[.type "set", l], []⟩; again (.builtin "set.__new__" ⟨[.type "set", l], []⟩)) _ _ s
  refine wpAny_bind (wpAny_of_eq (PySem.F.newCall_set_1 l) (wpAny_pure ⟨plainId_quiet PySem.F.plain_set_new _, codeAny_builtin PySem.F.entry_set_new ?_⟩))
  rw [Around.under_plainId PySem.F.plain_set_new _]
  unfold Builtin.«set.__new__» Builtin.Frozenset.newClass
  have sub := sub_set_self
  obtain ⟨hp, g, d, tk, os⟩ := s
  dsimp only
  wp_walk
  refine wpAny_askSetting (wpAny_pure ?_)
  dsimp only
  simp only [newObj]
  refine wpAny_bind (wpAny_alloc (wpAny_pure ?_))
  exact wpAny_pure h
theorem si {h : Heap} {a : Addr} (e : h.get? a = some (i6 w)) : SetTx P w h a [] (!byT w) :=
  ⟨_, #[], 0, _, e, by exact ⟨rfl, rfl, rfl⟩, rfl, (fun _ z => nomatch z), by decide, rfl, rfl, (fun z => nomatch z), List.nodup_nil, fun l => ⟨(fun z => nomatch z), fun z => nomatch z⟩⟩
set_option maxHeartbeats 3200000 in
theorem wj {l : Addr} {its : Array Value} {ls : List (List Nat)} {Q : Value → Shared → Prop} (hh : A.handled = none) (hl : s.heap.IsList l its) (hv : its.toList.length = ls.length ∧ ∀ (i : Nat) (v : Value), its[i]? = some v → ∃ x tk, v = .str x tk ∧ cs x = ls.getD i []) (hb : its.size + 1 < scanBound)
    (h : ∀ (h' : Heap) (tk : Nat), SetTx P w h' s.heap.objs.size ls (!byT w) → (∀ c o, c < s.heap.objs.size → s.heap.get? c = some o → h'.get? c = some o) → Q (.ref s.heap.objs.size) { s with heap := h', toks := tk }) :
    wpAny (model P w) A (call (.type "set") [.ref l]) Q E s := by
  have lr : (List.range its.size).map (fun i => ls.getD i []) = ls := by
    have e := hv.1
    rw [Array.length_toList] at e
    rw [e]
    apply List.ext_getElem?
    intro i
    rw [List.getElem?_map]
    by_cases hi : i < ls.length
    · rw [List.getElem?_range hi]; simp [hi]
    · rw [List.getElem?_eq_none (by simp; omega), List.getElem?_eq_none (by omega)]; rfl
  obtain ⟨c, tl, hmro⟩ := PySem.F.called_set.mro
  have made := PySem.F.called_set.made
  have sub := PySem.F.called_set.sub
  refine wpAny_call (codeAny_of_tree ?_)
  show wpAny _ _ (callAny (.type "set") _) _ _ _
  refine wpAny_pure ⟨Code.quiet_builtin _ (by decide +kernel), codeAny_builtin PySem.F.entry_type_call ?_⟩
  rw [Around.under_plain (weight_type_call_type "set" [.ref l] []) rfl]
  have nt := PySem.F.called_set.notType
  have cc := PySem.F.called_set.canCreate
  have ct := PySem.F.typeCall_set_1 (.ref l)
  repeat (any_goals (first | assumption | wp_step))
  refine codeAny_mono (xq (.ref l) (E := E) (Q1 := fun ob s1 => ob = .ref s.heap.objs.size ∧ s1 = { s with heap := s.heap.push (i6 w) }) ⟨rfl, rfl⟩) fun r s1 hr => ?_
  cases r with
  | error e => exact hr
  | ok fl =>
    cases fl with
    | ret ob =>
      obtain ⟨rfl, rfl⟩ := hr
      have gS : (s.heap.push (i6 w)).get? s.heap.objs.size = some (i6 w) := Heap.get?_push_size _ rfl
      have ty : Shared.TypeIs { s with heap := s.heap.push (i6 w) } (.ref s.heap.objs.size) "set" := ⟨_, gS, rfl⟩
      have li := PySem.F.called_set.init.lookup
      have bi := PySem.F.called_set.init.bind (.ref s.heap.objs.size)
      repeat (any_goals (first | assumption | wp_step))
      refine codeAny_mono (codeAny_call_builtin (R := wants (fun r s2 => r = .none ∧ ∃ h' tk, s2 = { s with heap := h', toks := tk } ∧ SetTx P w h' s.heap.objs.size ls (!byT w) ∧ (∀ c o, c < s.heap.objs.size → s.heap.get? c = some o → h'.get? c = some o)) E) PySem.F.called_set.init.plain PySem.F.entry_set_init (check_set_init_1 ty ?_)) fun r2 s2 hr2 => ?_
      · obtain ⟨ol, hol, hcl, nl, hdl⟩ := hl
        obtain ⟨ocls, odict, odata, oslots⟩ := ol
        simp only at hcl hdl
        subst hcl; subst hdl
        have hol2 : (s.heap.push (i6 w)).get? l = some { cls := .type "list", dict := odict, data := .seq its nl, slots := oslots } := Heap.get?_push_of_some _ hol
        have sl1 := PySem.F.sub_list_set
        have sl2 := PySem.F.sub_list_frozenset
        have nd : (Value.type "list" == Value.type "dict") = false := by decide
        have hl1 : (s.heap.push (i6 w)).IsList l its := ⟨_, hol2, rfl, nl, rfl⟩
        unfold Builtin.«set.__init__» noKeywords Builtin.Frozenset.updateFrom
        generalize hPI : pyIter = PI
        wp_walk
        subst hPI
        refine wpAny_pyIter_list hl1 (wpAny_bind (wpAny_runValue ?_))
        have ll : l < s.heap.objs.size := Heap.lt_size hol
        have hh3 : A.in1.in1.in1.handled = none := by simp [hh]
        have nI : l ≠ (s.heap.push (i6 w)).objs.size := by rw [Heap.size_push]; exact Nat.ne_of_lt (Nat.lt_succ_of_lt ll)
        have nf : s.heap.objs.size ∉ [(s.heap.push (i6 w)).objs.size, l] := by
          rw [Heap.size_push]
          intro z
          rcases List.mem_cons.mp z with z | z
          · exact absurd z (Nat.ne_of_lt (Nat.lt_succ_self _))
          · exact absurd (List.mem_singleton.mp z) (Nat.ne_of_gt ll)
        refine wE ((Walks.list hh3 _ l nI its).toS) s.heap.objs.size nf (fun i => ls.getD i []) hv.2 hb (its.size - 0) 0 _ (by omega) (Nat.zero_le _) ⟨⟨_, Heap.get?_push_size _ rfl, rfl, rfl⟩, hl1.push _⟩ (si (Heap.get?_push_of_some _ gS)) ?_
        intro s5 mv hS5
        rw [lr] at hS5
        obtain ⟨h5, g5, d5, tk5, os5⟩ := s5
        have eg : g5 = s.gens := mv.gens
        have ed : d5 = s.drawn := mv.drawn
        have eo : os5 = s.os := mv.os
        subst eg; subst ed; subst eo
        show wpAny _ _ _ _ _ _
        refine wpAny_pure ?_
        show wpAny _ _ (ret Value.none) _ _ _
        refine wpAny_pure ⟨rfl, h5, tk5, rfl, hS5, fun c o lc e => ?_⟩
        refine mv.heap c o (fun z => ?_) (Heap.get?_push_of_some _ (Heap.get?_push_of_some _ e))
        rw [Heap.size_push] at z
        rcases List.mem_cons.mp z with z | z
        · exact absurd z (Nat.ne_of_lt lc)
        · exact absurd (List.mem_singleton.mp z) (Nat.ne_of_lt (Nat.lt_succ_of_lt lc))
      · cases r2 with
        | error e => exact hr2
        | ok fl2 =>
          cases fl2 with
          | ret r =>
            obtain ⟨rfl, h5, tk, rfl, hS5, hk5⟩ := hr2
            repeat (any_goals (first | assumption | wp_step))
            exact h _ _ hS5 hk5
          | _ => exact hr2.elim
    | _ => exact hr.elim
end
end L2
set_option Elab.async false
set_option linter.all false
set_option maxRecDepth 100000
namespace L2
open PySem PyProof.Rows
theorem cJ : Slot "set_iterator" "__next__" "set_iterator.__next__" :=
  Slot.of (owner := "set_iterator") (n := "__next__") (by rw [typeLookup_type, builtinLookup_eq_fast]; kernel_rfl) (by decide +kernel) (by decide +kernel) (by decide +kernel) (by first | exact .inr (by decide +kernel) | exact .inl (by decide +kernel)) (by rw [isSubtype_type]; kernel_rfl)
theorem gg : entryFor table "set_iterator.__next__" = some Builtin.«set_iterator.__next__» := entryFor_of_tree (by kernel_rfl)
theorem lg : Manifest.owners.lookup (String.ofList "set_iterator".toList.reverse.reverse) = some Manifest.sig_set_iterator := by kernel_rfl
theorem ik (a : Value) : argsOk "set_iterator.__next__" ⟨[a], []⟩ := by
  unfold argsOk; rw [signature?_of (id := "set_iterator.__next__") (n := "__next__".toList.reverse) (o := "set_iterator".toList.reverse) (by kernel_rfl) lg]; kernel_rfl
theorem rk : entryFor table "set.__iter__" = some Builtin.«frozenset.__iter__» :=
  entryFor_alias (id' := "frozenset.__iter__") (by kernel_rfl) (by first | rfl | decide +kernel | (unfold String.splitOn; simp +decide [String.splitOnAux])) (by decide +kernel) (by kernel_rfl)
end L2
set_option Elab.async false
set_option linter.all false
set_option maxRecDepth 100000
namespace L2
open PySem PyProof.Rows
section
variable {P : Program} {w : World} {A : Around} {E : Value → Shared → Prop} {s : Shared} {a I : Addr} {o : Obj} {es : Array (Int × Value)} {ep i n : Nat} {t : SetTable}
abbrev SIt (h : Heap) (I : Addr) (f : Value) (i : Nat) (a : Addr) (n ep : Nat) : Prop := h.get? I = some { cls := .type "set_iterator", data := .fields #[f, .int i 0, .ref a, .int n 0, .int ep 0] }
theorem om (n : Nat) : ¬ ((((n : Nat) : Int) != ((n : Nat) : Int)) = true) := by simp
theorem oh {Q : Option Value → Shared → Prop} (hh : A.handled = none) {h1 : Heap} (q : ∀ h', Heap.ExtBut I h1 h' → Q none { s with heap := h' }) :
    wpAny (model P w) A.in1 (newExc (.type "StopIteration") [] >>= fun e => raiseNew e) (fun fin s' => ∃ v, fin = Fin.done (Flow.ret v) ∧ wpAny (model P w) A (pure (some v)) Q E s')
      (fun e s' => wpAny (model P w) A (do let b ← isInstance e (.type "StopIteration"); if b = true then pure none else throw e) Q E s') { s with heap := h1 } := by
  refine wpAny_bind ?_
  simp only [newExc, newTuple]; refine wpAny_bind (wpAny_newObj_type ?_ (by size_fits))
  refine wpAny_bind (m := firstArgMember _ _) (wpAny_of_eq (a := Value.none) (by first | rfl | (simp only [firstArgMember]; rfl)) (wpAny_newObj_type ?_ (by size_fits)))
  simp only [raiseNew]; refine wpAny_bind (wpAny_handled ?_)
  rw [show A.in1.handled = none from hh]; refine wpAny_bind (wpAny_pure (wpAny_throw ?_))
  exact wpAny_bind (wpAny_isInstance (T := "StopIteration") (b := true) ⟨_, Heap.get?_push_size _ rfl, rfl⟩ isSubtype_stop (wpAny_pure (q _ fun c o _ z => Heap.get?_push_of_some _ (Heap.get?_push_of_some _ z))))
theorem nY {slot nx : Nat} {x : Value} {Q : Option Value → Shared → Prop} (hi : SIt s.heap I (.int slot 0) i a es.size ep) (ho : s.heap.get? a = some o) (hd : o.data = .set es ep t) (hf : t.fits es.size = true)
    (hn : ∀ (B : Around) (E1 : Value → Shared → Prop) (Q1 : Option (Value × Nat) → Shared → Prop), Q1 (some (x, nx)) s → wpAny (model P w) B (setNext a slot i ep) Q1 E1 s)
    (q : ∀ h', SIt h' I (.int nx 0) (i + 1) a es.size ep → Heap.SameBut I s.heap h' → Q (some x) { s with heap := h' }) : wpAny (model P w) A (pyNext (.ref I)) Q E s := by
  have ty : s.TypeIs (.ref I) "set_iterator" := ⟨_, hi, rfl⟩
  unfold pyNext
  refine wpAny_bind (wpAny_attempt (wpAny_callSpecial?_slot (name := Str.ofString "__next__") ty cJ (wpAny_call_entry cJ ty gg ?_ (ik _))))
  unfold Builtin.«set_iterator.__next__»
  refine wpAny_bind (wpAny_pure (wpAny_bind (wpAny_fieldsOf hi rfl ?_)))
  dsimp only
  unfold setEntries
  refine wpAny_bind (wpAny_bind (wpAny_setState_of ho hd hf (wpAny_pure ?_)))
  rw [if_neg (om _)]
  refine wpAny_bind (hn _ _ _ ?_)
  dsimp only
  refine wpAny_bind (wpAny_setField_rec hi (by simp) fun h1 g1 b1 => ?_)
  refine wpAny_bind (wpAny_setField_rec (s := { s with heap := h1 }) g1 (by simp) fun h2 g2 b2 => ?_)
  exact wpAny_pure ⟨_, rfl, wpAny_pure (q _ g2 (b1.trans b2))⟩
theorem mW {slot : Nat} {Q : Option Value → Shared → Prop} (hh : A.handled = none) (hi : SIt s.heap I (.int slot 0) i a es.size ep) (ho : s.heap.get? a = some o) (hd : o.data = .set es ep t) (hf : t.fits es.size = true)
    (hn : ∀ (B : Around) (E1 : Value → Shared → Prop) (Q1 : Option (Value × Nat) → Shared → Prop), Q1 none s → wpAny (model P w) B (setNext a slot i ep) Q1 E1 s)
    (q : ∀ h', Heap.ExtBut I s.heap h' → Q none { s with heap := h' }) : wpAny (model P w) A (pyNext (.ref I)) Q E s := by
  have ty : s.TypeIs (.ref I) "set_iterator" := ⟨_, hi, rfl⟩
  unfold pyNext
  refine wpAny_bind (wpAny_attempt (wpAny_callSpecial?_slot (name := Str.ofString "__next__") ty cJ (wpAny_call_entry cJ ty gg ?_ (ik _))))
  unfold Builtin.«set_iterator.__next__»
  refine wpAny_bind (wpAny_pure (wpAny_bind (wpAny_fieldsOf hi rfl ?_)))
  dsimp only
  unfold setEntries
  refine wpAny_bind (wpAny_bind (wpAny_setState_of ho hd hf (wpAny_pure ?_)))
  rw [if_neg (om _)]
  refine wpAny_bind (hn _ _ _ ?_)
  dsimp only
  refine wpAny_bind (wpAny_setField_rec hi (by simp) fun h1 g1 b1 => ?_)
  exact oh hh fun h' e => q h' fun c o' m z => e c o' m ((b1.2 c m).trans z)
theorem qD {T : Addr} {oT : Obj} {pl : Array Value} {k p : Nat} {u : Tok} {e : Int × Value} {Q : Option Value → Shared → Prop} (hi : SIt s.heap I (.ref T) i a es.size ep) (ho : s.heap.get? a = some o) (hd : o.data = .set es ep t) (hf : t.fits es.size = true)
    (hT : s.heap.get? T = some oT) (hTd : oT.data = .seq pl k) (hp : pl[i]? = some (.int (p : Nat) u)) (he : es[p]? = some e)
    (q : ∀ h', SIt h' I (.ref T) (i + 1) a es.size ep → Heap.SameBut I s.heap h' → Q (some e.2) { s with heap := h' }) : wpAny (model P w) A (pyNext (.ref I)) Q E s := by
  have ty : s.TypeIs (.ref I) "set_iterator" := ⟨_, hi, rfl⟩
  unfold pyNext
  refine wpAny_bind (wpAny_attempt (wpAny_callSpecial?_slot (name := Str.ofString "__next__") ty cJ (wpAny_call_entry cJ ty gg ?_ (ik _))))
  unfold Builtin.«set_iterator.__next__»
  refine wpAny_bind (wpAny_pure (wpAny_bind (wpAny_fieldsOf hi rfl ?_)))
  dsimp only
  unfold setEntries
  refine wpAny_bind (wpAny_bind (wpAny_setState_of ho hd hf (wpAny_pure ?_)))
  rw [if_neg (om _)]
  refine wpAny_bind (wpAny_seqItems hT hTd ?_)
  dsimp only
  rw [Int.toNat_natCast, hp]
  dsimp only
  unfold setNextDrawn
  refine wpAny_bind (wpAny_bind (wpAny_setState_of ho hd hf ?_))
  dsimp only
  rw [Int.toNat_natCast, if_neg (by simp), Int.toNat_natCast, he]
  refine wpAny_pure ?_
  refine wpAny_bind (wpAny_setField_rec hi (by simp) fun h1 g1 b1 => ?_)
  exact wpAny_pure ⟨_, rfl, wpAny_pure (q _ g1 b1)⟩
theorem rR {T : Addr} {oT : Obj} {pl : Array Value} {k : Nat} {Q : Option Value → Shared → Prop} (hh : A.handled = none) (hi : SIt s.heap I (.ref T) i a es.size ep) (ho : s.heap.get? a = some o) (hd : o.data = .set es ep t) (hf : t.fits es.size = true)
    (hT : s.heap.get? T = some oT) (hTd : oT.data = .seq pl k) (hp : pl[i]? = none)
    (q : ∀ h', Heap.ExtBut I s.heap h' → Q none { s with heap := h' }) : wpAny (model P w) A (pyNext (.ref I)) Q E s := by
  have ty : s.TypeIs (.ref I) "set_iterator" := ⟨_, hi, rfl⟩
  unfold pyNext
  refine wpAny_bind (wpAny_attempt (wpAny_callSpecial?_slot (name := Str.ofString "__next__") ty cJ (wpAny_call_entry cJ ty gg ?_ (ik _))))
  unfold Builtin.«set_iterator.__next__»
  refine wpAny_bind (wpAny_pure (wpAny_bind (wpAny_fieldsOf hi rfl ?_)))
  dsimp only
  unfold setEntries
  refine wpAny_bind (wpAny_bind (wpAny_setState_of ho hd hf (wpAny_pure ?_)))
  rw [if_neg (om _)]
  refine wpAny_bind (wpAny_seqItems hT hTd ?_)
  dsimp only
  rw [Int.toNat_natCast, hp]
  dsimp only
  refine wpAny_bind (wpAny_setField_rec hi (by simp) fun h1 g1 b1 => ?_)
  refine wpAny_bind (wpAny_setField_rec (s := { s with heap := h1 }) g1 (by simp) fun h2 g2 b2 => ?_)
  exact oh hh fun h' e => q h' fun c o' m z => e c o' m ((b2.2 c m).trans ((b1.2 c m).trans z))
end
end L2
set_option Elab.async false
set_option linter.all false
set_option maxRecDepth 100000
namespace L2
open PySem PyProof.Rows
theorem ig {α : Type} : ∀ (l : List α) (i : Nat) (x : α), l[i]? = some x → (x :: l.eraseIdx i).Perm l
  | [], i, x, h => by simp at h
  | y :: r, 0, x, h => by cases h; exact List.Perm.refl _
  | y :: r, i + 1, x, h => ((List.Perm.swap y x _)).trans ((ig r i x h).cons y)
theorem qE {α : Type} (l : List α) (i : Nat) (x : α) (h : l[i]? = some x) : (l.eraseIdx i).length + 1 = l.length := (ig l i x h).length_eq
theorem oB {α : Type} (nx : Nat → Nat) : ∀ (n k : Nat) (l : List α) (out : Array α), l.length = n → (pickOrder.go nx n k l out).toList.Perm (out.toList ++ l)
  | 0, k, l, out, e => by
    have : l = [] := List.length_eq_zero_iff.mp e
    subst this; rw [List.append_nil]; exact List.Perm.refl _
  | n + 1, k, l, out, e => by
    have lt : nx k % l.length < l.length := Nat.mod_lt _ (by omega)
    have g : l[nx k % l.length]? = some l[nx k % l.length] := List.getElem?_eq_getElem lt
    unfold pickOrder.go
    rw [g]
    dsimp only
    refine (oB nx n (k + 1) _ _ (by have := qE _ _ _ g; omega)).trans ?_
    rw [Array.toList_push, List.append_assoc]
    exact (ig _ _ _ g).append_left _
section
variable {P : Program} {w : World} {A : Around} {E : Value → Shared → Prop} {s : Shared} {a I : Addr} {o : Obj} {es : Array (Int × Value)} {ep i n : Nat} {t : SetTable}
theorem mP {src : Source} {n : Nat} {Q : Nat → Shared → Prop} (hn : n ≠ 0) (h : ∀ i dr, i < n → Q i { s with drawn := dr }) : wpAny (model P w) A (choose src n) Q E s := fun Γ p hΓ => by
  unfold choose
  rw [Sem.wp]
  refine ⟨hn, ?_⟩
  rw [Sem.wp]
  exact h _ _ (Nat.mod_lt _ (Nat.pos_of_ne_zero hn))
theorem oI {α : Type} : ∀ (n : Nat) (xs : List α) (s : Shared) (Q : List α → Shared → Prop), xs.length = n → (∀ ys dr, ys.Perm xs → Q ys { s with drawn := dr }) → wpAny (model P w) A (drawOrder n xs) Q E s
  | 0, xs, s, Q, e, q => by
    have : xs = [] := List.length_eq_zero_iff.mp e
    subst this
    exact wpAny_pure (q [] s.drawn (List.Perm.refl _))
  | n + 1, [], s, Q, e, q => by simp at e
  | n + 1, y :: r, s, Q, e, q => by
    unfold drawOrder
    refine wpAny_bind (mP (by rw [e]; omega) fun i dr lt => ?_)
    have g : (y :: r)[i]? = some (y :: r)[i] := List.getElem?_eq_getElem lt
    rw [g]
    dsimp only
    refine wpAny_bind (oI n _ _ _ (by have := qE _ _ _ g; omega) fun ys dr2 p => wpAny_pure (q _ _ ((p.cons _).trans (ig _ _ _ g))))
theorem eV {Q : Bool → Shared → Prop} (q : Q (byT w) s) : wpAny (model P w) A setsByText Q E s := by
  unfold setsByText
  exact wpAny_bind (wpAny_askSetting (wpAny_pure q))
theorem n8 {slot : Nat} {Q : Option (Value × Nat) → Shared → Prop} (hb : byT w = true) (ho : s.heap.get? a = some o) (hd : o.data = .set es ep t) (hf : t.fits es.size = true)
    (q : Q ((pickOrder (w.params.setOrder a ep) es)[i]?.map fun e => (e.2, slot)) s) : wpAny (model P w) A (setNext a slot i ep) Q E s := by
  unfold setNext
  refine wpAny_bind (wpAny_setState_of ho hd hf ?_)
  dsimp only
  refine wpAny_bind (eV ?_)
  rw [hb, if_pos rfl, if_neg (by simp)]
  refine wpAny_bind ?_
  unfold setWalk
  refine wpAny_bind (wpAny_setState_of ho hd hf ?_)
  dsimp only
  refine wpAny_bind (eV ?_)
  rw [hb, if_pos rfl]
  refine wpAny_bind (wpAny_askSetting (wpAny_pure ?_))
  exact wpAny_pure q
theorem nN {slot : Nat} {Q : Option (Value × Nat) → Shared → Prop} (hb : byT w = false) (hl : t.led = true) (h1 : es.size ≤ 1) (ho : s.heap.get? a = some o) (hd : o.data = .set es ep t) (hf : t.fits es.size = true)
    (q : Q (match es[SetTable.below t.place slot]?, t.place[SetTable.below t.place slot]? with | some (_, x), some j => some (x, j + 1) | _, _ => none) s) : wpAny (model P w) A (setNext a slot i ep) Q E s := by
  unfold setNext
  refine wpAny_bind (wpAny_setState_of ho hd hf ?_)
  dsimp only
  refine wpAny_bind (eV ?_)
  rw [hb, if_neg Bool.false_ne_true]
  show wpAny _ _ (if (!t.plain && decide (es.size > 1)) = true then _ else _) _ _ _
  rw [if_neg (by simp; omega)]
  show wpAny _ _ ((if (!t.led && !es.isEmpty) = true then unsupported "set:maker-not-led" else pure ()) >>= _) _ _ _
  rw [if_neg (by simp [hl])]
  exact wpAny_bind (wpAny_pure (wpAny_pure q))
theorem mO (h1 : es.size = 1) (hf : t.fits es.size = true) : ∃ j, t.place[SetTable.below t.place 0]? = some j ∧ SetTable.below t.place 0 = 0 ∧ SetTable.below t.place (j + 1) = 1 := by
  simp only [SetTable.fits, Bool.and_eq_true, beq_iff_eq, decide_eq_true_eq] at hf
  obtain ⟨j, e⟩ := Array.size_eq_one_iff.mp (show t.place.size = 1 by rw [hf.1, h1])
  rw [e]
  refine ⟨j, ?_, ?_, ?_⟩ <;> simp [SetTable.below, SetTable.below.go]
end
end L2
set_option Elab.async false
set_option linter.all false
set_option maxRecDepth 100000
namespace L2
open PySem PyProof.Rows
theorem kJ : Slot "set_iterator" "__iter__" "set_iterator.__iter__" :=
  Slot.of (owner := "set_iterator") (n := "__iter__") (by rw [typeLookup_type, builtinLookup_eq_fast]; kernel_rfl) (by decide +kernel) (by decide +kernel) (by decide +kernel) (by first | exact .inr (by decide +kernel) | exact .inl (by decide +kernel)) (by rw [isSubtype_type]; kernel_rfl)
theorem pw : entryFor table "set_iterator.__iter__" = some Builtin.«dict_keyiterator.__iter__» :=
  entryFor_alias (id' := "dict_keyiterator.__iter__") (by kernel_rfl) (by first | rfl | decide +kernel | (unfold String.splitOn; simp +decide [String.splitOnAux])) (by decide +kernel) (by kernel_rfl)
theorem pS (a : Value) : argsOk "set_iterator.__iter__" ⟨[a], []⟩ := by
  unfold argsOk; rw [signature?_of (id := "set_iterator.__iter__") (n := "__iter__".toList.reverse) (o := "set_iterator".toList.reverse) (by kernel_rfl) lg]; kernel_rfl
section
variable {P : Program} {w : World} {A : Around} {E : Value → Shared → Prop} {s : Shared} {a I : Addr} {o : Obj} {es : Array (Int × Value)} {ep i n : Nat} {t : SetTable}
theorem im {f : Value} {Q : Value → Shared → Prop} (hi : SIt s.heap I f i a n ep) (h : Q (.ref I) s) : wpAny (model P w) A (pyIter (.ref I)) Q E s := by
  have ty : s.TypeIs (.ref I) "set_iterator" := ⟨_, hi, rfl⟩
  refine wpAny_pyIter_slot ty kJ (wpAny_call_entry kJ ty pw ?_ (pS _))
  show wpAny _ _ (ret (.ref I)) _ _ s
  exact wpAny_pure ⟨_, rfl, "set_iterator", _, ty, cJ.lookup, h⟩
theorem uT (hb : byT w = true) (hh : A.handled = none) (ne : a ≠ I) (hd : o.data = .set es ep t) (hf : t.fits es.size = true) (vs : List Value) (hv : vs = (pickOrder (w.params.setOrder a ep) es).toList.map fun e => e.2) (hn : vs.length = es.size) :
    Walks P w A I [I, a] [I] es.size (fun i v => vs[i]? = some v) (fun i h => SIt h I (.int (0 : Nat) 0) i a es.size ep ∧ h.get? a = some o) where
  sub := fun b hb => by rw [List.mem_singleton.mp hb]; exact .head _
  frame := fun _ _ _ st hk => ⟨hk I (.head _) _ st.1, hk a (.tail _ (.head _)) _ st.2⟩
  item := fun i s Q E hi st q => by
    have lt : i < (pickOrder (w.params.setOrder a ep) es).size := by rw [hv, List.length_map, Array.length_toList] at hn; omega
    have g : (pickOrder (w.params.setOrder a ep) es)[i]? = some (pickOrder (w.params.setOrder a ep) es)[i] := Array.getElem?_eq_getElem lt
    refine nY (x := (pickOrder (w.params.setOrder a ep) es)[i].2) (nx := 0) st.1 st.2 hd hf (fun B E1 Q1 q1 => n8 hb st.2 hd hf (by rw [g]; exact q1)) fun h' g' b => q _ h' s.toks ?_ ⟨g', (b.2 a ne).trans st.2⟩ fun c o hc z => (b.2 c fun y => hc (by rw [y]; exact .head _)).trans z
    rw [hv, List.getElem?_map, Array.getElem?_toList, g]; rfl
  done := fun s Q E st q => by
    have g : (pickOrder (w.params.setOrder a ep) es)[es.size]? = none := Array.getElem?_eq_none (by rw [hv, List.length_map, Array.length_toList] at hn; omega)
    exact mW hh st.1 st.2 hd hf (fun B E1 Q1 q1 => n8 hb st.2 hd hf (by rw [g]; exact q1)) fun h' b => q h' s.toks fun c o hc z => b c o (fun y => hc (by rw [y]; exact .head _)) z
  self := fun _ _ _ _ st q => im st.1 q
theorem ve {T : Addr} {oT : Obj} {pl : Array Value} {k : Nat} (hh : A.handled = none) (ne : a ≠ I) (nT : T ≠ I) (hd : o.data = .set es ep t) (hf : t.fits es.size = true) (hTd : oT.data = .seq pl k) (ps : List Nat) (hp : pl = (ps.map fun (i : Nat) => rawInt i).toArray) (hn : ps.length = es.size) (hm : ∀ p ∈ ps, p < es.size) :
    Walks P w A I [I, T, a] [I] es.size (fun i v => (ps.map fun p => (es.getD p (0, .none)).2)[i]? = some v) (fun i h => SIt h I (.ref T) i a es.size ep ∧ h.get? T = some oT ∧ h.get? a = some o) where
  sub := fun b hb => by rw [List.mem_singleton.mp hb]; exact .head _
  frame := fun _ _ _ st hk => ⟨hk I (.head _) _ st.1, hk T (.tail _ (.head _)) _ st.2.1, hk a (.tail _ (.tail _ (.head _))) _ st.2.2⟩
  item := fun i s Q E hi st q => by
    have g : ps[i]? = some (ps[i]'(by omega)) := List.getElem?_eq_getElem _
    have lt := hm _ (List.getElem_mem (l := ps) (n := i) (by omega))
    have g2 : es[ps[i]'(by omega)]? = some (es[ps[i]'(by omega)]) := Array.getElem?_eq_getElem lt
    refine qD st.1 st.2.2 hd hf st.2.1 hTd (p := ps[i]'(by omega)) (u := 0) (by rw [hp, List.getElem?_toArray, List.getElem?_map, g]; rfl) g2 fun h' g' b => q _ h' s.toks ?_ ⟨g', (b.2 T nT).trans st.2.1, (b.2 a ne).trans st.2.2⟩ fun c o hc z => (b.2 c fun y => hc (by rw [y]; exact .head _)).trans z
    rw [List.getElem?_map, g]
    simp [Array.getD, lt]
  done := fun s Q E st q => rR hh st.1 st.2.2 hd hf st.2.1 hTd (by rw [hp, List.getElem?_toArray, List.getElem?_eq_none (by rw [List.length_map]; omega)]) fun h' b => q h' s.toks fun c o hc z => b c o (fun y => hc (by rw [y]; exact .head _)) z
  self := fun _ _ _ _ st q => im st.1 q
theorem uN (hb : byT w = false) (hl : t.led = true) (h1 : es.size ≤ 1) (hh : A.handled = none) (ne : a ≠ I) (hd : o.data = .set es ep t) (hf : t.fits es.size = true) :
    ∃ g : Nat → Nat, g 0 = 0 ∧ Walks P w A I [I, a] [I] es.size (fun i v => (es.toList.map fun e => e.2)[i]? = some v) (fun i h => SIt h I (.int (g i) 0) i a es.size ep ∧ h.get? a = some o) := by
  by_cases h0 : es.size = 0
  · refine ⟨fun _ => 0, rfl, ?_, ?_, ?_, ?_, ?_⟩
    · exact fun b hb => by rw [List.mem_singleton.mp hb]; exact .head _
    · exact fun _ _ _ st hk => ⟨hk I (.head _) _ st.1, hk a (.tail _ (.head _)) _ st.2⟩
    · exact fun i s Q E hi => by omega
    · intro s Q E st q
      refine mW hh st.1 st.2 hd hf (fun B E1 Q1 q1 => nN hb hl h1 st.2 hd hf ?_) fun h' b => q h' s.toks fun c o hc z => b c o (fun y => hc (by rw [y]; exact .head _)) z
      rw [Array.getElem?_eq_none (by omega)]; exact q1
    · exact fun _ _ _ _ st q => im st.1 q
  · have e1 : es.size = 1 := by omega
    obtain ⟨j, gj, b0, b1⟩ := mO e1 hf
    obtain ⟨x, ex⟩ := Array.size_eq_one_iff.mp e1
    refine ⟨fun i => if i = 0 then 0 else j + 1, rfl, ?_, ?_, ?_, ?_, ?_⟩
    · exact fun b hb => by rw [List.mem_singleton.mp hb]; exact .head _
    · exact fun _ _ _ st hk => ⟨hk I (.head _) _ st.1, hk a (.tail _ (.head _)) _ st.2⟩
    · intro i s Q E hi st q
      obtain rfl : i = 0 := by omega
      refine nY (x := x.2) (nx := j + 1) st.1 st.2 hd hf (fun B E1 Q1 q1 => nN hb hl h1 st.2 hd hf ?_) fun h' g' b => q _ h' s.toks ?_ ⟨g', (b.2 a ne).trans st.2⟩ fun c o hc z => (b.2 c fun y => hc (by rw [y]; exact .head _)).trans z
      · show Q1 (match es[SetTable.below t.place 0]?, t.place[SetTable.below t.place 0]? with | some (_, x), some j => some (x, j + 1) | _, _ => none) s
        rw [gj, b0, ex]; exact q1
      · rw [ex]; rfl
    · intro s Q E st q
      rw [e1] at st
      refine mW (slot := j + 1) (i := 1) hh (by rw [e1]; exact st.1) st.2 hd hf (fun B E1 Q1 q1 => nN hb hl h1 st.2 hd hf ?_) fun h' b => q h' s.toks fun c o hc z => b c o (fun y => hc (by rw [y]; exact .head _)) z
      rw [b1, Array.getElem?_eq_none (by omega)]; exact q1
    · exact fun _ _ _ _ st q => im st.1 q
end
end L2
set_option Elab.async false
set_option linter.all false
set_option maxRecDepth 100000
namespace L2
open PySem PyProof.Rows
theorem sZ {α : Type} (d : α) (es : Array α) : ((List.range es.size).map fun p => es.getD p d) = es.toList := by
  apply List.ext_getElem?
  intro i
  rw [List.getElem?_map]
  by_cases h : i < es.size
  · rw [List.getElem?_range h, List.getElem?_eq_getElem (by rw [Array.length_toList]; exact h)]; simp [Array.getD, h]
  · rw [List.getElem?_eq_none (by simp; omega), List.getElem?_eq_none (by rw [Array.length_toList]; omega)]; rfl
section
variable {P : Program} {w : World} {A : Around} {E : Value → Shared → Prop} {s : Shared} {a : Addr} {ls : List (List Nat)}
def Seen (ls : List (List Nat)) (vs : List Value) : Prop := (∀ v ∈ vs, IsS v) ∧ (vs.map cQ).Nodup ∧ (∀ l, l ∈ vs.map cQ ↔ l ∈ ls) ∧ vs.length < scanBound
theorem Seen.of {ls : List (List Nat)} {vs : List Value} {es : Array (Int × Value)} (p : vs.Perm (es.toList.map fun e => e.2)) (hel : ElemsOf (skd P w) es.toList) (hb : es.size < scanBound) (nd : (es.toList.map fun e => cQ e.2).Nodup) (hm : ∀ l, l ∈ es.toList.map (fun e => cQ e.2) ↔ l ∈ ls) : Seen ls vs := by
  have pm : (vs.map cQ).Perm (es.toList.map fun e => cQ e.2) := by
    have := p.map cQ
    rwa [List.map_map] at this
  refine ⟨fun v m => ?_, pm.nodup_iff.mpr nd, fun l => pm.mem_iff.trans (hm l), ?_⟩
  · obtain ⟨e, me, rfl⟩ := List.mem_map.mp (p.mem_iff.mp m)
    exact qK hel me
  · rw [p.length_eq, List.length_map, Array.length_toList]; exact hb
theorem vv {Q : Value → Shared → Prop} (hh : A.handled = none) (x : SetTx P w s.heap a ls (!byT w))
    (q : ∀ (h' : Heap) dr (I : Addr) (fp : List Addr) (n : Nat) (vs : List Value) (St : Nat → Heap → Prop), s.heap.objs.size ≤ I → (∀ b ∈ fp, b = a ∨ s.heap.objs.size ≤ b) → (∀ b o, s.heap.get? b = some o → h'.get? b = some o) → Walks P w A I fp [I] n (fun i v => vs[i]? = some v) St → St 0 h' → vs.length = n → Seen ls vs → Q (.ref I) { s with heap := h', drawn := dr }) :
    wpAny (model P w) A (pyIter (.ref a)) Q E s := by
  obtain ⟨o, es, ep, t, ho, hex, hd, hel, hb, hf, hld, hpl, hnd, hmem⟩ := x
  have ty : s.TypeIs (.ref a) "set" := ⟨o, ho, hex.1⟩
  have la := Heap.lt_size ho
  refine wpAny_pyIter_slot ty F.slot_set_iter (wpAny_call_entry F.slot_set_iter ty rk ?_ (F.args_set_iter_1 _))
  unfold Builtin.«frozenset.__iter__»
  refine wpAny_bind ?_
  show wpAny _ _ (pure a) _ _ _
  refine wpAny_pure ?_
  unfold Builtin.Frozenset.sizeOf setEntries setEpoch
  refine wpAny_bind (wpAny_bind (wpAny_bind (wpAny_setState_of ho hd hf (wpAny_pure (wpAny_pure ?_)))))
  unfold setDrawn
  refine wpAny_bind (wpAny_bind (wpAny_setState_of ho hd hf ?_))
  dsimp only
  refine wpAny_bind (eV (wpAny_pure ?_))
  show wpAny _ _ (if (!byT w && (!t.plain && decide (es.size > 1))) = true then _ else _) _ _ _
  by_cases c : (!byT w && (!t.plain && decide (es.size > 1))) = true
  · rw [if_pos c]
    refine wpAny_bind (oI _ _ _ _ List.length_range fun ps dr pm => wpAny_bind (wpAny_newTuple ?_ (by rw [List.length_map, pm.length_eq, List.length_range]; exact fits_of_scanBound hb)))
    refine wpAny_bind (wpAny_bind (wpAny_setState_of (Heap.get?_push_of_some _ ho) hd hf (wpAny_pure ?_)))
    refine wpAny_bind (wpAny_newObj_type (wpAny_pure ⟨_, rfl, "set_iterator", _, ⟨_, Heap.get?_push_size _ rfl, rfl⟩, cJ.lookup, ?_⟩))
    have len : ps.length = es.size := by rw [pm.length_eq, List.length_range]
    refine q _ dr _ _ es.size _ _ (by rw [Heap.size_push]; exact Nat.le_succ _) (fun b m => ?_) (fun b o' e => Heap.get?_push_of_some _ (Heap.get?_push_of_some _ e)) (ve hh (Nat.ne_of_lt (by rw [Heap.size_push]; exact Nat.lt_succ_of_lt la)) (T := s.heap.objs.size) (Nat.ne_of_lt (by rw [Heap.size_push]; exact Nat.lt_succ_self _)) hd hf rfl ps rfl len fun p m => List.mem_range.mp (pm.mem_iff.mp m)) ⟨Heap.get?_push_size _ rfl, Heap.get?_push_of_some _ (Heap.get?_push_size _ rfl), Heap.get?_push_of_some _ (Heap.get?_push_of_some _ ho)⟩ (by rw [List.length_map]; exact len) (Seen.of ?_ hel hb hnd hmem)
    · rcases List.mem_cons.mp m with e | m
      · rw [e, Heap.size_push]; exact .inr (Nat.le_succ _)
      · rcases List.mem_cons.mp m with e | m
        · rw [e]; exact .inr (Nat.le_refl _)
        · exact .inl (List.mem_singleton.mp m)
    · have := (pm.map fun p => (es.getD p (0, Value.none))).map fun e : Int × Value => e.2
      rw [sZ, List.map_map] at this
      exact this
  · rw [if_neg c]
    refine wpAny_bind (wpAny_pure ?_)
    refine wpAny_bind (wpAny_bind (wpAny_setState_of ho hd hf (wpAny_pure ?_)))
    refine wpAny_bind (wpAny_newObj_type (wpAny_pure ⟨_, rfl, "set_iterator", _, ⟨_, Heap.get?_push_size _ rfl, rfl⟩, cJ.lookup, ?_⟩))
    have mm : ∀ b ∈ [s.heap.objs.size, a], b = a ∨ s.heap.objs.size ≤ b := fun b m => by
      rcases List.mem_cons.mp m with e | m
      · rw [e]; exact .inr (Nat.le_refl _)
      · exact .inl (List.mem_singleton.mp m)
    cases cb : byT w with
    | true =>
      have pm : ((pickOrder (w.params.setOrder a ep) es).toList.map fun e => e.2).Perm (es.toList.map fun e => e.2) := (oB _ _ 0 _ #[] (Array.length_toList)).map fun e : Int × Value => e.2
      have len : ((pickOrder (w.params.setOrder a ep) es).toList.map fun e => e.2).length = es.size := by rw [pm.length_eq, List.length_map, Array.length_toList]
      exact q _ s.drawn _ _ es.size _ _ (Nat.le_refl _) mm (fun b o' e => Heap.get?_push_of_some _ e) (uT cb hh (Nat.ne_of_lt la) hd hf _ rfl len) ⟨Heap.get?_push_size _ rfl, Heap.get?_push_of_some _ ho⟩ len (Seen.of pm hel hb hnd hmem)
    | false =>
      rw [cb] at hld c
      have h1 : es.size ≤ 1 := by
        by_cases z : es.size ≤ 1
        · exact z
        · exact absurd (by rw [hpl (by omega)]; simp; omega) c
      obtain ⟨g, g0, W⟩ := uN (A := A) (I := s.heap.objs.size) (P := P) (a := a) (o := o) cb hld h1 hh (Nat.ne_of_lt la) hd hf
      exact q _ s.drawn _ _ es.size _ _ (Nat.le_refl _) mm (fun b o' e => Heap.get?_push_of_some _ e) W ⟨by rw [g0]; exact Heap.get?_push_size _ rfl, Heap.get?_push_of_some _ ho⟩ (by rw [List.length_map, Array.length_toList]) (Seen.of (List.Perm.refl _) hel hb hnd hmem)
end
end L2
set_option Elab.async false
set_option linter.all false
set_option maxRecDepth 100000
namespace L2
open PySem PyProof.Rows
section
variable {P : Program} {w : World} {A : Around} {E : Value → Shared → Prop} {s : Shared} {a : Addr} {ls : List (List Nat)}
theorem vL {Q : Bool → Shared → Prop} (ty : s.TypeIs (.ref a) "set") (q : Q false s) : wpAny (model P w) A (Builtin.List.listLengthHint (.ref a)) Q E s := by
  unfold Builtin.List.listLengthHint
  refine wpAny_bind (wpAny_specialOf ty F.slot_set_len.lookup ?_)
  generalize z : ("set.__len__" : String) = nm
  wp_delta
  rw [show splitId nm = some ("set", "__len__") from by subst z; decide +kernel]
  subst z
  refine wpAny_bind (wpAny_isInstance (T := "set") (b := true) ty (by rw [isSubtype_type]; kernel_rfl) ?_)
  refine wpAny_ite_split (fun y => absurd y (by decide)) fun _ => ?_
  refine wpAny_ite_split (fun _ => ?_) fun y => absurd (by decide +kernel) y
  exact wpAny_bind (wpAny_typeOf ty (wpAny_pure q))
set_option maxHeartbeats 1600000 in
theorem xn {R : Result → Shared → Prop} {S : Addr} {res : Value} {c : Nat} (hh : A.handled = none) (x : SetTx P w s.heap a ls (!byT w)) (ne : S ≠ a) (hS : s.heap.get? S = some { cls := .type "list", data := .seq #[] c })
    (q : ∀ h' dr tk acc' c', (∀ b o, b ≠ S → s.heap.get? b = some o → h'.get? b = some o) → h'.get? S = some { cls := .type "list", dict := none, data := .seq acc' c', slots := #[] } → Seen ls acc'.toList → R (.ok (.ret res)) { s with heap := h', drawn := dr, toks := tk }) :
    wpAny (model P w) A.in1 (Builtin.List.listExtendWith (.ref S) (.ref a) res) (fun fin s' => match fin with | .done f => R (.ok f) s' | .again c' => c'.quiet = true ∧ codeAny (model P w) A c' R s') (fun e s' => R (.error e) s') s := by
  have lS := Heap.lt_size hS
  have ty : ∀ (s2 : Shared), (∀ b o, s.heap.get? b = some o → s2.heap.get? b = some o) → s2.TypeIs (.ref a) "set" := fun s2 k => by
    obtain ⟨o, es, ep, t, ho, hex, _⟩ := x
    exact ⟨o, k _ _ ho, hex.1⟩
  unfold Builtin.List.listExtendWith
  refine wpAny_bind (wpAny_typeOf (T := "set") (ty s fun _ _ e => e) ?_)
  have e1 : Builtin.List.listSameRef (.ref S) (.ref a) = false := by simp [Builtin.List.listSameRef, ne]
  have e2 : (Value.type "set" == Value.type "list") = false := by decide
  have e3 : (Value.type "set" == Value.type "tuple") = false := by decide
  simp only [e1, e2, e3, Bool.or_false, Bool.false_eq_true, if_false]
  refine wpAny_bind (vv (A := A.in1) hh x fun h1 dr I fp n vs St lI hfp kp W st hn sn => ?_)
  have nS : S ∉ fp := fun m => by
    rcases hfp S m with e | e
    · exact ne e
    · exact absurd lS (Nat.not_lt.mpr e)
  have hn2 : n ≤ sizeLine := by rw [← hn]; exact fits_of_scanBound sn.2.2.2
  have fin : ∀ (h : Heap) (c1 tk : Nat), St 0 h → (∀ b o, b ≠ S → s.heap.get? b = some o → h.get? b = some o) → h.get? S = some { cls := .type "list", data := .seq #[] c1 } →
      codeAny (model P w) A (.builtin "list.extend.loop" ⟨[.ref S, .ref I, res], []⟩) R { s with heap := h, drawn := dr, toks := tk } := fun h c1 tk st1 k1 g1 => by
    refine codeAny_extend_loopS W.toS hn2 S nS res n 0 _ #[] c1 rfl (Nat.zero_le _) st1 g1 (ItemsOf.nil _) fun s' acc c' mv g2 it => ?_
    rw [Moved.eq_with mv]
    have ev : acc.toList = vs := by
      apply List.ext_getElem?
      intro i
      by_cases hi : i < n
      · have y : acc.toList[i]? = some (acc.toList[i]'(by rw [Array.length_toList]; have := it.1; omega)) := List.getElem?_eq_getElem _
        rw [y]
        exact (it.2 i _ (by rw [← Array.getElem?_toList]; exact y)).symm
      · rw [List.getElem?_eq_none (by rw [Array.length_toList, it.1]; omega), List.getElem?_eq_none (by omega)]
    refine q s'.heap dr s'.toks acc c' (fun b o hb e => mv.heap b o (fun m => ?_) (k1 b o hb e)) g2 (by rw [ev]; exact sn)
    rcases List.mem_cons.mp m with m | m
    · exact hb m
    · have := Heap.lt_size e
      rw [List.mem_singleton.mp m] at this
      exact absurd this (Nat.not_lt.mpr lI)
  have g1 := kp _ _ hS
  refine wpAny_bind (wpAny_holding (vL (ty _ kp) ?_))
  refine wpAny_ite_split (fun _ => ?_) fun _ => wpAny_pure ⟨plainId_quiet PySem.F.plain_extend_loop _, fin _ c _ st (fun b o _ e => kp b o e) g1⟩
  refine wpAny_bind (wpAny_rule (wpAny_bind ?_))
  show wpAny _ _ (updateSeq S (·.push .none) >>= fun _ => updateSeq S (·.pop)) _ _ _
  refine wpAny_bind (wpAny_updateSeq g1 rfl ?_)
  have g2 := Heap.get?_update_self (Obj.mapSeq (·.push Value.none)) g1 rfl
  refine wpAny_updateSeq (hz := by seq_fits) g2 rfl ?_
  have g3 := Heap.get?_update_self (Obj.mapSeq (·.pop)) g2 rfl
  have ot : ∀ b o, b ≠ S → h1.get? b = some o → ((h1.update S (Obj.mapSeq (·.push Value.none))).update S (Obj.mapSeq (·.pop))).get? b = some o := fun b o hb e => (Heap.get?_update_other _ _ (Ne.symm hb)).trans ((Heap.get?_update_other _ _ (Ne.symm hb)).trans e)
  exact wpAny_pure ⟨plainId_quiet PySem.F.plain_extend_loop _, fin _ _ _ (W.frame 0 _ _ st fun b hb o e => ot b o (fun y => nS (y ▸ hb)) e) (fun b o hb e => ot b o hb (kp b o e)) g3⟩
theorem xm {R : List Value → Shared → Prop} (hh : A.handled = none) (x : SetTx P w s.heap a ls (!byT w))
    (q : ∀ (h' : Heap) dr (tk : Nat) (vs : List Value), (∀ b o, s.heap.get? b = some o → h'.get? b = some o) → Seen ls vs → R vs { s with heap := h', drawn := dr, toks := tk }) :
    wpAny (model P w) A (collect (.ref a)) R E s := by
  have la : a < s.heap.objs.size := by obtain ⟨o, _, _, _, ho, _⟩ := x; exact Heap.lt_size ho
  unfold collect
  refine wpAny_bind (wpAny_runValue (codeAny_builtin entry_proto_collect' ?_))
  rw [Around.under_plainId PySem.F.plain_proto_collect _]
  show wpAny _ A.in1 (newList [] >>= fun l => again (.builtin "list.__iadd__" ⟨[l, .ref a], []⟩)) _ _ s
  refine wpAny_bind (wpAny_newObj_type (wpAny_pure ⟨plainId_quiet PySem.F.plain_list_iadd _, codeAny_builtin entry_list_iadd' ?_⟩))
  rw [Around.under_plainId PySem.F.plain_list_iadd _]
  show wpAny _ A.in1 (Builtin.List.listExtendWith (.ref s.heap.objs.size) (.ref a) (.ref s.heap.objs.size)) _ _ _
  refine wpAny_mono (xn (A := A) (c := 0) (s := { s with heap := s.heap.push { cls := .type "list", data := .seq ([] : List Value).toArray } })
    (R := fun (r : Result) (s' : Shared) => ∃ h' dr tk acc c', r = .ok (.ret (.ref s.heap.objs.size)) ∧ s' = { s with heap := h', drawn := dr, toks := tk } ∧ (∀ b o, s.heap.get? b = some o → h'.get? b = some o) ∧ h'.get? s.heap.objs.size = some { cls := .type "list", dict := none, data := .seq acc c', slots := #[] } ∧ Seen ls acc.toList)
    (S := s.heap.objs.size) (res := .ref s.heap.objs.size) hh (x.mv fun o e => Heap.get?_push_of_some _ e) (Nat.ne_of_gt la) (Heap.get?_push_size _ rfl) fun h' dr tk acc c' k g sn => ⟨h', dr, tk, acc, c', rfl, rfl, fun b o e => k b o (Nat.ne_of_lt (Heap.lt_size e)) (Heap.get?_push_of_some _ e), g, sn⟩) (fun fin s' y => ?_) fun e s' y => ?_
  · cases fin with
    | done f =>
      obtain ⟨h', dr, tk, acc, c', e, rfl, k, g, sn⟩ := y
      cases e
      exact wpAny_bind (wpAny_load g (wpAny_pure (q h' dr tk acc.toList k sn)))
    | again c1 =>
      refine ⟨y.1, codeAny_mono y.2 fun r s2 z => ?_⟩
      obtain ⟨h', dr, tk, acc, c', rfl, rfl, k, g, sn⟩ := z
      exact wpAny_bind (wpAny_load g (wpAny_pure (q h' dr tk acc.toList k sn)))
  · obtain ⟨_, _, _, _, _, z, _⟩ := y
    cases z
end
end L2
set_option Elab.async false
set_option linter.all false
set_option maxRecDepth 100000
namespace L2
open PySem PySem.Spec PyProof.Rows
section
variable {X : Cx} {x y : Str} {p p2 pos pos2 : Pos} {e : Expr} {te : TE} {pins : List (Addr × Obj)} {σ : St} {H : Hp} {s : Shared}
theorem Inv.drw {dr} (I : Inv X pins σ H s) : Inv X pins σ H { s with drawn := dr } := ⟨I.ok, I.os, I.bare, I.base, I.loc, I.cell, I.free, I.freeC, I.pin, I.hok, I.len⟩
def xr (K : PySem.W.Frag) (v : V) (H : Hp) (Q : VK) : Prop := ∃ (p : Addr) (ls : List (List Nat)), v = .ref p ∧ SqL K H p (ls.map T) ∧ ls.length < 4000 ∧ (∀ ds : List (List Nat), ds.Nodup → (∀ l ∈ ds, l ∈ ls) → ds.length < 64) ∧ ∀ out : List (List Nat), InO out → out.Nodup → (∀ l, l ∈ out ↔ l ∈ ls) → ∀ l, H l = none → Q (.ref l) (upd H l (.lst (out.map T)))
def wP (K : PySem.W.Frag) (te : TE) : TE := fun σ H Q => te σ H fun v H1 => xr K v H1 Q
theorem lx : ∀ {ls : List (List Nat)} {its : List Value}, Vals (ls.map T) its → ∀ (i : Nat) (v : Value), its[i]? = some v → ∃ x tk, v = .str x tk ∧ cs x = ls.getD i []
  | [], [], _, i, v, e => by simp at e
  | l :: ls, u :: us, .cons r r2, 0, v, e => by
    cases e
    obtain ⟨tk, z⟩ := r
    exact ⟨_, tk, z, rfl⟩
  | l :: ls, u :: us, .cons r r2, i + 1, v, e => lx r2 i v e
set_option maxHeartbeats 1600000 in
theorem nu (K : PySem.W.Frag) (hc : X.calm = true) (hg : Gl X x) (hm : X.mg x = none) (hv : bootBuiltins x = some (.builtin "sorted")) (hg2 : Gl X y) (hm2 : X.mg y = none) (hv2 : bootBuiltins y = some (.type "set")) (he : PE X e te)
    (hn : x ≠ "__name__" := by decide) (hdb : (x == ("__debug__" : Str)) = false := by decide) (hn2 : y ≠ "__name__" := by decide) (hdb2 : (y == ("__debug__" : Str)) = false := by decide) (hK : X.K = K := by rfl)
    (hs : starEach [e] X.env = [(false, eval e X.env)] := by rfl) (hs2 : starEach [.Call (.Name y p2) [e] [] pos2] X.env = [(false, eval (.Call (.Name y p2) [e] [] pos2) X.env)] := by rfl) :
    PE X (.Call (.Name x p) [.Call (.Name y p2) [e] [] pos2] [] pos) (wP K te) := by
  subst hK
  intro pins s σ H Q I h
  refine wpAny_Call_Name_kw (fu I hg hm hv ?_ hn hdb)
  rw [hs2]
  refine PySem.Calls.callWith_builtin rfl (Calls.evalArgs_plain (Calls.spliced_cons ?_))
  refine wpAny_Call_Name_kw (fu I hg2 hm2 hv2 ?_ hn2 hdb2)
  rw [hs]
  refine PySem.callWith_type rfl (Calls.evalArgs_plain (Calls.spliced_cons (thn (he pins s σ H _ I h) fun u s1 ⟨v, H1, I1, r1, q1⟩ => Calls.spliced_nil ?_)))
  obtain ⟨p, ls, rfl, hq, h4, h64, q⟩ := q1
  cases (show u = Value.ref p from r1)
  obtain ⟨its, r', pl, hz⟩ := I1.list hq
  have hd : X.A.handled = none := I1.ok.hd hc
  have ln : its.length = ls.length := by have := r'.length; rw [List.length_map] at this; omega
  refine wj (its := its.toArray) (ls := ls) hd pl.isList ⟨ln, fun i v e => lx r' i v (by simpa using e)⟩ (by rw [List.size_toArray, ln]; exact Nat.lt_trans (Nat.succ_lt_succ h4) (by decide)) fun h1 tk hS kp => ?_
  have I2 : Inv X pins σ H1 { s1 with heap := h1, toks := tk } := I1.kept fun b o e => kp b o (Heap.lt_size e) e
  refine Calls.spliced_nil ?_
  refine Calls.call_function_entry kind_sorted plain_sorted entry_sorted (args_sorted1 _) ?_
  unfold Builtin.«sorted»
  refine wpAny_bind (m := checkCount "sorted" 1 1 _) (wpAny_pure ?_)
  refine wpAny_bind (xm (A := X.A.in1) hd hS fun h2 dr tk2 vs kp2 sn => ?_)
  obtain ⟨hv, nd, mm, sb⟩ := sn
  obtain ⟨ss, hSs⟩ := iH hv
  have len2 : vs.length < 64 := by have := h64 (vs.map cQ) nd fun l m => (mm l).mp m; rwa [List.length_map] at this
  refine wpAny_bind (wpAny_newList ?_)
  have hoL : (h2.push (seqObj "list" vs.toArray 0)).get? h2.objs.size = some (seqObj "list" vs.toArray 0) := Heap.get?_push_size _ rfl
  refine wpAny_bind (wpAny_holding (wpAny_call_entry slot_list_sort ⟨_, hoL, rfl⟩ entry_list_sort (list_sort_treeK strKind_oneLt hoL hSs.keysOf (fun v₁ v₂ rest e => keyKind_strs (by rw [← e]; exact hSs)) len2 fun st' hp hs => ⟨_, rfl, ?_⟩) (args_list_sort _)))
  refine wpAny_pure ⟨_, rfl, ?_⟩
  obtain ⟨p1, o1⟩ := on hv hp hs
  generalize hout : (arrOf st').map (·.2) = out at p1 o1
  obtain ⟨c, ea⟩ := sortedHeap_at (out := out) hoL
  have I3 : Inv X pins σ H1 { s1 with heap := h2, toks := tk2, drawn := dr } := (I2.drw (dr := dr)).kept kp2
  have kp3 : ∀ b o, h2.get? b = some o → (sortedHeap (h2.push (seqObj "list" vs.toArray 0)) h2.objs.size vs out).get? b = some o := fun b o e => by
    have l1 := Heap.lt_size e
    rw [sortedHeap_old (Nat.ne_of_lt l1) (by rw [size_push']; exact Nat.lt_succ_of_lt l1), Heap.get?_push_ne _ _ _ (Nat.ne_of_lt l1)]
    exact e
  have hv2 : ∀ v ∈ out.toList, IsS v := fun v m => hv v (p1.mem_iff.mp m)
  have pm : (out.toList.map cQ).Perm (vs.map cQ) := p1.map cQ
  refine ⟨.ref h2.objs.size, _, I3.laid (t' := tk2) (a := h2.objs.size) kp3 (Nat.le_refl _) (show ObjOk X.prog X.w _ _ _ (.lst ((out.toList.map cQ).map T)) from ⟨?_, out.toList, c, iI hv2, by rw [Array.toArray_toList]; exact ea⟩), rfl, q _ o1 (pm.nodup_iff.mpr nd) (fun l => pm.mem_iff.trans (mm l)) _ (I3.hok.fresh (Nat.le_refl _))⟩
  rw [List.length_map, pm.length_eq, List.length_map, sizeLine_eq]; omega
end
end L2
set_option Elab.async false
set_option linter.all false
set_option maxRecDepth 100000
namespace L2
open PySem PyProof.Rows
section
variable {X : Cx}
def qp (te : TE) : TE := fun σ H Q => te σ H fun v H1 => Th H H1 (Q v) ∨ Q v H1
theorem lT {e : Expr} {te : TE} (he : PE X e te) : PE X e (qp te) := by
  intro pins s σ H Q I h
  refine thn (he pins s σ H _ I h) fun u s1 ⟨v, H1, I1, r, q⟩ => ?_
  rcases q with q | q
  · obtain ⟨H2, I2, q2⟩ := I.th I1 q
    exact ⟨v, H2, I2, r, q2⟩
  · exact ⟨v, H1, I1, r, q⟩
theorem xa {n : Nat} {g : TG} {ks : List Nat} {tt : TT} {te : TE} {σ : St} {H1 : Hp} {Q : VK} (b : Addr) (o : Obj) (u : HO) (P : Addr → Nat → List V → Hp → Prop)
    (h0 : ∀ D, H1 D = none → P D 0 [] (upd H1 D (.lst []))) (hD : ∀ D i ys H', P D i ys H' → H' D = some (.lst ys) ∧ H' b = some (.frz o u) ∧ ys.length ≤ i) (hz : dl u < sizeLine)
    (hs : ∀ D i x v ys H' r (zs : St) (N1 : VK) (N0 : Hp → Prop), i < dl u → jq H' u i x v → H' r = none → P D i ys H' → zs.length = n → (∀ v H6, H6 D = some (.lst ys) → P D (i + 1) (ys ++ [v]) (upd H6 D (.lst (ys ++ [v]))) → N1 v H6) → (∀ H6, P D (i + 1) ys H6 → N0 H6) →
      g (.ref r) (zs ++ ks.map fun k => (σ[k]?).join) (upd H' r (.tup [x, v])) fun σ4 H4 => (∃ zs4 : St, zs4.length = n ∧ σ4 = zs4 ++ ks.map fun k => (σ[k]?).join) ∧ tt σ4 H4 fun b H5 => if b = true then te σ4 H5 N1 else N0 H5)
    (hd : ∀ D ys H', P D (dl u) ys H' → Q (.ref D) H') : CEl (Iti b o u) n g ks tt te σ H1 Q := by
  intro D hDn
  refine ⟨fun i m ys H' => m = dl u - i ∧ i ≤ dl u ∧ P D i ys H', ⟨_, rfl, Nat.zero_le _, h0 D hDn⟩, ?_⟩
  rintro i m ys H' ⟨rfl, hi, p⟩
  obtain ⟨d1, d2, d3⟩ := hD D i ys H' p
  refine ⟨d1, ?_⟩
  rcases Nat.lt_or_ge i (dl u) with lt | ge
  · refine .inr ⟨⟨lt, d2⟩, ?_⟩
    rintro y H3 ⟨r, x, v, hr, rfl, hx, rfl⟩ zs hzs
    exact hs D i x v ys _ r zs _ _ lt hx hr p hzs (fun v H6 h6 p6 => ⟨h6, by omega, _, by omega, rfl, lt, p6⟩) fun H6 p6 => ⟨_, by omega, rfl, lt, p6⟩
  · obtain rfl : i = dl u := Nat.le_antisymm hi ge
    exact .inl ⟨⟨Nat.le_refl _, d2⟩, hd D ys H' p⟩
theorem cmI {K : PySem.W.Frag} {ks : List Nat} {tt : TT} {te : TE} {σ : St} {H H1 : Hp} {Q : VK} (b : Addr) (kvs : List (Key × V)) (p : V → V → Bool) (f : V → V → V) (sm : Same H H1) (hb : H1 b = some (.dK kvs)) (hz : kvs.length < sizeLine)
    (hp : ∀ k v, (k, v) ∈ kvs → ∀ G (R : Bool → Hp → Prop), R (p (kV k) v) G → tt (some (kV k) :: some v :: ks.map fun k => (σ[k]?).join) G R)
    (hf : ∀ k v, (k, v) ∈ kvs → p (kV k) v = true → ∀ G (R : VK), R (f (kV k) v) G → te (some (kV k) :: some v :: ks.map fun k => (σ[k]?).join) G R)
    (q : ∀ D H2, Same H H2 → H D = none → H2 D = some (.lst ((kvs.filter fun e => p (kV e.1) e.2).map fun e => f (kV e.1) e.2)) → Q (.ref D) H2) :
    ∃ c u, b = c ∧ isD u = true ∧ Rd H1 c u ∧ ∀ o, (H1 c = some u ∨ H1 c = some (.frz o u)) → CEl (Iti c o u) 2 (r9 K 2 (nW (e_ 0) (nW (e_ 1) vz))) ks tt te σ (upd H1 c (.frz o u)) fun v H2 => Th H H2 (Q v) ∨ Q v H2 := by
  refine ⟨b, .dK kvs, rfl, rfl, .inl hb, fun o _ => xa b o (.dK kvs) (fun D i ys G => G D = some (.lst ys) ∧ G b = some (.frz o (.dK kvs)) ∧ H D = none ∧ D ≠ b ∧ (∀ c z, c ≠ b → H c = some z → G c = some z) ∧ ys = ((kvs.take i).filter fun e => p (kV e.1) e.2).map fun e => f (kV e.1) e.2) ?_ ?_ hz ?_ ?_⟩
  · intro D hD
    have nb : D ≠ b := fun z => by rw [z, ad] at hD; cases hD
    rw [ai nb] at hD
    refine ⟨ad, (ai (Ne.symm nb)).trans ad, sm.free hD, nb, fun c z cb e => ?_, rfl⟩
    rw [ai (ak (sm _ _ e) hD), ai cb]; exact sm _ _ e
  · rintro D i ys G ⟨g1, g2, _, _, _, rfl⟩
    refine ⟨g1, g2, ?_⟩
    rw [List.length_map]
    exact Nat.le_trans (List.length_filter_le _ _) (by rw [List.length_take]; omega)
  · rintro D i x v ys G r zs N1 N0 hi ⟨k, hk, rfl⟩ hr ⟨g1, g2, hD, nb, kp, rfl⟩ hzs n1 n0
    obtain ⟨z1, z2, rfl⟩ := ex2 hzs
    have mk := List.mem_of_getElem? hk
    have et : kvs.take (i + 1) = kvs.take i ++ [(k, v)] := by rw [List.take_succ, hk]; rfl
    rw [et, List.filter_append] at n1 n0
    have rD : r ≠ D := fun z => by rw [z, g1] at hr; cases hr
    have rb : r ≠ b := fun z => by rw [z, g2] at hr; cases hr
    have gD : (upd G r (.tup [kV k, v])) D = some (.lst (((kvs.take i).filter fun e => p (kV e.1) e.2).map fun e => f (kV e.1) e.2)) := (ai (Ne.symm rD)).trans g1
    have gb : (upd G r (.tup [kV k, v])) b = some (.frz o (.dK kvs)) := (ai (Ne.symm rb)).trans g2
    have gk : ∀ c z, c ≠ b → H c = some z → (upd G r (.tup [kV k, v])) c = some z := fun c z cb e => by
      have := kp c z cb e
      rw [ai (ak this hr)]; exact this
    refine ⟨r, _, rfl, SqT.of ad, rfl, _, _, rfl, _, _, rfl, rfl, ⟨[some (kV k), some v], rfl, rfl⟩, hp k v mk _ _ ?_⟩
    cases c : p (kV k) v with
    | true =>
      rw [if_pos rfl]
      refine hf k v mk c _ _ (n1 _ _ gD ⟨ad, (ai (Ne.symm nb)).trans gb, hD, nb, fun c' z cb e => ?_, ?_⟩)
      · rw [ai (ak e hD)]; exact gk c' z cb e
      · rw [List.filter_cons_of_pos (by exact c), List.filter_nil, List.map_append]; rfl
    | false =>
      rw [if_neg Bool.false_ne_true]
      refine n0 _ ⟨gD, gb, hD, nb, gk, ?_⟩
      rw [List.filter_cons_of_neg (by rw [c]; decide), List.filter_nil, List.append_nil]
  · rintro D ys G ⟨g1, g2, hD, nb, kp, rfl⟩
    have e1 : kvs.take (dl (.dK kvs)) = kvs := List.take_of_length_le (Nat.le_refl _)
    rw [e1] at g1
    cases hH : H b with
    | none => exact .inr (q D G (fun c z e => kp c z (ak e hH) e) hD g1)
    | some z =>
      have ez : z = .dK kvs := by have := sm _ _ hH; rw [hb] at this; exact (Option.some.inj this).symm
      subst ez
      refine .inl ⟨b, o, .dK kvs, g2, .inl ⟨hH, rfl, q D _ (fun c z e => ?_) hD ((ai nb).trans g1)⟩⟩
      by_cases cb : c = b
      · rw [cb, ad, ← e, cb, hH]
      · rw [ai cb]; exact kp c z cb e
theorem qR {K : PySem.W.Frag} {td : TE} {n : Nat} {g : TG} {ks : List Nat} {tt : TT} {te : TE} {σ : St} {H : Hp} {Q : VK} (h : td σ H fun x H1 => ∃ b u, x = .ref b ∧ isD u = true ∧ Rd H1 b u ∧ ∀ o, (H1 b = some u ∨ H1 b = some (.frz o u)) → CEl (Iti b o u) n g ks tt te σ (upd H1 b (.frz o u)) fun v H2 => Th H H2 (Q v) ∨ Q v H2) : qp (dS (qZ td) n g ks tt te) σ H Q := h
end
end L2
set_option Elab.async false
set_option linter.all false
namespace L2
open PySem
def kI : Key → Int
  | .inl i => i
  | .inr _ => 0
def vI : V → Int
  | .int i => i
  | _ => 0
def sE (P : Int → Bool) : List (Key × V) → Int
  | [] => 0
  | e :: m => (if P (kI e.1) = true then vI e.2 else 0) + sE P m
theorem nK (P : Int → Bool) : ∀ m : List (Key × V), ((m.filter fun e => P (kI e.1)).map fun e => vI e.2).sum = sE P m
  | [] => rfl
  | e :: m => by
    by_cases c : P (kI e.1) = true
    · rw [List.filter_cons_of_pos (by exact c), List.map_cons, List.sum_cons, nK P m, sE, if_pos c]
    · rw [List.filter_cons_of_neg (by exact c), nK P m, sE, if_neg c, Int.zero_add]
theorem qh (P : Int → Bool) : ∀ m l : List (Key × V), sE P (m ++ l) = sE P m + sE P l
  | [], l => by simp [sE]
  | e :: m, l => by rw [List.cons_append, sE, sE, qh P m l, Int.add_assoc]
theorem p8 (P : Int → Bool) (d x g : Int) : ∀ m : List (Key × V), (m.map (·.1)).Nodup → (.inl d, .int g) ∈ m → sE P (m.map fun kv => if kv.1 = (.inl d : Key) then (kv.1, V.int (g + x)) else kv) = sE P m + if P d = true then x else 0
  | [], _, h => nomatch h
  | e :: m, nd, h => by
    rw [List.map_cons] at nd
    obtain ⟨n1, n2⟩ := List.nodup_cons.mp nd
    rw [List.map_cons, sE, sE]
    by_cases c : e.1 = .inl d
    · have ee : e = (.inl d, .int g) := by
        rcases List.mem_cons.mp h with h | h
        · exact h.symm
        · exact absurd (List.mem_map_of_mem (f := (·.1)) h) (by rw [← c]; exact n1)
      have id : m.map (fun kv => if kv.1 = (.inl d : Key) then (kv.1, V.int (g + x)) else kv) = m := by
        conv => rhs; rw [← List.map_id m]
        refine List.map_congr_left fun kv mk => if_neg fun z => n1 ?_
        rw [c, ← z]; exact List.mem_map_of_mem mk
      rw [id, if_pos c, ee]
      show (if P d = true then g + x else 0) + _ = (if P d = true then g else 0) + _ + _
      split <;> omega
    · have hm : (.inl d, .int g) ∈ m := (List.mem_cons.mp h).resolve_left fun z => c (by rw [← z])
      rw [if_neg c, p8 P d x g m n2 hm, Int.add_assoc]
def gM (m : List (Key × V)) (d : Int) : Int := match dk m (.inl d) with
  | some v => vI v
  | none => 0
def IntD (m : List (Key × V)) : Prop := ∀ k v, (k, v) ∈ m → ∃ D a, k = .inl D ∧ v = .int a
theorem uB (P : Int → Bool) {m : List (Key × V)} (nd : (m.map (·.1)).Nodup) (hi : IntD m) (d x : Int) : sE P (cF m (.inl d) (.int (gM m d + x))) = sE P m + if P d = true then x else 0 := by
  unfold cF gM
  rw [iD]
  cases e : dk m (.inl d) with
  | none =>
    rw [if_neg (by decide), qh]
    show _ + ((if P d = true then 0 + x else 0) + 0) = _
    rw [Int.zero_add, Int.add_zero]
  | some v =>
    rw [if_pos (show (some v).isSome = true from rfl)]
    obtain ⟨D, g, _, rfl⟩ := hi _ _ (fJ e)
    exact p8 P d x g m nd (fJ e)
theorem IntD.put {m : List (Key × V)} (hi : IntD m) (d x : Int) : IntD (cF m (.inl d) (.int x)) := fun k v mk => by
  rcases eG.mp mk with e | ⟨mk, _⟩
  · obtain ⟨rfl, rfl⟩ := Prod.mk.inj e; exact ⟨d, x, rfl, rfl⟩
  · exact hi k v mk
abbrev PR := Int × List Nat × List Nat × Int
def sR (x y : List Nat) (P : Int → Bool) : List PR → Int
  | [] => 0
  | z :: R => (if z.2.1 = x ∧ z.2.2.1 = y ∧ P z.1 = true then z.2.2.2 else 0) + sR x y P R
theorem nk (x y : List Nat) (P : Int → Bool) : ∀ R S : List PR, sR x y P (R ++ S) = sR x y P R + sR x y P S
  | [], S => by simp [sR]
  | z :: R, S => by rw [List.cons_append, sR, sR, nk x y P R S, Int.add_assoc]
theorem mT (x y : List Nat) (P : Int → Bool) : ∀ R : List PR, ((((R.filter fun z => decide (z.2.1 = x)).filter fun z => decide (z.2.2.1 = y)).filter fun z => P z.1).map fun z => z.2.2.2).sum = sR x y P R
  | [] => rfl
  | z :: R => by
    rw [sR, ← mT x y P R]
    by_cases c1 : z.2.1 = x
    · rw [List.filter_cons_of_pos (by exact decide_eq_true c1)]
      by_cases c2 : z.2.2.1 = y
      · rw [List.filter_cons_of_pos (by exact decide_eq_true c2)]
        by_cases c3 : P z.1 = true
        · rw [List.filter_cons_of_pos (by exact c3), List.map_cons, List.sum_cons, if_pos ⟨c1, c2, c3⟩]
        · rw [List.filter_cons_of_neg (by exact c3), if_neg fun h => c3 h.2.2, Int.zero_add]
      · rw [List.filter_cons_of_neg (by exact fun h => c2 (of_decide_eq_true h)), if_neg fun h => c2 h.2.1, Int.zero_add]
    · rw [List.filter_cons_of_neg (by exact fun h => c1 (of_decide_eq_true h)), if_neg fun h => c1 h.1, Int.zero_add]
structure MM (m : List (Key × V)) (x y : List Nat) (R : List PR) : Prop where
  nd : (m.map (·.1)).Nodup
  it : IntD m
  sm : ∀ P, sE P m = sR x y P R
theorem MM.put {m : List (Key × V)} {x y : List Nat} {R : List PR} (h : MM m x y R) (d am : Int) : MM (cF m (.inl d) (.int (gM m d + am))) x y (R ++ [(d, x, y, am)]) :=
  ⟨tS h.nd, h.it.put _ _, fun P => by
    rw [uB P h.nd h.it, nk, h.sm P]
    show _ = _ + ((if x = x ∧ y = y ∧ P d = true then am else 0) + 0)
    rw [Int.add_zero]
    by_cases c : P d = true
    · rw [if_pos c, if_pos ⟨rfl, rfl, c⟩]
    · rw [if_neg c, if_neg fun z => c z.2.2]⟩
theorem MM.other {m : List (Key × V)} {x y : List Nat} {R : List PR} (h : MM m x y R) {z : PR} (ne : ¬ (z.2.1 = x ∧ z.2.2.1 = y)) : MM m x y (R ++ [z]) :=
  ⟨h.nd, h.it, fun P => by
    rw [h.sm P, nk]
    show _ = _ + ((if z.2.1 = x ∧ z.2.2.1 = y ∧ P z.1 = true then z.2.2.2 else 0) + 0)
    rw [if_neg fun q => ne ⟨q.1, q.2.1⟩]; simp⟩
theorem tw {x y : List Nat} {R : List PR} (h : ∀ z ∈ R, ¬ (z.2.1 = x ∧ z.2.2.1 = y)) (P : Int → Bool) : sR x y P R = 0 := by
  induction R with
  | nil => rfl
  | cons z R ih =>
    rw [sR, ih fun u m => h u (List.mem_cons_of_mem _ m), if_neg fun q => h z (List.mem_cons_self ..) ⟨q.1, q.2.1⟩]; rfl
theorem MM.nil {x y : List Nat} {R : List PR} (h : ∀ z ∈ R, ¬ (z.2.1 = x ∧ z.2.2.1 = y)) : MM [] x y R := ⟨List.nodup_nil, (fun _ _ m => nomatch m), fun P => (tw h P).symm⟩
theorem iP (P : Int → Bool) : ∀ {m : List (Key × V)}, IntD m → (m.filter fun e => P (vI (kV e.1))).map (fun e => e.2) = ((m.filter fun e => P (kI e.1)).map fun e => vI e.2).map V.int
  | [], _ => rfl
  | e :: m, h => by
    obtain ⟨D, x, e1, e2⟩ := h e.1 e.2 (List.mem_cons_self ..)
    have ih := iP P (m := m) fun k v mk => h k v (List.mem_cons_of_mem _ mk)
    have ek : vI (kV e.1) = kI e.1 := by rw [e1]; rfl
    by_cases c : P (kI e.1) = true
    · rw [List.filter_cons_of_pos (by rw [ek]; exact c), List.filter_cons_of_pos (by exact c), List.map_cons, List.map_cons, List.map_cons, ih, e2]; rfl
    · rw [List.filter_cons_of_neg (by rw [ek]; exact c), List.filter_cons_of_neg (by exact c), ih]
theorem MM.own {m : List (Key × V)} {x y : List Nat} {R : List PR} (h : MM m x y R) (P : Int → Bool) : ((m.filter fun e => P (kI e.1)).map fun e => vI e.2).sum = sR x y P R := (nK P m).trans (h.sm P)
end L2
set_option Elab.async false
set_option linter.all false
set_option maxRecDepth 100000
namespace L2
open PySem
theorem rn {α β : Type} {R : α → β → Prop} {xs : List α} {ys : List β} (h : A2 R xs ys) : ∀ {i : Nat} {x : α}, xs[i]? = some x → ∃ y, ys[i]? = some y ∧ R x y := by
  induction h with
  | nil => intro i x e; simp at e
  | cons r _ ih =>
    intro i x e
    cases i with
    | zero => cases e; exact ⟨_, rfl, r⟩
    | succ i => exact ih (by simpa using e)
theorem jp {K : PySem.W.Frag} {β : Type} {tl : TE} {ks : List Nat} {tt : TT} {te : TE} {σ : St} {H : Hp} {Q : VK} (a : Addr) (vs : List V) (R : List β) (Rel : V → β → Prop) (p : β → Bool) (f : V → β → V)
    (hl : ∀ k : VK, k (.ref a) H → tl σ H k) (ha : H a = some (.lst vs)) (hR : A2 Rel vs R) (hz : vs.length < sizeLine)
    (hp : ∀ v b, b ∈ R → Rel v b → ∀ G (k : Bool → Hp → Prop), Same H G → k (p b) G → tt (some v :: ks.map fun k => (σ[k]?).join) G k)
    (hf : ∀ v b, b ∈ R → Rel v b → p b = true → ∀ G (k : VK), Same H G → k (f v b) G → te (some v :: ks.map fun k => (σ[k]?).join) G k)
    (q : ∀ D ws, H D = none → A2 (fun y b => ∃ v, Rel v b ∧ y = f v b) ws (R.filter p) → Q (.ref D) (upd H D (.lst ws))) : dS (lJ K tl) 1 (e_ 0) ks tt te σ H Q := by
  refine xB (hl _ ⟨a, rfl, ⟨vs, SqL.of ha⟩, xK a vs (fun D i ys G => G = upd H D (.lst ys) ∧ H D = none ∧ ys.length ≤ i ∧ A2 (fun y b => ∃ v, Rel v b ∧ y = f v b) ys ((R.take i).filter p)) hz ?_ ?_ ?_ ?_⟩)
  · exact fun D hD => ⟨rfl, hD, Nat.le_refl _, .nil⟩
  · rintro D i ys G ⟨rfl, hD, ly, _⟩
    exact ⟨ad, SqL.of ((ai (ak ha hD)).trans ha), ly⟩
  · rintro D i y ys G zs N1 N0 hy ⟨rfl, hD, ly, A⟩ hzs n1 n0
    obtain ⟨z, rfl⟩ := ex1 hzs
    obtain ⟨b, hb, rb⟩ := rn hR hy
    have mb := List.mem_of_getElem? hb
    have et : R.take (i + 1) = R.take i ++ [b] := by rw [List.take_succ, hb]; rfl
    rw [et, List.filter_append] at n1 n0
    have sm : Same H (upd H D (.lst ys)) := aj _ hD
    refine ⟨⟨[some y], rfl, rfl⟩, hp y b mb rb _ _ sm ?_⟩
    cases c : p b with
    | true =>
      rw [if_pos rfl]
      refine hf y b mb rb c _ _ sm (n1 _ _ ad ⟨?_, hD, by rw [List.length_append]; exact Nat.succ_le_succ ly, ?_⟩)
      · exact sj
      · rw [List.filter_cons_of_pos (by exact c), List.filter_nil]
        exact A.snoc ⟨y, rb, rfl⟩
    | false =>
      rw [if_neg Bool.false_ne_true]
      refine n0 _ ⟨rfl, hD, Nat.le_succ_of_le ly, ?_⟩
      rw [List.filter_cons_of_neg (by rw [c]; decide), List.filter_nil, List.append_nil]
      exact A
  · rintro D ys G ⟨rfl, hD, _, A⟩
    rw [hR.len, List.take_length] at A
    exact q D ys hD A
theorem qg : ∀ {a b : List (List Nat)}, InO a → InO b → a.Nodup → b.Nodup → (∀ c, c ∈ a ↔ c ∈ b) → a = b := fun {a b} ia ib na nb h => mw ((List.perm_ext_iff_of_nodup na nb).mpr h) ia ib
theorem kA {β : Type} {Rel : V → β → Prop} {f : V → β → V} {g : β → V} (hfg : ∀ v b, f v b = g b) : ∀ {ws : List V} {L : List β}, A2 (fun y b => ∃ v, Rel v b ∧ y = f v b) ws L → ws = L.map g := by
  intro ws L h
  induction h with
  | nil => rfl
  | cons r _ ih =>
    obtain ⟨v, _, e⟩ := r
    rw [List.map_cons, ih, e, hfg]
theorem ou {β : Type} {Rel : V → β → Prop} : ∀ {ws : List V} {L : List β}, A2 (fun y b => ∃ v, Rel v b ∧ y = v) ws L → A2 Rel ws L := by
  intro ws L h
  induction h with
  | nil => exact .nil
  | cons r _ ih =>
    obtain ⟨v, r1, e⟩ := r
    exact .cons (e ▸ r1) ih
end L2
set_option Elab.async false
set_option linter.all false
set_option maxRecDepth 100000
namespace L2
open PySem
def p9 : R2
  | .ref x, .ref y, H, Q => ∃ xs ys, H x = some (.tup xs) ∧ H y = some (.tup ys) ∧ xs ≠ [] ∧ ys ≠ [] ∧ xs.length + ys.length ≤ sizeLine ∧ ∀ p, H p = none → Q (.ref p) (upd H p (.tup (xs ++ ys)))
  | _, _, _, _ => False
section
variable {X : Cx}
theorem sF : OpR X (binaryOp .Add) p9 := sO.imp fun x y H Q h => by
  unfold p9 at h; split at h
  · obtain ⟨xs, zs, h1, h2, h3, h4, h5, q⟩ := h
    exact ⟨_, _, xs, zs, rfl, rfl, SqT.of h1, SqT.of h2, h3, h5, fun z => absurd z h4, fun _ => q⟩
  · exact h.elim
end
theorem wS {K : PySem.W.Frag} {n : Nat} {g : TG} {ks : List Nat} {tt : TT} {te : TE} {σ : St} {H1 : Hp} {Q : VK} (a : Addr) (xs : List V) (P : Addr → Nat → List V → Hp → Prop) (hz : xs.length < sizeLine)
    (h0 : ∀ D, H1 D = none → P D 0 [] (upd H1 D (.lst []))) (hD : ∀ D i ys H', P D i ys H' → H' D = some (.lst ys) ∧ SqT K H' a xs ∧ ys.length ≤ i)
    (hs : ∀ D i y ys H' (zs : St) (N1 : VK) (N0 : Hp → Prop), xs[i]? = some y → P D i ys H' → zs.length = n → (∀ v H6, H6 D = some (.lst ys) → P D (i + 1) (ys ++ [v]) (upd H6 D (.lst (ys ++ [v]))) → N1 v H6) → (∀ H6, P D (i + 1) ys H6 → N0 H6) →
      g y (zs ++ ks.map fun k => (σ[k]?).join) H' fun σ4 H4 => (∃ zs4 : St, zs4.length = n ∧ σ4 = zs4 ++ ks.map fun k => (σ[k]?).join) ∧ tt σ4 H4 fun b H5 => if b = true then te σ4 H5 N1 else N0 H5)
    (hd : ∀ D ys H', P D xs.length ys H' → Q (.ref D) H') : CEl (Itt K a) n g ks tt te σ H1 Q := by
  intro D hDn
  refine ⟨fun i m ys H' => m = xs.length - i ∧ i ≤ xs.length ∧ P D i ys H', ⟨_, rfl, Nat.zero_le _, h0 D hDn⟩, ?_⟩
  rintro i m ys H' ⟨rfl, hi, p⟩
  obtain ⟨d1, d2, d3⟩ := hD D i ys H' p
  refine ⟨d1, ?_⟩
  rcases Nat.lt_or_ge i xs.length with lt | ge
  · refine .inr ⟨⟨xs, xs[i], d2, by simp [lt]⟩, ?_⟩
    rintro x H3 ⟨rfl, hx⟩ zs hzs
    exact hs D i x ys _ zs _ _ (hx xs d2) p hzs (fun v H6 h6 p6 => ⟨h6, by omega, _, by omega, rfl, lt, p6⟩) fun H6 p6 => ⟨_, by omega, rfl, lt, p6⟩
  · obtain rfl : i = xs.length := Nat.le_antisymm hi ge
    exact .inl ⟨⟨xs, d2, Nat.le_refl _⟩, hd D ys H' p⟩
def MkAt {β : Type} (mk : β → List V) (H : Hp) (v : V) (b : β) : Prop := ∃ t, v = .ref t ∧ H t = some (.tup (mk b))
theorem MkAt.mv {β : Type} {mk : β → List V} {H H' : Hp} (k : ∀ t l, H t = some (.tup l) → H' t = some (.tup l)) {vs : List V} {R : List β} (h : A2 (MkAt mk H) vs R) : A2 (MkAt mk H') vs R := by
  induction h with
  | nil => exact .nil
  | cons h _ ih =>
    obtain ⟨t, e, h⟩ := h
    exact .cons ⟨t, e, k _ _ h⟩ ih
theorem yh {K : PySem.W.Frag} {β : Type} {tl : TE} {ks : List Nat} {tt : TT} {te : TE} {σ : St} {H : Hp} {Q : VK} (a : Addr) (vs : List V) (R : List β) (Rel : V → β → Prop) (mk : β → List V)
    (hl : ∀ k : VK, k (.ref a) H → tl σ H k) (ha : H a = some (.tup vs)) (hR : A2 Rel vs R) (hz : vs.length < sizeLine)
    (hp : ∀ v b, b ∈ R → Rel v b → ∀ G (k : Bool → Hp → Prop), Same H G → k true G → tt (some v :: ks.map fun k => (σ[k]?).join) G k)
    (hf : ∀ v b, b ∈ R → Rel v b → ∀ G (k : VK), Same H G → (∀ p G', Same G G' → G' p = some (.tup (mk b)) → k (.ref p) G') → te (some v :: ks.map fun k => (σ[k]?).join) G k)
    (q : ∀ D ws G, H D = none → Same H G → G D = some (.lst ws) → A2 (MkAt mk G) ws R → Q (.ref D) G) : dS (rT K tl) 1 (e_ 0) ks tt te σ H Q := by
  refine hl _ ⟨a, rfl, ⟨vs, SqT.of ha⟩, wS a vs (fun D i ys G => H D = none ∧ Same H G ∧ G D = some (.lst ys) ∧ ys.length ≤ i ∧ A2 (MkAt mk G) ys (R.take i)) hz ?_ ?_ ?_ ?_⟩
  · exact fun D hD => ⟨hD, aj _ hD, ad, Nat.le_refl _, .nil⟩
  · rintro D i ys G ⟨hD, sm, gd, ly, _⟩
    exact ⟨gd, SqT.of (sm _ _ ha), ly⟩
  · rintro D i y ys G zs N1 N0 hy ⟨hD, sm, gd, ly, A⟩ hzs n1 n0
    obtain ⟨z, rfl⟩ := ex1 hzs
    obtain ⟨b, hb, rb⟩ := rn hR hy
    have mb := List.mem_of_getElem? hb
    have et : R.take (i + 1) = R.take i ++ [b] := by rw [List.take_succ, hb]; rfl
    rw [et] at n1
    refine ⟨⟨[some y], rfl, rfl⟩, hp y b mb rb _ _ sm ?_⟩
    rw [if_pos rfl]
    refine hf y b mb rb _ _ sm fun p G' s' hp' => ?_
    have gd' := s' _ _ gd
    have kt : ∀ t l, G' t = some (.tup l) → upd G' D (.lst (ys ++ [V.ref p])) t = some (.tup l) := fun t l e => by
      rw [ai fun z => by rw [z, gd'] at e; cases e]; exact e
    refine n1 _ _ gd' ⟨hD, fun c o e => ?_, ad, by rw [List.length_append]; exact Nat.succ_le_succ ly, ?_⟩
    · rw [ai (ak e hD)]; exact s' _ _ (sm _ _ e)
    · exact (MkAt.mv kt (MkAt.mv (fun t l e => s' _ _ e) A)).snoc ⟨p, rfl, kt _ _ hp'⟩
  · rintro D ys G ⟨hD, sm, gd, _, A⟩
    rw [hR.len, List.take_length] at A
    exact q D ys G hD sm gd A
end L2
set_option Elab.async false
set_option maxHeartbeats 4000000
namespace K3
def S (a : Int) : Int :=
  if a ≤ 0 then 0 else if a = 1 then 31 else if a = 2 then 59 else if a = 3 then 90 else if a = 4 then 120
  else if a = 5 then 151 else if a = 6 then 181 else if a = 7 then 212 else if a = 8 then 243 else if a = 9 then 273
  else if a = 10 then 304 else 334
def LD (y : Int) : Int := (y + 3) / 4 - (y + 99) / 100 + (y + 399) / 400
def FD (m : Int) : Int := 365 * (m / 12) + (if m % 12 > 1 then LD (m / 12 + 1) else LD (m / 12)) + S (m % 12)
def LG (y m : Int) : Int :=
  if m = 2 then (if (y % 4 = 0 ∧ y % 100 ≠ 0) ∨ y % 400 = 0 then 29 else 28)
  else if m = 4 ∨ m = 6 ∨ m = 9 ∨ m = 11 then 30 else 31
theorem oq {m y a : Int} (h : m = 12 * y + a) (h0 : 0 ≤ a) (h1 : a < 12) :
    FD m = 365 * y + (if a > 1 then LD (y + 1) else LD y) + S a := by
  have e1 : m / 12 = y := by omega
  have e2 : m % 12 = a := by omega
  unfold FD; rw [e1, e2]
theorem nQ (y : Int) : LD (y + 1) = LD y + (if (y % 4 = 0 ∧ y % 100 ≠ 0) ∨ y % 400 = 0 then 1 else 0) := by
  unfold LD
  split <;> omega
theorem uz : ∀ a : Nat, a < 11 → a ≠ 1 → S (a + 1) = S a + LG 1 (1 + a) := by decide
theorem wg (y z m : Int) (h : m ≠ 2) : LG y m = LG z m := by unfold LG; rw [if_neg h, if_neg h]
theorem vF (y : Int) : LG (2000 + y) 2 = 28 + (LD (y + 1) - LD y) := by
  have h : (((2000 + y) % 4 = 0 ∧ (2000 + y) % 100 ≠ 0) ∨ (2000 + y) % 400 = 0) ↔ ((y % 4 = 0 ∧ y % 100 ≠ 0) ∨ y % 400 = 0) := by
    have e (k : Int) (d : 2000 = k * (2000 / k)) : (2000 + y) % k = y % k := by rw [Int.add_comm, d, Int.add_mul_emod_self_left]
    rw [e 4 rfl, e 100 rfl, e 400 rfl]
  rw [nQ, LG, if_pos rfl]
  by_cases c : (y % 4 = 0 ∧ y % 100 ≠ 0) ∨ y % 400 = 0
  · rw [if_pos c, if_pos (h.mpr c)]; omega
  · rw [if_neg c, if_neg (fun q => c (h.mp q))]; omega
theorem rV (m : Int) : FD (m + 1) = FD m + LG (2000 + m / 12) (1 + m % 12) := by
  have b0 : 0 ≤ m % 12 := Int.emod_nonneg _ (by decide)
  have b1 : m % 12 < 12 := Int.emod_lt_of_pos _ (by decide)
  have e : m = 12 * (m / 12) + m % 12 := (Int.mul_ediv_add_emod m 12).symm
  have a1 := oq e b0 b1
  generalize m / 12 = y at *
  generalize m % 12 = z at *
  obtain ⟨a, rfl⟩ := Int.eq_ofNat_of_zero_le b0
  by_cases c : a = 11
  · subst c
    rw [a1, oq (m := m + 1) (y := y + 1) (a := 0) (by omega) (by decide) (by decide)]
    show _ + LD (y + 1) + 0 = _ + LD (y + 1) + 334 + 31
    omega
  · have a2 := oq (m := m + 1) (y := y) (a := a + 1) (by omega) (by omega) (by omega)
    by_cases c1 : a = 1
    · subst c1
      rw [a1, a2]
      show _ + LD (y + 1) + 59 = _ + LD y + 31 + LG (2000 + y) 2
      rw [vF]; omega
    · have s := uz a (by omega) c1
      rw [a1, a2, wg _ 1 _ (by omega), s]
      by_cases c2 : a = 0
      · subst c2; exact (Int.add_assoc _ _ _).symm
      · rw [if_pos (by omega), if_pos (by omega)]; omega
theorem xN (y m : Int) : 28 ≤ LG y m ∧ LG y m ≤ 31 := by
  unfold LG; repeat' split
  all_goals omega
theorem tV (m : Int) : FD m + 28 ≤ FD (m + 1) ∧ FD (m + 1) ≤ FD m + 31 := by
  have h := rV m
  have g := xN (2000 + m / 12) (1 + m % 12)
  omega
theorem lK (m : Int) (k : Nat) : FD m + 28 * k ≤ FD (m + k) := by
  induction k with
  | zero => simp
  | succ k ih =>
    have h := tV (m + k)
    have e : m + ((k + 1 : Nat) : Int) = m + k + 1 := by omega
    rw [e]; omega
theorem ij {m n : Int} (h : m ≤ n) : FD m + 28 * (n - m) ≤ FD n := by
  have g := lK m (n - m).toNat
  have e : m + ((n - m).toNat : Int) = n := by omega
  rw [e] at g; omega
theorem xc : FD 0 = 0 := by decide
theorem qW : FD 4800 = 146097 := by decide
open Classical in
noncomputable def MO (d : Int) : Int := if h : ∃ m, FD m ≤ d ∧ d < FD (m + 1) then Classical.choose h else 0
theorem xD {m d : Int} (h1 : FD m ≤ d) (h2 : d < FD (m + 1)) : m = MO d := by
  have h : ∃ m, FD m ≤ d ∧ d < FD (m + 1) := ⟨m, h1, h2⟩
  have g := Classical.choose_spec h
  unfold MO
  rw [dif_pos h]
  generalize Classical.choose h = n at g
  obtain ⟨g1, g2⟩ := g
  by_cases c : m + 1 ≤ n
  · have := ij c; omega
  · by_cases c2 : n + 1 ≤ m
    · have := ij c2; omega
    · omega
theorem ur {m d : Int} (h1 : FD m ≤ d) (h2 : d < FD (m + 1)) : MO d = m := (xD h1 h2).symm
theorem wY {m : Int} (h0 : 0 ≤ m) : 0 ≤ FD m := by
  have := ij h0
  rw [xc] at this; omega
theorem wC {m : Int} (h1 : m ≤ 4799) : FD (m + 1) ≤ 146097 := by
  have := ij (show m + 1 ≤ 4800 by omega)
  rw [qW] at this; omega
def R10 : List Int := [31, 30, 31, 30, 31, 31, 30, 31, 30, 31]
theorem sk : ∀ a : Nat, a < 10 → (R10.take a).sum + 59 = S ((a : Int) + 2) := by decide
theorem wW (m : Int) : 365 * (m / 12) + LD (m / 12) + ((31 :: (28 + (LD (m / 12 + 1) - LD (m / 12))) :: R10).take (m % 12).toNat).sum = FD m := by
  have b0 : 0 ≤ m % 12 := Int.emod_nonneg _ (by decide)
  have b1 : m % 12 < 12 := Int.emod_lt_of_pos _ (by decide)
  have a1 := oq (Int.mul_ediv_add_emod m 12).symm b0 b1
  generalize m / 12 = y at *
  generalize m % 12 = z at *
  obtain ⟨a, rfl⟩ := Int.eq_ofNat_of_zero_le b0
  rw [a1]
  match a, b1 with
  | 0, _ => rfl
  | 1, _ => rfl
  | a + 2, b1 =>
    have s := sk a (by omega)
    rw [if_pos (by omega)]
    show _ + _ + (31 + (_ + (R10.take a).sum)) = _ + S ((a : Int) + 2)
    rw [← s]; omega
end K3
set_option maxHeartbeats 400000
namespace K16
open PySem L2
structure Adr where
  eK : Addr
  fS : FuncData
  eO : Addr
  fZ : FuncData
  fE : Addr
  gL : FuncData
  fG : Addr
  g8 : FuncData
  dq : Addr
  eC : FuncData
  dQ : Addr
  fj : FuncData
  dY : Addr
  fh : FuncData
  dZ : Addr
  fc : FuncData
  d6 : Addr
  fb : FuncData
  cH : Addr
  dn : FuncData
  cM : Addr
  fo : FuncData
  dU : Addr
  gN : FuncData
  cS : Addr
  eP : FuncData
  eM : Addr
  fT : FuncData
  cI : Addr
  el : FuncData
  cL : Addr
  eE : FuncData
  cV : Addr
  fX : FuncData
  bW : Addr
  qL : FuncData
  cr : Addr
  dL : FuncData
  d_ : Addr
  hG : FuncData
  cn : Addr
  dA : FuncData
  fD : Addr
  g7 : FuncData
  cW : Addr
  dM : FuncData
  bZ : Addr
  dg : FuncData
  aO : Addr
  cE : Addr
structure Txt (K : PySem.W.Frag) (mg : Str → Option Value) (a : Adr) : Prop where
  dz : Fun K "leap_days" "leap_days" bJ a.eK a.fS
  gQ : mg "leap_days" = some (.ref a.eK)
  cU : Fun K "first_day" "first_day" bH a.eO a.fZ
  gO : mg "first_day" = some (.ref a.eO)
  fB : Fun K "last_day" "last_day" bS a.fE a.gL
  mZ : mg "last_day" = some (.ref a.fE)
  fI : Fun K "month_of" "month_of" bT a.fG a.g8
  m7 : mg "month_of" = some (.ref a.fG)
  ay : Fun K "_law_cell_at" "_law_cell_at" be a.dq a.eC
  b8 : mg "_law_cell_at" = some (.ref a.dq)
  az : Fun K "_law_mixed" "_law_mixed" bq a.dQ a.fj
  bw : mg "_law_mixed" = some (.ref a.dQ)
  cY : Fun K "_law_whole" "_law_whole" br a.dY a.fh
  fU : mg "_law_whole" = some (.ref a.dY)
  ei : Fun K "_law_names" "_law_names" bu a.dZ a.fc
  j4 : mg "_law_names" = some (.ref a.dZ)
  bh : Fun K "_law_paths" "_law_paths" bv a.d6 a.fb
  jH : mg "_law_paths" = some (.ref a.d6)
  aE : Fun K "_law_currencies" "_law_currencies" aJ a.cH a.dn
  fP : mg "_law_currencies" = some (.ref a.cH)
  cG : Fun K "_law_first" "_law_first" aW a.cM a.fo
  d7 : mg "_law_first" = some (.ref a.cM)
  cg : Fun K "_law_day" "_law_day" bN a.dU a.gN
  m_ : mg "_law_day" = some (.ref a.dU)
  dG : Fun K "_law_amount" "_law_amount" bd a.cS a.eP
  iU : mg "_law_amount" = some (.ref a.cS)
  bR : Fun K "_law_rows" "_law_rows" bI a.eM a.fT
  lH : mg "_law_rows" = some (.ref a.eM)
  bm : Fun K "_law_stretch" "_law_stretch" aS a.cI a.el
  iF : mg "_law_stretch" = some (.ref a.cI)
  dv : Fun K "_law_answers" "_law_answers" aR a.cL a.eE
  iy : mg "_law_answers" = some (.ref a.cL)
  a_ : Fun K "_law_told" "_law_told" bf a.cV a.fX
  dF : mg "_law_told" = some (.ref a.cV)
  xy : Fun K "law" "law" bn a.bW a.qL
  yl : mg "law" = some (.ref a.bW)
  aT : Fun K "__init__" "Sums.__init__" aU a.cr a.dL
  o8 : mF K a.aO "__init__" a.cr
  cz : Fun K "put" "Sums.put" bO a.d_ a.hG
  lN : mF K a.aO "put" a.d_
  cR : Fun K "months_of" "Sums.months_of" aG a.cn a.dA
  dy : mF K a.aO "months_of" a.cn
  iB : Fun K "own" "Sums.own" bU a.fD a.g7
  lb : mF K a.aO "own" a.fD
  eD : Fun K "standing" "Sums.standing" aY a.cW a.dM
  gJ : mF K a.aO "standing" a.cW
  cK : Fun K "currencies" "Sums.currencies" aD a.bZ a.dg
  df : mF K a.aO "currencies" a.bZ
  pP : mg "Sums" = some (.ref a.aO)
  cN : Cls K a.aO
  cv : NoAttr K a.aO "by_place"
  oH : Mk K a.aO a.cr
  oW : mg "LENGTHS" = some (.ref a.cE)
  cE : ∃ (o : Obj) (its : Array Value) (n : Nat), K.lookup a.cE = some o ∧ o.cls = .type "tuple" ∧ o.data = .seq its n ∧ its.size ≤ sizeLine ∧ Vals (([31, 28, 31, 30, 31, 30, 31, 31, 30, 31, 30, 31] : List Int).map V.int) its.toList
  xL : mg "all" = none
  v5 : mg "bool" = none
  tP : mg "int" = none
  dW : mg "isinstance" = none
  jk : mg "len" = none
  vd : mg "list" = none
  wH : mg "min" = none
  dE : mg "range" = none
  xH : mg "set" = none
  lZ : mg "sorted" = none
  mI : mg "sum" = none
  tM : mg "tuple" = none
theorem vK : bootBuiltins "all" = some (.builtin "all") := by decide +kernel
theorem sV : bootBuiltins "bool" = some (.type "bool") := by decide +kernel
theorem rf : bootBuiltins "int" = some (.type "int") := by decide +kernel
theorem dI : bootBuiltins "isinstance" = some (.builtin "isinstance") := by decide +kernel
theorem gt : bootBuiltins "len" = some (.builtin "len") := by decide +kernel
theorem sU : bootBuiltins "list" = some (.type "list") := by decide +kernel
theorem wn : bootBuiltins "min" = some (.builtin "min") := by decide +kernel
theorem vQ : bootBuiltins "set" = some (.type "set") := by decide +kernel
theorem jE : bootBuiltins "sorted" = some (.builtin "sorted") := by decide +kernel
theorem iM : bootBuiltins "sum" = some (.builtin "sum") := by decide +kernel
theorem rl : bootBuiltins "tuple" = some (.type "tuple") := by decide +kernel
theorem jJ : aP ["years"] ["years"] (ae bJ) := ⟨rfl, rfl, rfl, by decide +kernel, rfl, by decide +kernel, by decide +kernel⟩
theorem jN {K : PySem.W.Frag} {f : Addr} {fd : FuncData} (F : Fun K "leap_days" "leap_days" bJ f fd) : Binds K fd ["years"] [] := F.binds (ps := ["years"]) fun _ _ _ _ _ _ us hl => by obtain ⟨_, rfl⟩ := ex1 hl; rfl
theorem fL : aP ["month", "years", "ahead", "leaps"] ["month"] (ae bH) := ⟨rfl, rfl, rfl, by decide +kernel, rfl, by decide +kernel, by decide +kernel⟩
theorem f_ {K : PySem.W.Frag} {f : Addr} {fd : FuncData} (F : Fun K "first_day" "first_day" bH f fd) : Binds K fd ["month"] [] := F.binds (ps := ["month"]) fun _ _ _ _ _ _ us hl => by obtain ⟨_, rfl⟩ := ex1 hl; rfl
theorem mJ : aP ["month"] ["month"] (ae bS) := ⟨rfl, rfl, rfl, by decide +kernel, rfl, by decide +kernel, by decide +kernel⟩
theorem mK {K : PySem.W.Frag} {f : Addr} {fd : FuncData} (F : Fun K "last_day" "last_day" bS f fd) : Binds K fd ["month"] [] := F.binds (ps := ["month"]) fun _ _ _ _ _ _ us hl => by obtain ⟨_, rfl⟩ := ex1 hl; rfl
theorem gR : aP ["day", "month"] ["day"] (ae bT) := ⟨rfl, rfl, rfl, by decide +kernel, rfl, by decide +kernel, by decide +kernel⟩
theorem lq {K : PySem.W.Frag} {f : Addr} {fd : FuncData} (F : Fun K "month_of" "month_of" bT f fd) : Binds K fd ["day"] [] := F.binds (ps := ["day"]) fun _ _ _ _ _ _ us hl => by obtain ⟨_, rfl⟩ := ex1 hl; rfl
theorem hV : aP ["_law_script", "_law_k"] ["_law_script", "_law_k"] (ae be) := ⟨rfl, rfl, rfl, by decide +kernel, rfl, by decide +kernel, by decide +kernel⟩
theorem aV {K : PySem.W.Frag} {f : Addr} {fd : FuncData} (F : Fun K "_law_cell_at" "_law_cell_at" be f fd) : Binds K fd ["_law_script", "_law_k"] [] := F.binds (ps := ["_law_script", "_law_k"]) fun _ _ _ _ _ _ us hl => by obtain ⟨_, _, rfl⟩ := ex2 hl; rfl
theorem i9 : aP ["_law_cell", "_law_k"] ["_law_cell", "_law_k"] (ae bq) := ⟨rfl, rfl, rfl, by decide +kernel, rfl, by decide +kernel, by decide +kernel⟩
theorem bx {K : PySem.W.Frag} {f : Addr} {fd : FuncData} (F : Fun K "_law_mixed" "_law_mixed" bq f fd) : Binds K fd ["_law_cell", "_law_k"] [] := F.binds (ps := ["_law_cell", "_law_k"]) fun _ _ _ _ _ _ us hl => by obtain ⟨_, _, rfl⟩ := ex2 hl; rfl
theorem iX : aP ["_law_found"] ["_law_found"] (ae br) := ⟨rfl, rfl, rfl, by decide +kernel, rfl, by decide +kernel, by decide +kernel⟩
theorem iZ {K : PySem.W.Frag} {f : Addr} {fd : FuncData} (F : Fun K "_law_whole" "_law_whole" br f fd) : Binds K fd ["_law_found"] [] := F.binds (ps := ["_law_found"]) fun _ _ _ _ _ _ us hl => by obtain ⟨_, rfl⟩ := ex1 hl; rfl
theorem fk : aP ["_law_cell", "_law_letters", "_law_size", "_law_step", "_law_word", "_law_at", "_law_names_here", "_law_k", "_law_sign"] ["_law_cell"] (ae bu) := ⟨rfl, rfl, rfl, by decide +kernel, rfl, by decide +kernel, by decide +kernel⟩
theorem ja {K : PySem.W.Frag} {f : Addr} {fd : FuncData} (F : Fun K "_law_names" "_law_names" bu f fd) : Binds K fd ["_law_cell"] [] := F.binds (ps := ["_law_cell"]) fun _ _ _ _ _ _ us hl => by obtain ⟨_, rfl⟩ := ex1 hl; rfl
theorem ff : aP ["_law_script", "_law_many", "_law_names_here", "_law_paths_here", "_law_k", "_law_cell", "_law_ahead", "_law_path"] ["_law_script", "_law_many"] (ae bv) := ⟨rfl, rfl, rfl, by decide +kernel, rfl, by decide +kernel, by decide +kernel⟩
theorem bB {K : PySem.W.Frag} {f : Addr} {fd : FuncData} (F : Fun K "_law_paths" "_law_paths" bv f fd) : Binds K fd ["_law_script", "_law_many"] [] := F.binds (ps := ["_law_script", "_law_many"]) fun _ _ _ _ _ _ us hl => by obtain ⟨_, _, rfl⟩ := ex2 hl; rfl
theorem da : aP ["_law_cell", "_law_letters", "_law_word", "_law_at"] ["_law_cell"] (ae aJ) := ⟨rfl, rfl, rfl, by decide +kernel, rfl, by decide +kernel, by decide +kernel⟩
theorem aL {K : PySem.W.Frag} {f : Addr} {fd : FuncData} (F : Fun K "_law_currencies" "_law_currencies" aJ f fd) : Binds K fd ["_law_cell"] [] := F.binds (ps := ["_law_cell"]) fun _ _ _ _ _ _ us hl => by obtain ⟨_, rfl⟩ := ex1 hl; rfl
theorem fe : aP ["_law_month", "_law_year", "_law_day_here", "_law_long_year", "_law_place"] ["_law_month"] (ae aW) := ⟨rfl, rfl, rfl, by decide +kernel, rfl, by decide +kernel, by decide +kernel⟩
theorem i3 {K : PySem.W.Frag} {f : Addr} {fd : FuncData} (F : Fun K "_law_first" "_law_first" aW f fd) : Binds K fd ["_law_month"] [] := F.binds (ps := ["_law_month"]) fun _ _ _ _ _ _ us hl => by obtain ⟨_, rfl⟩ := ex1 hl; rfl
theorem mL : aP ["_law_cell", "_law_month"] ["_law_cell", "_law_month"] (ae bN) := ⟨rfl, rfl, rfl, by decide +kernel, rfl, by decide +kernel, by decide +kernel⟩
theorem cB {K : PySem.W.Frag} {f : Addr} {fd : FuncData} (F : Fun K "_law_day" "_law_day" bN f fd) : Binds K fd ["_law_cell", "_law_month"] [] := F.binds (ps := ["_law_cell", "_law_month"]) fun _ _ _ _ _ _ us hl => by obtain ⟨_, _, rfl⟩ := ex2 hl; rfl
theorem eQ : aP ["_law_cell", "_law_some"] ["_law_cell"] (ae bd) := ⟨rfl, rfl, rfl, by decide +kernel, rfl, by decide +kernel, by decide +kernel⟩
theorem iK {K : PySem.W.Frag} {f : Addr} {fd : FuncData} (F : Fun K "_law_amount" "_law_amount" bd f fd) : Binds K fd ["_law_cell"] [] := F.binds (ps := ["_law_cell"]) fun _ _ _ _ _ _ us hl => by obtain ⟨_, rfl⟩ := ex1 hl; rfl
theorem fM : aP ["_law_cell", "_law_paths_here", "_law_currencies_here", "_law_rows_here", "_law_k", "_law_path", "_law_currency"] ["_law_cell", "_law_paths_here", "_law_currencies_here"] (ae bI) := ⟨rfl, rfl, rfl, by decide +kernel, rfl, by decide +kernel, by decide +kernel⟩
theorem cm {K : PySem.W.Frag} {f : Addr} {fd : FuncData} (F : Fun K "_law_rows" "_law_rows" bI f fd) : Binds K fd ["_law_cell", "_law_paths_here", "_law_currencies_here"] [] := F.binds (ps := ["_law_cell", "_law_paths_here", "_law_currencies_here"]) fun _ _ _ _ _ _ us hl => by obtain ⟨_, _, _, rfl⟩ := ex3 hl; rfl
theorem eB : aP ["_law_cell", "_law_base", "_law_first_here", "_law_last"] ["_law_cell", "_law_base"] (ae aS) := ⟨rfl, rfl, rfl, by decide +kernel, rfl, by decide +kernel, by decide +kernel⟩
theorem bD {K : PySem.W.Frag} {f : Addr} {fd : FuncData} (F : Fun K "_law_stretch" "_law_stretch" aS f fd) : Binds K fd ["_law_cell", "_law_base"] [] := F.binds (ps := ["_law_cell", "_law_base"]) fun _ _ _ _ _ _ us hl => by obtain ⟨_, _, rfl⟩ := ex2 hl; rfl
theorem eA : aP ["_law_found", "_law_path", "_law_currency", "_law_stretch_here", "_law_turn", "_law_answers_here", "_law_way"] ["_law_found", "_law_path", "_law_currency", "_law_stretch_here", "_law_turn"] (ae aR) := ⟨rfl, rfl, rfl, by decide +kernel, rfl, by decide +kernel, by decide +kernel⟩
theorem h_ {K : PySem.W.Frag} {f : Addr} {fd : FuncData} (F : Fun K "_law_answers" "_law_answers" aR f fd) : Binds K fd ["_law_found", "_law_path", "_law_currency", "_law_stretch_here", "_law_turn"] [] := F.binds (ps := ["_law_found", "_law_path", "_law_currency", "_law_stretch_here", "_law_turn"]) fun _ _ _ _ _ _ us hl => by obtain ⟨_, _, _, _, _, rfl⟩ := ex5 hl; rfl
theorem fN : aP ["_law_found", "_law_rows_here", "_law_path", "_law_currency", "_law_stretch_here", "_law_held", "_law_turn", "_law_first_here", "_law_last", "_law_mine", "_law_here", "_law_own", "_law_standing", "_law_told_here", "_law_due"] ["_law_found", "_law_rows_here", "_law_path", "_law_currency", "_law_stretch_here", "_law_held", "_law_turn"] (ae bf) := ⟨rfl, rfl, rfl, by decide +kernel, rfl, by decide +kernel, by decide +kernel⟩
theorem bF {K : PySem.W.Frag} {f : Addr} {fd : FuncData} (F : Fun K "_law_told" "_law_told" bf f fd) : Binds K fd ["_law_found", "_law_rows_here", "_law_path", "_law_currency", "_law_stretch_here", "_law_held", "_law_turn"] [] := F.binds (ps := ["_law_found", "_law_rows_here", "_law_path", "_law_currency", "_law_stretch_here", "_law_held", "_law_turn"]) fun _ _ _ _ _ _ us hl => by obtain ⟨_, _, _, _, _, _, _, rfl⟩ := ex7 hl; rfl
theorem dX : aP ["_law_script", "_law_base", "_law_paths_here", "_law_currencies_here", "_law_both", "_law_rows_here", "_law_held", "_law_k", "_law_cell", "_law_at", "_law_path", "_law_currency", "_law_stretch_here", "_law_turn", "_law_month", "_law_some_rows"] ["_law_script"] (ae bn) := ⟨rfl, rfl, rfl, by decide +kernel, rfl, by decide +kernel, by decide +kernel⟩
theorem gB : aP ["self"] ["self"] (ae aU) := ⟨rfl, rfl, rfl, by decide +kernel, rfl, by decide +kernel, by decide +kernel⟩
theorem bc {K : PySem.W.Frag} {f : Addr} {fd : FuncData} (F : Fun K "__init__" "Sums.__init__" aU f fd) : Binds K fd ["self"] [] := F.binds (ps := ["self"]) fun _ _ _ _ _ _ us hl => by obtain ⟨_, rfl⟩ := ex1 hl; rfl
theorem gP : aP ["self", "booking", "month", "path", "currency", "amount", "by_month"] ["self", "booking"] (ae bO) := ⟨rfl, rfl, rfl, by decide +kernel, rfl, by decide +kernel, by decide +kernel⟩
theorem cA {K : PySem.W.Frag} {f : Addr} {fd : FuncData} (F : Fun K "put" "Sums.put" bO f fd) : Binds K fd ["self", "booking"] [] := F.binds (ps := ["self", "booking"]) fun _ _ _ _ _ _ us hl => by obtain ⟨_, _, rfl⟩ := ex2 hl; rfl
theorem fK : aP ["self", "path", "currency"] ["self", "path", "currency"] (ae aG) := ⟨rfl, rfl, rfl, by decide +kernel, rfl, by decide +kernel, by decide +kernel⟩
theorem dC {K : PySem.W.Frag} {f : Addr} {fd : FuncData} (F : Fun K "months_of" "Sums.months_of" aG f fd) : Binds K fd ["self", "path", "currency"] [] := F.binds (ps := ["self", "path", "currency"]) fun _ _ _ _ _ _ us hl => by obtain ⟨_, _, _, rfl⟩ := ex3 hl; rfl
theorem mM : aP ["self", "path", "currency", "first", "last"] ["self", "path", "currency", "first", "last"] (ae bU) := ⟨rfl, rfl, rfl, by decide +kernel, rfl, by decide +kernel, by decide +kernel⟩
theorem lF {K : PySem.W.Frag} {f : Addr} {fd : FuncData} (F : Fun K "own" "Sums.own" bU f fd) : Binds K fd ["self", "path", "currency", "first", "last"] [] := F.binds (ps := ["self", "path", "currency", "first", "last"]) fun _ _ _ _ _ _ us hl => by obtain ⟨_, _, _, _, _, rfl⟩ := ex5 hl; rfl
theorem gr : aP ["self", "path", "currency", "month"] ["self", "path", "currency", "month"] (ae aY) := ⟨rfl, rfl, rfl, by decide +kernel, rfl, by decide +kernel, by decide +kernel⟩
theorem gu {K : PySem.W.Frag} {f : Addr} {fd : FuncData} (F : Fun K "standing" "Sums.standing" aY f fd) : Binds K fd ["self", "path", "currency", "month"] [] := F.binds (ps := ["self", "path", "currency", "month"]) fun _ _ _ _ _ _ us hl => by obtain ⟨_, _, _, _, rfl⟩ := ex4 hl; rfl
theorem fA : aP ["self", "path"] ["self", "path"] (ae aD) := ⟨rfl, rfl, rfl, by decide +kernel, rfl, by decide +kernel, by decide +kernel⟩
theorem di {K : PySem.W.Frag} {f : Addr} {fd : FuncData} (F : Fun K "currencies" "Sums.currencies" aD f fd) : Binds K fd ["self", "path"] [] := F.binds (ps := ["self", "path"]) fun _ _ _ _ _ _ us hl => by obtain ⟨_, _, rfl⟩ := ex2 hl; rfl
seal L2.PE L2.PT L2.PW L2.PA L2.PS L2.PSs L2.PI L2.PG L2.PGs L2.PO
local macro_rules | `(tactic| walk_at "rd") => `(tactic| try simp only [vn, rdI, V.int.injEq, V.ref.injEq, rX, v6, tH, rP, vC, uF, wa, v7, v8, L2.fm, List.map_cons, List.map_nil, List.cons_append, List.nil_append, List.append_nil, List.length_cons, List.length_nil, List.replicate, List.getElem?_cons_zero, List.getElem?_cons_succ, List.set_cons_zero, List.set_cons_succ, Nat.reduceSub, Nat.reduceAdd, Int.reduceLT, Int.reduceLE, Int.reducePow, Int.reduceNeg, Nat.reducePow, List.cons.injEq, exists_eq_left', exists_eq_left, eq_self, if_false, if_true, ↓reduceIte, ite_not, forall_const, Option.bind_some, id_eq, p9])
local macro_rules | `(tactic| walk_at "om") => `(tactic| first | exact Nat.le_trans (by decide) (by assumption : 1000 ≤ sizeLine) | omega)
section
variable {P : Program} {w : World} {K : PySem.W.Frag} {mg : Str → Option Value} {base : Heap} {a : Adr}
open K3
theorem itp {c : Prop} [Decidable c] {t e : Prop} (h : c) (x : t) : ite c t e := by rw [if_pos h]; exact x
theorem itn {c : Prop} [Decidable c] {t e : Prop} (h : ¬ c) (x : e) : ite c t e := by rw [if_neg h]; exact x
theorem cf {H H' : Hp} {D : Addr} {o : HO} (s : Same H H') (h : H D = none) : Same H (upd H' D o) := fun c z e => by
  rw [ai (ak e h)]; exact s c z e
def sp_fY : Sp := sp1 fun x H Q _ => asI x fun y => Q (.int (LD y)) H
theorem jY (T : Txt K mg a) : b_ P w K mg base (XE P w) 1 a.eK a.fS ["years"] sp_fY := by
  refine T.dz.okX jJ (fun vs H Q E h => sp1.len h) (fun cdv A outer s H vs Q E hr h => ?_)
  obtain ⟨x0, rfl, h⟩ := sp1.inv h
  try dsimp only [sp_fY, sp1] at h
  obtain ⟨y, rfl, k⟩ := asI.inv h
  refine ⟨_, (al (aQ (af aw (af dH (af au (af aw (fv 0) ac) ac) (af au (af aw (fv 0) ac) ac)) (af au (af aw (fv 0) ac) ac)))), ?_⟩
  walk_at "rd"
  exact k
theorem kM (xs : List V) {i : Int} (h : 0 ≤ i) : jV xs none (some i) = xs.take i.toNat := by
  unfold jV
  have e : i = ((i.toNat : Nat) : Int) := by omega
  rw [e, HT.sIx_none, HT.sIx_nat, List.drop_zero, Nat.sub_zero]
  by_cases hl : i.toNat ≤ xs.length
  · rw [Nat.min_eq_left hl]; rfl
  · rw [Nat.min_eq_right (by omega), List.take_of_length_le (by omega), List.take_of_length_le (by simp; omega)]
def LEN : List Int := [31, 28, 31, 30, 31, 30, 31, 31, 30, 31, 30, 31]
theorem qm {i : Int} (h0 : 0 ≤ i) (h1 : i < 12) : (LEN.take i.toNat).sum = K3.S i := by
  have hc : i = 0 ∨ i = 1 ∨ i = 2 ∨ i = 3 ∨ i = 4 ∨ i = 5 ∨ i = 6 ∨ i = 7 ∨ i = 8 ∨ i = 9 ∨ i = 10 ∨ i = 11 := by omega
  rcases hc with h | h | h | h | h | h | h | h | h | h | h | h <;> subst h <;> decide
theorem xi (T : Txt K mg a) (H : Hp) : SqT K H a.cE (LEN.map V.int) := .inr T.cE
def sp_fW : Sp := sp1 fun x H Q _ => asI x fun m => ∀ H', Same H H' → Q (.int (FD m)) H'
theorem gc (T : Txt K mg a) : b_ P w K mg base (XE P w) 2 a.eO a.fZ ["month"] sp_fW := by
  refine T.cU.okX fL (fun vs H Q E h => sp1.len h) (fun cdv A outer s H vs Q E hr h => ?_)
  obtain ⟨x0, rfl, h⟩ := sp1.inv h
  try dsimp only [sp_fW, sp1] at h
  have ND := fL.nd
  obtain ⟨m, rfl, k⟩ := asI.inv h
  have G_leap_days := jY (P := P) (w := w) (base := base) T
  have b_leap_days := jN T.dz
  refine ⟨_, (ag (ar (i := 1) ND rfl (Or.inl rfl) (af au (fv 0) ac))
      (ag (ar (i := 2) ND rfl (Or.inl rfl) (af aC (fv 0) ac))
      (ag (ar (i := 3) ND rfl (Or.inl rfl) (ra (bC uf (fv 2) ac (bg _)) (aq G_leap_days (hr.mono (by decide)) rfl T.gQ T.dz.kp b_leap_days .nil aN (FA.pa (aa (af aw (fv 1) ac) ah))) (aq G_leap_days (hr.mono (by decide)) rfl T.gQ T.dz.kp b_leap_days .nil aN (FA.pa (aa (fv 1) ah)))))
      (al (aQ (af aw (af aw (af cp ac (fv 1)) (fv 3)) (bj (fV K rfl) rfl T.mI iM (FA.pa (aa (dP (so K) (sd (v := .ref a.cE) rfl T.oW rfl) eX (eU (fv 2))) ah))))))))), ?_⟩
  walk_at "rd"
  have b0 : 0 ≤ m % 12 := Int.emod_nonneg _ (by decide)
  have b1 : m % 12 < 12 := Int.emod_lt_of_pos _ (by decide)
  have nw : ¬ (HT.sIx (LEN.map V.int).length 0 none = 0 ∧ HT.sIx (LEN.map V.int).length (LEN.map V.int).length (some (m % 12)) = (LEN.map V.int).length) := fun ⟨_, z⟩ => by
    have e : m % 12 = (((m % 12).toNat : Nat) : Int) := by omega
    rw [e, HT.sIx_nat] at z
    have l : (LEN.map V.int).length = 12 := rfl
    rw [l] at z
    omega
  have fin : ∀ (p : Addr), (upd H p (.tup (jV (LEN.map V.int) none (some (m % 12))))) p = some (.tup ((LEN.take (m % 12).toNat).map V.int)) := fun p => by
    rw [ad, kM _ b0, List.map_take]
  split
  · rename_i h1
    refine ⟨a.cE, _, rfl, xi T _, nw, fun p hp => ⟨LEN.take (m % 12).toNat, .inr (SqT.of (fin p)), ?_⟩⟩
    have e : 365 * (m / 12) + LD (m / 12 + 1) + (LEN.take (m % 12).toNat).sum = FD m := by
      rw [qm b0 b1]; unfold FD; rw [if_pos h1]
    show Q (.int (365 * (m / 12) + LD (m / 12 + 1) + (LEN.take (m % 12).toNat).sum)) _
    rw [e]; exact k _ (aj _ hp)
  · rename_i h1
    refine ⟨a.cE, _, rfl, xi T _, nw, fun p hp => ⟨LEN.take (m % 12).toNat, .inr (SqT.of (fin p)), ?_⟩⟩
    have e : 365 * (m / 12) + LD (m / 12) + (LEN.take (m % 12).toNat).sum = FD m := by
      rw [qm b0 b1]; unfold FD; rw [if_neg h1]
    show Q (.int (365 * (m / 12) + LD (m / 12) + (LEN.take (m % 12).toNat).sum)) _
    rw [e]; exact k _ (aj _ hp)
def sp_g9 : Sp := sp1 fun x H Q _ => asI x fun m => ∀ H', Same H H' → Q (.int (FD (m + 1) - 1)) H'
theorem lC (T : Txt K mg a) : b_ P w K mg base (XE P w) 3 a.fE a.gL ["month"] sp_g9 := by
  refine T.fB.okX mJ (fun vs H Q E h => sp1.len h) (fun cdv A outer s H vs Q E hr h => ?_)
  obtain ⟨x0, rfl, h⟩ := sp1.inv h
  try dsimp only [sp_g9, sp1] at h
  obtain ⟨m, rfl, k⟩ := asI.inv h
  have G_first_day := gc (P := P) (w := w) (base := base) T
  have b_first_day := f_ T.cU
  refine ⟨_, (al (aQ (af dH (aq G_first_day (hr.mono (by decide)) rfl T.gO T.cU.kp b_first_day .nil aN (FA.pa (aa (af aw (fv 0) ac) ah))) ac))), ?_⟩
  walk_at "rd"
  exact k
def sp_g_ : Sp := sp1 fun x H Q _ => asI x fun d => (0 ≤ d ∧ d ≤ 146096) ∧ ∀ H', Same H H' → Q (.int (MO d)) H'
theorem mD (T : Txt K mg a) : b_ P w K mg base (XE P w) 4 a.fG a.g8 ["day"] sp_g_ := by
  refine T.fI.okX gR (fun vs H Q E h => sp1.len h) (fun cdv A outer s H vs Q E hr h => ?_)
  obtain ⟨x0, rfl, h⟩ := sp1.inv h
  try dsimp only [sp_g_, sp1] at h
  have ND := gR.nd
  obtain ⟨d, rfl, ⟨d0, d1⟩, k⟩ := asI.inv h
  have G_last_day := lC (P := P) (w := w) (base := base) T
  have b_last_day := mK T.fB
  have G_first_day := gc (P := P) (w := w) (base := base) T
  have b_first_day := f_ T.cU
  refine ⟨_, (ag (ar (i := 1) ND rfl (Or.inl rfl) (af au (af cp (fv 0) ac) ac))
      (ag (kW (by passes_own) (bC uf (aq G_first_day (hr.mono (by decide)) rfl T.gO T.cU.kp b_first_day .nil aN (FA.pa (aa (fv 1) ah))) (fv 0) (bg _)) (al (ar (i := 1) ND rfl (Or.inl rfl) (af dH (fv 1) ac))))
      (ag (kW (by passes_own) (bC qG (aq G_last_day (hr.mono (by decide)) rfl T.mZ T.fB.kp b_last_day .nil aN (FA.pa (aa (fv 1) ah))) (fv 0) (bg _)) (al (ar (i := 1) ND rfl (Or.inl rfl) (af aw (fv 1) ac))))
      (al (aQ (fv 1)))))), ?_⟩
  walk_at "rd"
  refine ⟨fun n σ H1 => ∃ m, σ = [some (.int d), some (.int m)] ∧ Same H H1 ∧ 0 ≤ m ∧ m ≤ 4799 ∧ n = m.toNat, ⟨_, _, rfl, Same.refl _, by omega, by omega, rfl⟩, ?_⟩
  rintro n σ H1 ⟨m, rfl, s1, m0, m1, rfl⟩
  walk_at "rd"
  intro H2 s2
  split
  · rename_i h2
    have hm : 1 ≤ m := by
      by_cases z : m = 0
      · rw [z, xc] at h2; omega
      · omega
    refine ⟨_, fun σ' H' z => z, (m - 1).toNat, by omega, m - 1, rfl, s1.trans s2, by omega, by omega, rfl⟩
  · rename_i h2
    refine ⟨fun n σ H1 => ∃ m, σ = [some (.int d), some (.int m)] ∧ Same H H1 ∧ 0 ≤ m ∧ m ≤ 4799 ∧ FD m ≤ d ∧ n = (4800 - m).toNat, ⟨_, _, rfl, s1.trans s2, m0, m1, by omega, rfl⟩, ?_⟩
    rintro n σ H1 ⟨m', rfl, s1', m0', m1', h3, rfl⟩
    walk_at "rd"
    intro H3 s3
    split
    · rename_i h4
      have hm : m' + 1 ≤ 4799 := by
        by_cases z : m' = 4799
        · rw [z] at h4
          have e : (4799 : Int) + 1 = 4800 := by decide
          rw [e, qW] at h4; omega
        · omega
      exact ⟨_, fun σ' H' z => z, (4800 - (m' + 1)).toNat, by omega, m' + 1, rfl, s1'.trans s3, by omega, hm, by omega, rfl⟩
    · rename_i h4
      rw [ur h3 (by omega)] at k
      exact k _ (s1'.trans s3)
def sp_at (K : PySem.W.Frag) : Sp := sp2 fun x y H Q _ => asR x fun p => asI y fun k => ∃ ns : List Int, SqL K H p (ns.map V.int) ∧ ns.length ≤ 63 ∧ 0 ≤ k ∧ ∀ i, Q (.int i) H
theorem aX (T : Txt K mg a) : b_ P w K mg base (XE P w) 1 a.dq a.eC ["_law_script", "_law_k"] (sp_at K) := by
  refine T.ay.okX hV (fun vs H Q E h => sp2.len h) (fun cdv A outer s H vs Q E hr h => ?_)
  obtain ⟨x0, x1, rfl, h⟩ := sp2.inv h
  try dsimp only [sp_at, sp2] at h
  obtain ⟨p, rfl, h1⟩ := asR.inv h
  obtain ⟨k, rfl, ns, hp, len, k0, q⟩ := asI.inv h1
  refine ⟨_, (ag (cO (bC qG (fv 1) (bj (eW K) rfl T.jk gt (FA.pa (aa (fv 0) ah))) (bg _)) (al (aQ (aH (ao K) (fv 0) (fv 1) (fun _ _ => rfl)))) bQ)
      (al (aQ ac))), ?_⟩
  walk_at "rd"
  refine ⟨_, .inl hp, ?_⟩
  rw [List.length_map]
  by_cases hk : k < ns.length
  · obtain ⟨j, rfl⟩ : ∃ j : Nat, k = j := ⟨k.toNat, by omega⟩
    have hj : j < ns.length := by omega
    exact itp hk ⟨_, .int ns[j], .inl hp, aA (by rw [List.getElem?_map, List.getElem?_eq_getElem hj]; rfl), q _⟩
  · exact itn hk (q _)
def sp_kF : Sp := sp2 fun x y H Q _ => asI x fun c => asI y fun k => (0 ≤ k ∧ k ≤ 1000) ∧ ∀ i : Int, 0 ≤ i → i < 2147483647 → Q (.int i) H
theorem bA (T : Txt K mg a) : b_ P w K mg base (XE P w) 1 a.dQ a.fj ["_law_cell", "_law_k"] sp_kF := by
  refine T.az.okX i9 (fun vs H Q E h => sp2.len h) (fun cdv A outer s H vs Q E hr h => ?_)
  obtain ⟨x0, x1, rfl, h⟩ := sp2.inv h
  try dsimp only [sp_kF, sp2] at h
  obtain ⟨c, rfl, h2⟩ := asI.inv h
  obtain ⟨k, rfl, hk, q⟩ := asI.inv h2
  refine ⟨_, (al (aQ (af aC (af aw (af aw (af aw (af cp (fv 0) ac) (af cp (af cp ac (fv 1)) (fv 1))) (af cp ac (fv 1))) ac) ac))), ?_⟩
  walk_at "rd"
  exact ⟨.inr (by walk_at "om"), q _ (Int.emod_nonneg _ (by decide)) (Int.emod_lt_of_pos _ (by decide))⟩
def sp_js : Sp := sp1 fun x H Q _ => asK H x fun _ => Q (.bl (isI x)) H
theorem i5 (T : Txt K mg a) : b_ P w K mg base (XE P w) 1 a.dY a.fh ["_law_found"] sp_js := by
  refine T.cY.okX iX (fun vs H Q E h => sp1.len h) (fun cdv A outer s H vs Q E hr h => ?_)
  obtain ⟨x0, rfl, h⟩ := sp1.inv h
  try dsimp only [sp_js, sp1] at h
  obtain ⟨t, ht, hb, k⟩ := asK.inv h
  refine ⟨_, (al (aQ (nL (bj (km K) rfl T.dW dI (FA.pa (aa (fv 0) (aa (kh (v := .ty "int") rfl T.tP rf rfl) ah)))) (iO (uR (bj (km K) rfl T.dW dI (FA.pa (aa (fv 0) (aa (kh (v := .ty "bool") rfl T.v5 sV rfl) ah))))))))), ?_⟩
  walk_at "rd"
  simp only [ht]
  rw [← qB ht] at k
  rcases hb with rfl | rfl | rfl | rfl | rfl | rfl | rfl
  all_goals first
    | exact x_ k
    | exact xZ k
end
section
variable {P : Program} {w : World} {K : PySem.W.Frag} {mg : Str → Option Value} {base : Heap} {a : Adr}
open K3
theorem eI {ta : TA} {g : TG} {tb : TS} {D : d4} {σ : St} {H : Hp} (h : ta σ H fun vs H1 => ∃ j : Int, vs = [.int j] ∧ -(2 ^ 62) ≤ j ∧ j < 2 ^ 62 ∧ FE (Itr 0 j.toNat) g tb D σ H1) : pM (pZ ta) g tb D σ H := h
theorem oY {ta : TA} {g : TG} {tb : TS} {D : d4} {σ : St} {H : Hp} (h : ta σ H fun vs H1 => ∃ i j : Int, vs = [.int i, .int j] ∧ (-(2 ^ 62) ≤ i ∧ i < 2 ^ 62 ∧ -(2 ^ 62) ≤ j ∧ j < 2 ^ 62) ∧ FE (Itr i (j - i).toNat) g tb D σ H1) : pM (tT ta) g tb D σ H := h
theorem eS (l : List Nat) (lo hi : Option Int) : (dO l lo hi).length ≤ l.length := by
  unfold dO; rw [List.length_take, List.length_drop]; omega
theorem iR {l : List Nat} (h : l.length = 26) (x : Int) : ∃ z, atI l (x % 26) = some z := by
  obtain ⟨j, e⟩ := Int.eq_ofNat_of_zero_le (Int.emod_nonneg x (show (26 : Int) ≠ 0 by decide))
  have b := Int.emod_lt_of_pos x (show (0 : Int) < 26 by decide)
  rw [e] at b ⊢
  exact ⟨_, aA (List.getElem?_eq_getElem (by omega))⟩
abbrev LOW : List Nat := [97, 98, 99, 100, 101, 102, 103, 104, 105, 106, 107, 108, 109, 110, 111, 112, 113, 114, 115, 116, 117, 118, 119, 120, 121, 122]
abbrev UP : List Nat := [65, 66, 67, 68, 69, 70, 71, 72, 73, 74, 75, 76, 77, 78, 79, 80, 81, 82, 83, 84, 85, 86, 87, 88, 89, 90]
def Txs (H : Hp) (q : Addr) (ls : List (List Nat)) (n : Nat) : Prop := H q = some (.lst (ls.map L2.T)) ∧ ∀ l ∈ ls, 0 < l.length ∧ l.length ≤ n
theorem Txs.same {H H' : Hp} {q : Addr} {ls : List (List Nat)} {n : Nat} (h : Txs H q ls n) (s : Same H H') : Txs H' q ls n := ⟨s _ _ h.1, h.2⟩
def sp_lj : Sp := sp1 fun x H Q _ => asI x fun c => ∀ p H' (ls : List (List Nat)), Same H H' → H p = none → Txs H' p ls 21 → ls.length = 7 → Q (.ref p) H'
theorem i7 (T : Txt K mg a) : b_ P w K mg base (XE P w) 1 a.dZ a.fc ["_law_cell"] sp_lj := by
  refine T.ei.okX fk (fun vs H Q E h => sp1.len h) (fun cdv A outer s H vs Q E hr h => ?_)
  obtain ⟨x0, rfl, h⟩ := sp1.inv h
  try dsimp only [sp_lj, sp1] at h
  have ND := fk.nd
  obtain ⟨c, rfl, q⟩ := asI.inv h
  have sz : 1000 ≤ sizeLine := by rw [sizeLine_eq]; decide
  refine ⟨_, (ag (ar (i := 1) ND rfl (Or.inr rfl) (cX [97, 98, 99, 100, 101, 102, 103, 104, 105, 106, 107, 108, 109, 110, 111, 112, 113, 114, 115, 116, 117, 118, 119, 120, 121, 122]))
      (ag (ar (i := 2) ND rfl (Or.inl rfl) (af aw ac (af aC (fv 0) ac)))
      (ag (ar (i := 3) ND rfl (Or.inr rfl) (af aw ac (af aC (af au (fv 0) ac) ac)))
      (ag (ar (i := 4) ND rfl (Or.inl rfl) (fz K PySem.F.plainAttrs_str PySem.F.slot_str_join PySem.F.type_str_join (qv K) (cX []) (FA.pa (aa (cq rfl (cl := _) (x := "_law_k") (xs := ["_law_k"]) (fr := ["_law_letters", "_law_cell", "_law_step"]) (ks := [1, 0, 3]) (by exact ⟨rfl, by decide +kernel, rfl, by decide +kernel, rfl, cw rfl, rfl, aK rfl, aK (k := fun y => List.lookup y _) rfl, cy rfl⟩) rfl (cP rfl T.dE (FA.pa (aa (fv 2) ah))) (fun _ _ _ _ _ => (aF (i := 0) (dw (l := ["_law_k", "_law_letters", "_law_cell", "_law_step"]) (by decide)) rfl (Or.inl rfl))) (fun _ _ _ _ _ => gm) (fun _ _ _ _ _ => (aH (ao K) (fv 1) (af aC (af aw (af au (fv 2) ac) (af cp (fv 3) (fv 0))) ac) (fun _ _ => rfl)))) ah))))
      (ag (ar (i := 5) ND rfl (Or.inl rfl) (af aC (af au (fv 0) ac) (af aw (fv 2) ac)))
      (ag (ar (i := 6) ND rfl (Or.inl rfl) (bP (FA.pa ah)))
      (ag (d8 (by passes_own) rfl (cP rfl T.dE (FA.pa (aa ac ah))) (aF (i := 7) ND rfl (Or.inl rfl)) (ag (ar (i := 8) ND rfl (Or.inl rfl) (aH (ao K) (fv 1) (af aC (af aw (af au (fv 0) ac) (af cp ac (fv 7))) ac) (fun _ _ => rfl)))
      (al (gn (fz K PySem.F.plainAttrs_list PySem.F.slot_list_append PySem.F.type_list_append cZ (fv 6) (FA.pa (aa (af aw (af aw (dP jL (fv 4) eX (eU (fv 5))) (fv 8)) (dP jL (fv 4) (eU (fv 5)) eX)) ah)))))))
      (al (aQ (af j5 (fv 6) (bP (FA.pa (aa (fv 4) ah))))))))))))), ?_⟩
  walk_at "rd"
  obtain ⟨gz, hgz⟩ := Classical.axiomOfChoice fun j : Nat => iR (l := LOW) rfl (c / 250 + (1 + c / 10 % 25) * (j : Int))
  obtain ⟨gy, hgy⟩ := Classical.axiomOfChoice fun j : Nat => iR (l := LOW) rfl (c / 71500 + 3 * (0 + (j : Int)))
  refine cmR (fun _ => True) (fun _ _ _ => trivial) (1 + c % 10).toNat (fun _ => true) (fun j : Nat => L2.T [gz j]) (fun R r => ?_) (by walk_at "om") (fun j hj H R _ r => r) (fun j hj _ H' R _ r => ?_) (fun D hD => ?_)
  · walk_at "rd"
    rw [show ((1 + c % 10).toNat : Int) = 1 + c % 10 by walk_at "om"] at r; exact r
  · walk_at "rd"
    refine ⟨.inl (by walk_at "om"), by walk_at "om", ?_⟩
    show match atI LOW ((c / 250 + (1 + c / 10 % 25) * (j : Int)) % 26) with | some c => R (L2.T [c]) H' | none => False
    rw [hgz]
    exact r
  · refine rp (List.range (1 + c % 10).toNat) gz (by rw [ad, List.filter_eq_self.mpr (by simp)]) (by rw [List.length_range]; omega) ?_
    have hw0 : 0 < (List.map gz (List.range (1 + c % 10).toNat)).length := by rw [List.length_map, List.length_range]; omega
    have hw : (List.map gz (List.range (1 + c % 10).toNat)).length ≤ 10 := by rw [List.length_map, List.length_range]; omega
    refine ⟨by walk_at "om", Nat.zero_le _, fun p hp => ?_⟩
    have s1 := aj (HO.lst (List.map (fun j : Nat => L2.T [gz j]) (List.filter (fun _ => true) (List.range (1 + c % 10).toNat)))) hD
    generalize upd H D (HO.lst (List.map (fun j : Nat => L2.T [gz j]) (List.filter (fun _ => true) (List.range (1 + c % 10).toNat)))) = H1 at s1 hp ⊢
    have p0 : H p = none := s1.free hp
    generalize List.map gz (List.range (1 + c % 10).toNat) = w at hw hw0 ⊢
    generalize c / 6500 % (1 + c % 10 + 1) = t
    refine eI ?_
    walk_at "rd"
    refine c_ (lo := 0) (n := 6) (fun i σ' H' => Same H H' ∧ ∃ ls x7 x8, Txs H' p ls 21 ∧ ls.length = i ∧ σ' = [some (.int c), some (L2.T LOW), some (.int (1 + c % 10)), some (.int (1 + c / 10 % 25)), some (L2.T w), some (.int t), some (.ref p), x7, x8]) ⟨s1.trans (aj _ hp), [], none, none, ⟨ad, fun _ m => nomatch m⟩, rfl, rfl⟩ ?_ ?_
    · rintro i σ' H' hi ⟨sm, ls, x7, x8, hl, len, rfl⟩
      walk_at "rd"
      refine ⟨by show 26 ≤ sizeLine; omega, ?_⟩
      show match atI LOW ((c / 71500 + 3 * (0 + (i : Int))) % 26) with | some c_1 => _ | none => False
      rw [hgy]
      walk_at "rd"
      have l1 := eS w none (some t)
      have l2 := eS w (some t) none
      have l3 : (dO w none (some t) ++ [gy i] ++ dO w (some t) none).length = (dO w none (some t)).length + 1 + (dO w (some t) none).length := by rw [List.length_append, List.length_append]; rfl
      have l4 : (dO w none (some t) ++ [gy i]).length = (dO w none (some t)).length + 1 := by simp
      refine ⟨.inl ⟨_, SqL.of hl.1⟩, by walk_at "om", by walk_at "om", by walk_at "om", by walk_at "om", p, _, _, rfl, rfl, hl.1, by rw [List.length_map]; omega, cf sm p0, ls ++ [dO w none (some t) ++ [gy i] ++ dO w (some t) none], _, _, ⟨by rw [ad, List.map_append]; rfl, fun l m => ?_⟩, by rw [List.length_append, len]; rfl, rfl, rfl⟩
      rcases List.mem_append.mp m with m | m
      · exact hl.2 l m
      · rw [List.mem_singleton.mp m]; omega
    · rintro σ' H' ⟨sm, ls, x7, x8, hl, len, rfl⟩
      walk_at "rd"
      refine ⟨by walk_at "om", fun q1 h1 => ⟨_, _, (ai (ak hl.1 h1)).trans hl.1, ad, by simp; omega, fun q2 h2 => ?_⟩⟩
      have s2 := (sm.trans (aj (HO.lst [L2.T w]) h1))
      refine q q2 _ (ls ++ [w]) (cf s2 (s2.free h2)) (s2.free h2) ⟨by rw [ad, List.map_append]; rfl, fun l m => ?_⟩ (by rw [List.length_append, len]; rfl)
      rcases List.mem_append.mp m with m | m
      · exact hl.2 l m
      · rw [List.mem_singleton.mp m]; omega
theorem j9 {ps : List (List Nat)} (x : Int) (h : 0 < ps.length) : ∃ u ∈ ps, atI (ps.map L2.T) (x % ((ps.map L2.T).length : Nat)) = some (L2.T u) := by
  have b0 : 0 ≤ x % ((ps.map L2.T).length : Nat) := Int.emod_nonneg _ (by rw [List.length_map]; omega)
  have b1 : x % ((ps.map L2.T).length : Nat) < ((ps.map L2.T).length : Nat) := Int.emod_lt_of_pos _ (by rw [List.length_map]; omega)
  obtain ⟨j, e⟩ := Int.eq_ofNat_of_zero_le b0
  rw [e] at b1 ⊢
  have hj : j < ps.length := by rw [List.length_map] at b1; omega
  exact ⟨ps[j], List.getElem_mem hj, aA (by simp [hj])⟩
theorem j2 {cu : List (List Nat)} {n : Nat} (x : Int) (h : cu.length = n) (h0 : 0 < n) : ∃ u ∈ cu, atI (cu.map L2.T) (x % (n : Int)) = some (L2.T u) := by
  have := j9 (ps := cu) x (by omega)
  rw [List.length_map, h] at this; exact this
theorem nj {cu : List (List Nat)} (j : Nat) (h : j < cu.length) : ∃ u ∈ cu, atI (cu.map L2.T) (j : Int) = some (L2.T u) := ⟨cu[j], List.getElem_mem h, aA (by simp [h])⟩
def sp_lP (K : PySem.W.Frag) : Sp := sp2 fun x y H Q _ => asR x fun p => asI y fun m => ∃ ns : List Int, SqL K H p (ns.map V.int) ∧ ns.length ≤ 63 ∧ (0 ≤ m ∧ m ≤ 9) ∧ ∀ ps q H', Same H H' → H q = none → Txs H' q ps 300 → 2 ≤ ps.length → ps.length ≤ 11 → Q (.ref q) H'
theorem bz (T : Txt K mg a) : b_ P w K mg base (XE P w) 3 a.d6 a.fb ["_law_script", "_law_many"] (sp_lP K) := by
  refine T.bh.okX ff (fun vs H Q E h => sp2.len h) (fun cdv A outer s H vs Q E hr h => ?_)
  obtain ⟨x0, x1, rfl, h⟩ := sp2.inv h
  try dsimp only [sp_lP, sp2] at h
  have ND := ff.nd
  obtain ⟨p, rfl, h1⟩ := asR.inv h
  obtain ⟨m, rfl, ns, hS, ln, hm, k⟩ := asI.inv h1
  have sz : 1000 ≤ sizeLine := by rw [sizeLine_eq]; decide
  have G__law_mixed := bA (P := P) (w := w) (base := base) T
  have b__law_mixed := bx T.az
  have G__law_cell_at := aX (P := P) (w := w) (base := base) T
  have b__law_cell_at := aV T.ay
  have G__law_names := i7 (P := P) (w := w) (base := base) T
  have b__law_names := ja T.ei
  refine ⟨_, (ag (ar (i := 2) ND rfl (Or.inl rfl) (aq G__law_names (hr.mono (by decide)) rfl T.j4 T.ei.kp b__law_names .nil aN (FA.pa (aa (aq G__law_cell_at (hr.mono (by decide)) rfl T.b8 T.ay.kp b__law_cell_at .nil aN (FA.pa (aa (fv 0) (aa ac ah)))) ah))))
      (ag (ar (i := 3) ND rfl (Or.inl rfl) (bP (FA.pa (aa (aH (ao K) (fv 2) ac (fun _ _ => rfl)) (aa (aH (ao K) (fv 2) ac (fun _ _ => rfl)) ah)))))
      (ag (d8 (by passes_own) rfl (cP rfl T.dE (FA.pa (aa (fv 1) ah))) (aF (i := 4) ND rfl (Or.inl rfl)) (ag (ar (i := 5) ND rfl (Or.inl rfl) (aq G__law_mixed (hr.mono (by decide)) rfl T.bw T.az.kp b__law_mixed .nil aN (FA.pa (aa (aq G__law_cell_at (hr.mono (by decide)) rfl T.b8 T.ay.kp b__law_cell_at .nil aN (FA.pa (aa (fv 0) (aa ac ah)))) (aa (fv 4) ah)))))
      (ag (ar (i := 6) ND rfl (Or.inl rfl) (aH (ao K) (fv 3) (af aC (fv 5) (bj (eW K) rfl T.jk gt (FA.pa (aa (fv 3) ah)))) (fun _ _ => rfl)))
      (ag (ar (i := 7) ND rfl (Or.inl rfl) (af aw (af aw (fv 6) (cX [58])) (aH (ao K) (fv 2) (af aC (af au (fv 5) ac) ac) (fun _ _ => rfl))))
      (al (cO (L2.PW.pt (wA (bC (pC K) (fv 7) (fv 3) (by with_unfolding_all rfl)) (tN (bC qG (fz K PySem.F.plainAttrs_str PySem.F.slot_str_count PySem.F.type_str_count qf (fv 6) (FA.pa (aa (cX [58]) ah))) ac (bg _))))) (al (gn (fz K PySem.F.plainAttrs_list PySem.F.slot_list_append PySem.F.type_list_append cZ (fv 3) (FA.pa (aa (fv 7) ah))))) bQ))))))
      (al (aQ (fv 3)))))), ?_⟩
  walk_at "rd"
  refine ⟨ns, hS, ln, fun q H1 ls s1 hq hl l7 => ?_⟩
  obtain ⟨u0, m0, e0⟩ := nj (cu := ls) 0 (by walk_at "om")
  obtain ⟨u6, m6, e6⟩ := nj (cu := ls) 6 (by walk_at "om")
  refine ⟨_, _, .inl (SqL.of hl.1), e0, _, _, .inl (SqL.of hl.1), e6, by walk_at "om", fun r hr => ?_⟩
  have qr : q ≠ r := ak hl.1 hr
  have r0 : H r = none := s1.free hr
  refine eI ?_
  walk_at "rd"
  refine ⟨by walk_at "om", by walk_at "om", c_ (lo := 0) (n := m.toNat) (fun i σ' H' => Same H H' ∧ Txs H' q ls 21 ∧ ∃ ps x4 x5 x6 x7, 2 ≤ ps.length ∧ ps.length ≤ 2 + i ∧ Txs H' r ps (21 + 22 * i) ∧ σ' = [some (.ref p), some (.int m), some (.ref q), some (.ref r), x4, x5, x6, x7]) ⟨s1.trans (aj _ hr), hl.same (aj _ hr), [u0, u6], none, none, none, none, Nat.le_refl _, Nat.le_refl _, ⟨ad, fun l ml => ?_⟩, rfl⟩ ?_ ?_⟩
  · rcases List.mem_cons.mp ml with rfl | ml
    · exact hl.2 _ m0
    · rw [List.mem_singleton.mp ml]; exact hl.2 _ m6
  · rintro i σ' H' hi ⟨sm, hl', ps, x4, x5, x6, x7, l2, lp, hr', rfl⟩
    walk_at "rd"
    refine ⟨ns, hS.same sm, ln, ⟨by walk_at "om", by walk_at "om"⟩, fun x _ _ => ⟨_, .inl (SqL.of hr'.1), ?_⟩⟩
    obtain ⟨u, hu, eu⟩ := j9 (ps := ps) x (by walk_at "om")
    obtain ⟨u7, h7, e7⟩ := j2 (cu := ls) (x / 13) l7 (by decide)
    have lu := hr'.2 u hu
    have lu7 := hl'.2 u7 h7
    refine ⟨by rw [List.length_map]; omega, _, _, .inl (SqL.of hr'.1), eu, ?_⟩
    walk_at "rd"
    refine ⟨by walk_at "om", _, _, .inl (SqL.of hl'.1), e7, ?_⟩
    walk_at "rd"
    have l3 : (u ++ [58] ++ u7).length = u.length + 1 + u7.length := by rw [List.length_append, List.length_append]; rfl
    have ol : ∀ n : Nat, (∀ l ∈ ps, 0 < l.length ∧ l.length ≤ 21 + 22 * i) → ∀ l ∈ ps, 0 < l.length ∧ l.length ≤ 21 + 22 * (i + 1) := fun n h l m => by have := h l m; omega
    refine ⟨by rw [List.length_append]; show u.length + 1 + _ ≤ _; omega, _, .inl (SqL.of hr'.1), rfl, by simp [cj], ?_⟩
    by_cases c1 : inV (L2.T (u ++ [58] ++ u7)) (ps.map L2.T) = false
    · refine itp c1 ⟨by decide, fun z => by rw [z] at lu; exact absurd lu.1 (by decide), ?_⟩
      by_cases h5 : ((spN 58 u).length : Int) - 1 < 5
      · refine itp h5 ⟨.inl ⟨_, SqL.of hr'.1⟩, r, _, _, rfl, rfl, hr'.1, by rw [List.length_map]; omega, cf sm r0, ⟨(ai qr).trans hl'.1, hl'.2⟩, ps ++ [u ++ [58] ++ u7], _, _, _, _, by rw [List.length_append]; omega, by rw [List.length_append]; show ps.length + 1 ≤ _; omega, ⟨by rw [ad, List.map_append]; rfl, fun l m => ?_⟩, rfl, rfl, rfl, rfl⟩
        rcases List.mem_append.mp m with m | m
        · exact ol 0 hr'.2 l m
        · rw [List.mem_singleton.mp m]; omega
      · exact itn h5 ⟨sm, hl', ps, _, _, _, _, l2, by walk_at "om", ⟨hr'.1, ol 0 hr'.2⟩, rfl, rfl, rfl, rfl⟩
    · exact itn c1 ⟨sm, hl', ps, _, _, _, _, l2, by walk_at "om", ⟨hr'.1, ol 0 hr'.2⟩, rfl, rfl, rfl, rfl⟩
  · rintro σ' H' ⟨sm, hl', ps, x4, x5, x6, x7, l2, lp, hr', rfl⟩
    walk_at "rd"
    refine k ps r H' sm r0 ⟨hr'.1, fun l ml => ?_⟩ l2 (by walk_at "om")
    have := hr'.2 l ml
    omega
def sp_oa : Sp := sp1 fun x H Q _ => asI x fun c => ∀ cu q H', Same H H' → H q = none → Txs H' q cu 10 → cu.length = 3 → Q (.ref q) H'
theorem aM (T : Txt K mg a) : b_ P w K mg base (XE P w) 1 a.cH a.dn ["_law_cell"] sp_oa := by
  refine T.aE.okX da (fun vs H Q E h => sp1.len h) (fun cdv A outer s H vs Q E hr h => ?_)
  obtain ⟨x0, rfl, h⟩ := sp1.inv h
  try dsimp only [sp_oa, sp1] at h
  have ND := da.nd
  obtain ⟨c, rfl, q⟩ := asI.inv h
  have sz : 1000 ≤ sizeLine := by rw [sizeLine_eq]; decide
  refine ⟨_, (ag (ar (i := 1) ND rfl (Or.inr rfl) (cX [65, 66, 67, 68, 69, 70, 71, 72, 73, 74, 75, 76, 77, 78, 79, 80, 81, 82, 83, 84, 85, 86, 87, 88, 89, 90]))
      (ag (ar (i := 2) ND rfl (Or.inr rfl) (af aw (aH (ao K) (fv 1) (af aC (af au (fv 0) ac) ac) (fun _ _ => rfl)) (aH (ao K) (fv 1) (af aC (af au (fv 0) ac) ac) (fun _ _ => rfl))))
      (ag (ar (i := 3) ND rfl (Or.inr rfl) (af aC (fv 0) ac))
      (al (aQ (cq rfl (cl := _) (x := "_law_k") (xs := ["_law_k"]) (fr := ["_law_word", "_law_letters", "_law_at", "_law_cell"]) (ks := [2, 1, 3, 0]) (by exact ⟨rfl, by decide +kernel, rfl, by decide +kernel, rfl, cw rfl, rfl, aK rfl, aK (k := fun y => List.lookup y _) rfl, cy rfl⟩) rfl (cP rfl T.dE (FA.pa (aa ac ah))) (fun _ _ _ _ _ => (aF (i := 0) (dw (l := ["_law_k", "_law_word", "_law_letters", "_law_at", "_law_cell"]) (by decide)) rfl (Or.inl rfl))) (fun _ _ _ _ _ => gm) (fun _ _ _ _ _ => (af aw (af aw (dP jL (fv 1) eX (eU (fv 3))) (aH (ao K) (fv 2) (af aC (af aw (af au (fv 4) ac) (af cp ac (fv 0))) ac) (fun _ _ => rfl))) (dP jL (fv 1) (eU (fv 3)) eX))))))))), ?_⟩
  walk_at "rd"
  obtain ⟨z1, e1⟩ := iR (l := UP) rfl (c / 3)
  obtain ⟨z2, e2⟩ := iR (l := UP) rfl (c / 78)
  refine ⟨by walk_at "om", ?_⟩
  rw [e1]
  refine ⟨by walk_at "om", ?_⟩
  rw [e2]
  refine ⟨by walk_at "om", ?_⟩
  obtain ⟨gz, hgz⟩ := Classical.axiomOfChoice fun j : Nat => iR (l := UP) rfl (c / 2028 + 3 * (j : Int))
  refine cmR (fun _ => True) (fun _ _ _ => trivial) 3 (fun _ => true) (fun j : Nat => L2.T (dO [z1, z2] none (some (c % 3)) ++ [gz j] ++ dO [z1, z2] (some (c % 3)) none)) (fun R r => r) (by walk_at "om") (fun j hj H R _ r => r) (fun j hj _ H' R _ r => ?_) (fun D hD => ?_)
  · walk_at "rd"
    refine ⟨by walk_at "om", by walk_at "om", ?_⟩
    rw [hgz]
    walk_at "rd"
    have l1 := eS [z1, z2] none (some (c % 3))
    have l2 := eS [z1, z2] (some (c % 3)) none
    simp only [List.length_append, List.length_cons, List.length_nil] at *
    exact ⟨by walk_at "om", by walk_at "om", by walk_at "om", r⟩
  · have e : ((List.range 3).filter fun _ => true).map (fun j : Nat => L2.T (dO [z1, z2] none (some (c % 3)) ++ [gz j] ++ dO [z1, z2] (some (c % 3)) none)) = ((List.range 3).map fun j : Nat => dO [z1, z2] none (some (c % 3)) ++ [gz j] ++ dO [z1, z2] (some (c % 3)) none).map L2.T := by
      rw [List.filter_eq_self.mpr (by simp), List.map_map]; rfl
    rw [e]
    refine q _ D _ (aj _ hD) hD ⟨ad, fun l hl => ?_⟩ rfl
    obtain ⟨j, _, rfl⟩ := List.mem_map.mp hl
    have := eS [z1, z2] none (some (c % 3))
    have := eS [z1, z2] (some (c % 3)) none
    simp only [List.length_append, List.length_cons, List.length_nil] at *
    omega
end
section
variable {P : Program} {w : World} {K : PySem.W.Frag} {mg : Str → Option Value} {base : Heap} {a : Adr}
open K3
abbrev L11 : List Int := [31, 28, 31, 30, 31, 30, 31, 31, 30, 31, 30]
theorem qu (y : Int) : LD (y + 1) - LD y = if (y % 4 = 0 ∧ y % 100 ≠ 0) ∨ y % 400 = 0 then 1 else 0 := by
  rw [nQ]; omega
def PL (y : Int) (i : Nat) : Int := ((31 :: (28 + (LD (y + 1) - LD y)) :: R10).take i).sum
theorem rU (y : Int) : ∀ i : Nat, i < 11 → PL y (i + 1) = PL y i + (L11.getD i 0 + if i = 1 then LD (y + 1) - LD y else 0) := by
  intro i hi
  have hc : i = 0 ∨ i = 1 ∨ i = 2 ∨ i = 3 ∨ i = 4 ∨ i = 5 ∨ i = 6 ∨ i = 7 ∨ i = 8 ∨ i = 9 ∨ i = 10 := by omega
  unfold PL
  rcases hc with h | h | h | h | h | h | h | h | h | h | h <;> subst h <;> simp [R10, List.take, List.sum] <;> omega
def sp_lO : Sp := sp1 fun x H Q _ => asI x fun m => ∀ H', Same H H' → Q (.int (FD m)) H'
theorem i_ (T : Txt K mg a) : b_ P w K mg base (XE P w) 1 a.cM a.fo ["_law_month"] sp_lO := by
  refine T.cG.okX fe (fun vs H Q E h => sp1.len h) (fun cdv A outer s H vs Q E hr h => ?_)
  obtain ⟨x0, rfl, h⟩ := sp1.inv h
  try dsimp only [sp_lO, sp1] at h
  have ND := fe.nd
  have HU : (bY (XE P w) P w K mg base ["_law_month", "_law_year", "_law_day_here", "_law_long_year", "_law_place"] "_law_first" (ae aW) a.cM cdv A outer s H E).A.units + 100 < cLine := bp hr
  obtain ⟨m, rfl, q⟩ := asI.inv h
  have c3 : ∃ u, PSs (bY (XE P w) P w K mg base ["_law_month", "_law_year", "_law_day_here", "_law_long_year", "_law_place"] "_law_first" (ae aW) a.cM cdv A outer s H E) (List.drop 3 (aB aW)) u ∧ ∀ (bb : Bool), (if bb = true then (1 : Int) else 0) = LD (m / 12 + 1) - LD (m / 12) → u { nx := fun _ H' => Q .non H', rt := Q } [some (.int m), some (.int (m / 12)), some (.int (365 * (m / 12) + (m / 12 + 3) / 4 - (m / 12 + 99) / 100 + (m / 12 + 399) / 400)), some (.bl bb), none] H := by
    refine ⟨_, (ag (d8 (by passes_own) rfl (cP rfl T.dE (FA.pa (aa (af aC (fv 0) ac) ah))) (aF (i := 4) ND rfl (Or.inl rfl)) (al (ar (i := 2) ND rfl (Or.inl rfl) (af aw (af aw (fv 2) (aH (ao K) (bP (FA.pa (aa ac (aa ac (aa ac (aa ac (aa ac (aa ac (aa ac (aa ac (aa ac (aa ac (aa ac ah))))))))))))) (fv 4) (fun _ _ => rfl))) (jz sh rfl T.tP rf (FA.pa (aa (nL (ef (ci K HU) (fv 4) ac (bg _)) (iO (fv 3))) ah)))))))
      (al (aQ (fv 2)))), fun bb hbb => ?_⟩
    walk_at "rd"
    refine eI ?_
    walk_at "rd"
    have m0 : 0 ≤ m % 12 ∧ m % 12 < 12 := by walk_at "om"
    refine ⟨by walk_at "om", by walk_at "om", c_ (lo := 0) (n := (m % 12).toNat) (fun i σ' H' => Same H H' ∧ ∃ x4, σ' = [some (.int m), some (.int (m / 12)), some (.int (365 * (m / 12) + LD (m / 12) + PL (m / 12) i)), some (.bl bb), x4]) ⟨Same.refl _, none, ?_⟩ ?_ ?_⟩
    · have e : 365 * (m / 12) + (m / 12 + 3) / 4 - (m / 12 + 99) / 100 + (m / 12 + 399) / 400 = 365 * (m / 12) + LD (m / 12) + PL (m / 12) 0 := by unfold LD PL; simp; omega
      rw [e]
    · rintro i σ' H' hi ⟨sm, x4, rfl⟩
      have i11 : i < 11 := by walk_at "om"
      have st := rU (m / 12) i i11
      have ix : atI (L11.map V.int) (0 + (i : Int)) = some (.int (L11.getD i 0)) := by
        rw [Int.zero_add]
        exact aA (by rw [List.getElem?_map, List.getElem?_eq_getElem (show i < L11.length from i11)]; simp [List.getD, List.getElem?_eq_getElem (show i < L11.length from i11)])
      walk_at "rd"
      refine ⟨by rw [sizeLine_eq]; decide, fun p hp => ⟨L11.map V.int, _, .inl (SqL.of ad), ix, ?_⟩⟩
      have s2 := sm.trans (aj (HO.lst (L11.map V.int)) hp)
      walk_at "rd"
      by_cases h1 : (0 : Int) + (i : Int) = 1
      · refine itp h1 ⟨s2, _, ?_, rfl⟩
        have i1 : i = 1 := by walk_at "om"
        rw [if_pos i1, ← hbb] at st
        rw [st, ← Int.add_assoc, ← Int.add_assoc]
      · refine itn h1 ⟨s2, _, ?_, rfl⟩
        have i1 : ¬ i = 1 := by walk_at "om"
        rw [if_neg i1] at st
        rw [st, ← Int.add_assoc, ← Int.add_assoc]
    · rintro σ' H' ⟨sm, x4, rfl⟩
      walk_at "rd"
      have e : 365 * (m / 12) + LD (m / 12) + PL (m / 12) (m % 12).toNat = FD m := wW m
      rw [e]; exact q _ sm
  obtain ⟨u3, hu3, c3⟩ := c3
  refine ⟨_, (ag (ar (i := 1) ND rfl (Or.inl rfl) (af au (fv 0) ac))
      (ag (ar (i := 2) ND rfl (Or.inl rfl) (af aw (af dH (af aw (af cp ac (fv 1)) (af au (af aw (fv 1) ac) ac)) (af au (af aw (fv 1) ac) ac)) (af au (af aw (fv 1) ac) ac)))
      (ag (ar (i := 3) ND rfl (Or.inl rfl) (nL (ef (ci K HU) (af aC (fv 1) ac) ac (bg _)) (iO (ui (ef (jP K HU) (af aC (fv 1) ac) ac (bg _)) (iO (ef (ci K HU) (af aC (fv 1) ac) ac (bg _)))))))
      hu3))), ?_⟩
  walk_at "rd"
  have lo := qu (m / 12)
  by_cases h4 : m / 12 % 4 = 0
  · refine itp h4 ?_
    by_cases h1 : m / 12 % 100 = 0
    · refine itp h1 (c3 _ ?_)
      rw [lo]
      by_cases h5 : m / 12 % 400 = 0
      · rw [if_pos (decide_eq_true h5), if_pos (.inr h5)]
      · rw [if_neg (fun z => h5 (of_decide_eq_true z)), if_neg (by omega)]
    · refine itn h1 (c3 _ ?_)
      exact (lo.trans (if_pos (.inl ⟨h4, h1⟩))).symm
  · refine itn h4 (c3 _ ?_)
    exact (lo.trans (if_neg (by omega))).symm
def sp_jA : Sp := sp1 fun x H Q _ => asI x fun c => (0 ≤ c ∧ c < 2147483647) ∧ ∀ i : Int, Q (.int i) H
theorem iN (T : Txt K mg a) : b_ P w K mg base (XE P w) 1 a.cS a.eP ["_law_cell"] sp_jA := by
  refine T.dG.okX eQ (fun vs H Q E h => sp1.len h) (fun cdv A outer s H vs Q E hr h => ?_)
  obtain ⟨x0, rfl, h⟩ := sp1.inv h
  try dsimp only [sp_jA, sp1] at h
  have ND := eQ.nd
  have HU : (bY (XE P w) P w K mg base ["_law_cell", "_law_some"] "_law_amount" (ae bd) a.cS cdv A outer s H E).A.units + 100 < cLine := bp hr
  obtain ⟨c, rfl, hc, q⟩ := asI.inv h
  refine ⟨_, (ag (ar (i := 1) ND rfl (Or.inl rfl) (af aw ac (af aC (af au (fv 0) ac) ac)))
      (ag (cO (bC (ci K HU) (af aC (fv 0) ac) ac (bg _)) (al (ar (i := 1) ND rfl (Or.inl rfl) (af aw ac (af aC (af cp (fv 0) (fv 0)) (af jZ ac ac))))) bQ)
      (ag (cO (bC (ci K HU) (af aC (fv 0) ac) ac (bg _)) (al (ar (i := 1) ND rfl (Or.inl rfl) (af dH (af jZ ac ac) (af aC (af au (fv 0) ac) ac)))) bQ)
      (al (aQ (af cp (fv 1) (af dH ac (af cp ac (af aC (af au (fv 0) ac) ac))))))))), ?_⟩
  walk_at "rd"
  have e : (10 : Int) ^ Int.toNat 15 = 1000000000000000 := by decide
  have z : -18446744073709551616 < 1 - 2 * (c / 3 % 2) ∧ 1 - 2 * (c / 3 % 2) < 18446744073709551616 := by walk_at "om"
  have y : Int.natAbs 10 < 18446744073709551616 := by decide
  rw [e]
  split
  · refine ⟨.inl (by walk_at "om"), y, by decide, ?_⟩
    split
    · exact ⟨y, .inr z, q _⟩
    · exact ⟨.inr z, q _⟩
  · split
    · exact ⟨y, .inr z, q _⟩
    · exact ⟨.inr z, q _⟩
def sp_qS : Sp := sp2 fun x y H Q _ => asI x fun c => asI y fun m => ∀ d H', FD m ≤ d → d < FD (m + 1) → Same H H' → Q (.int d) H'
theorem cC (T : Txt K mg a) : b_ P w K mg base (XE P w) 2 a.dU a.gN ["_law_cell", "_law_month"] sp_qS := by
  refine T.cg.okX mL (fun vs H Q E h => sp2.len h) (fun cdv A outer s H vs Q E hr h => ?_)
  obtain ⟨x0, x1, rfl, h⟩ := sp2.inv h
  try dsimp only [sp_qS, sp2] at h
  have HU : (bY (XE P w) P w K mg base ["_law_cell", "_law_month"] "_law_day" (ae bN) a.dU cdv A outer s H E).A.units + 100 < cLine := bp hr
  obtain ⟨c, rfl, h2⟩ := asI.inv h
  obtain ⟨m, rfl, q⟩ := asI.inv h2
  have fl := tV m
  have G__law_first := i_ (P := P) (w := w) (base := base) T
  have b__law_first := i3 T.cG
  refine ⟨_, (ag (cO (bC (ci K HU) (af aC (fv 0) ac) ac (bg _)) (al (aQ (aq G__law_first (hr.mono (by decide)) rfl T.d7 T.cG.kp b__law_first .nil aN (FA.pa (aa (fv 1) ah))))) bQ)
      (ag (cO (bC (ci K HU) (af aC (fv 0) ac) ac (bg _)) (al (aQ (af dH (aq G__law_first (hr.mono (by decide)) rfl T.d7 T.cG.kp b__law_first .nil aN (FA.pa (aa (af aw (fv 1) ac) ah))) ac))) bQ)
      (al (aQ (af aw (aq G__law_first (hr.mono (by decide)) rfl T.d7 T.cG.kp b__law_first .nil aN (FA.pa (aa (fv 1) ah))) (af aC (af au (fv 0) ac) ac)))))), ?_⟩
  walk_at "rd"
  split
  · exact fun H' s' => q _ H' (Int.le_refl _) (by walk_at "om") s'
  · split
    · exact fun H' s' => q _ H' (by walk_at "om") (by walk_at "om") s'
    · exact fun H' s' => q _ H' (by walk_at "om") (by walk_at "om") s'
def sp_iQ : Sp := sp2 fun x y H Q _ => asI x fun c => asI y fun b => ∀ (f l : Int) r H', Same H H' → H r = none → H' r = some (.tup [.int f, .int l]) → Q (.ref r) H'
theorem bE (T : Txt K mg a) : b_ P w K mg base (XE P w) 1 a.cI a.el ["_law_cell", "_law_base"] sp_iQ := by
  refine T.bm.okX eB (fun vs H Q E h => sp2.len h) (fun cdv A outer s H vs Q E hr h => ?_)
  obtain ⟨x0, x1, rfl, h⟩ := sp2.inv h
  try dsimp only [sp_iQ, sp2] at h
  have ND := eB.nd
  have HU : (bY (XE P w) P w K mg base ["_law_cell", "_law_base", "_law_first_here", "_law_last"] "_law_stretch" (ae aS) a.cI cdv A outer s H E).A.units + 100 < cLine := bp hr
  obtain ⟨c, rfl, h2⟩ := asI.inv h
  obtain ⟨b, rfl, q⟩ := asI.inv h2
  have sz : 1000 ≤ sizeLine := by rw [sizeLine_eq]; decide
  refine ⟨_, (ag (ar (i := 2) ND rfl (Or.inl rfl) (af dH (af aw (fv 1) (af aC (fv 0) ac)) ac))
      (ag (ar (i := 3) ND rfl (Or.inl rfl) (af dH (af aw (fv 1) (af aC (af au (fv 0) ac) ac)) ac))
      (ag (cO (bC (ci K HU) (af aC (af au (fv 0) ac) ac) ac (bg _)) (al (ar (i := 2) ND rfl (Or.inl rfl) (af dH ac (af aC (af au (fv 0) ac) (af jZ ac ac))))) bQ)
      (ag (cO (bC (ci K HU) (af aC (af au (fv 0) ac) ac) ac (bg _)) (al (ar (i := 3) ND rfl (Or.inl rfl) (af aw ac (af aC (af au (fv 0) ac) (af jZ ac ac))))) bQ)
      (al (aQ (eF (FA.pa (aa (fv 2) (aa (fv 3) ah)))))))))), ?_⟩
  walk_at "rd"
  have e : (10 : Int) ^ Int.toNat 20 = 100000000000000000000 := by decide
  rw [e]
  have y : Int.natAbs 10 < 18446744073709551616 := by decide
  have z : (0 : Int) < 100000000000000000000 := by decide
  split
  · refine ⟨y, z, ?_⟩
    split
    · exact ⟨y, z, by walk_at "om", fun p hp => q _ _ p _ (aj _ hp) hp ad⟩
    · exact ⟨by walk_at "om", fun p hp => q _ _ p _ (aj _ hp) hp ad⟩
  · split
    · exact ⟨y, z, by walk_at "om", fun p hp => q _ _ p _ (aj _ hp) hp ad⟩
    · exact ⟨by walk_at "om", fun p hp => q _ _ p _ (aj _ hp) hp ad⟩
end
section
variable {P : Program} {w : World} {K : PySem.W.Frag} {mg : Str → Option Value} {base : Heap} {a : Adr}
open K3
abbrev Rw := List Nat × List Nat × Int
def RwAt (H : Hp) (v : V) (r : Rw) : Prop := ∃ t, v = .ref t ∧ H t = some (.tup [L2.T r.1, L2.T r.2.1, .int r.2.2])
theorem RwAt.same {H H' : Hp} (s : Same H H') {v : V} {r : Rw} (h : RwAt H v r) : RwAt H' v r := by
  obtain ⟨t, e, h⟩ := h; exact ⟨t, e, s _ _ h⟩
theorem A2.map_ {α β : Type} {R S : α → β → Prop} (f : ∀ x y, R x y → S x y) {xs : List α} {ys : List β} (h : A2 R xs ys) : A2 S xs ys := by
  induction h with
  | nil => exact .nil
  | cons h _ ih => exact .cons (f _ _ h) ih
theorem eT {H H' : Hp} (s : Same H H') {vs : List V} {rs : List Rw} (h : A2 (RwAt H) vs rs) : A2 (RwAt H') vs rs := A2.map_ (fun _ _ x => x.same s) h
theorem rm {H : Hp} {r : Addr} {ws : List V} {x : HO} {vs : List V} {rs : List Rw} (hr : H r = some (.lst ws)) (h : A2 (RwAt H) vs rs) : A2 (RwAt (upd H r x)) vs rs := A2.map_ (fun v b ⟨t, e, h⟩ => ⟨t, e, by rw [ai (fun z => by rw [z, hr] at h; cases h)]; exact h⟩) h
def sp_oR : Sp := sp3 fun x y z H Q _ => asI x fun c => asR y fun p => asR z fun q => 0 ≤ c ∧ ∃ ps cu : List (List Nat), Txs H p ps 300 ∧ Txs H q cu 10 ∧ 0 < ps.length ∧ ps.length ≤ 20 ∧ cu.length = 3 ∧
  ∀ rs vs r H', 2 ≤ rs.length → rs.length ≤ 6 → (∀ z ∈ rs, z.1 ∈ ps ∧ z.2.1 ∈ cu) → H r = none → H' r = some (.tup vs) → A2 (RwAt H') vs rs → Same H H' → Q (.ref r) H'
theorem ck (T : Txt K mg a) : b_ P w K mg base (XE P w) 3 a.eM a.fT ["_law_cell", "_law_paths_here", "_law_currencies_here"] sp_oR := by
  refine T.bR.okX fM (fun vs H Q E h => sp3.len h) (fun cdv A outer s H vs Q E hr h => ?_)
  obtain ⟨x0, x1, x2, rfl, h⟩ := sp3.inv h
  try dsimp only [sp_oR, sp3] at h
  have ND := fM.nd
  obtain ⟨c, rfl, h2⟩ := asI.inv h
  obtain ⟨p, rfl, h3⟩ := asR.inv h2
  obtain ⟨q, rfl, hc, ps, cu, hp, hq, l1, l2, l3, k⟩ := asR.inv h3
  have sz : 1000 ≤ sizeLine := by rw [sizeLine_eq]; decide
  have G__law_amount := iN (P := P) (w := w) (base := base) T
  have b__law_amount := iK T.dG
  have G__law_mixed := bA (P := P) (w := w) (base := base) T
  have b__law_mixed := bx T.az
  refine ⟨_, (ag (ar (i := 3) ND rfl (Or.inl rfl) (bP (FA.pa ah)))
      (ag (d8 (by passes_own) rfl (cP rfl T.dE (FA.pa (aa (af aw ac (af aC (fv 0) ac)) ah))) (aF (i := 4) ND rfl (Or.inl rfl)) (ag (ar (i := 5) ND rfl (Or.inl rfl) (aH (ao K) (fv 1) (af aC (aq G__law_mixed (hr.mono (by decide)) rfl T.bw T.az.kp b__law_mixed .nil aN (FA.pa (aa (fv 0) (aa (af aw (af cp ac (fv 4)) ac) ah)))) (bj (eW K) rfl T.jk gt (FA.pa (aa (fv 1) ah)))) (fun _ _ => rfl)))
      (ag (ar (i := 6) ND rfl (Or.inl rfl) (aH (ao K) (fv 2) (af aC (af au (aq G__law_mixed (hr.mono (by decide)) rfl T.bw T.az.kp b__law_mixed .nil aN (FA.pa (aa (fv 0) (aa (af aw (af cp ac (fv 4)) ac) ah)))) ac) ac) (fun _ _ => rfl)))
      (al (gn (fz K PySem.F.plainAttrs_list PySem.F.slot_list_append PySem.F.type_list_append cZ (fv 3) (FA.pa (aa (eF (FA.pa (aa (fv 5) (aa (fv 6) (aa (aq G__law_amount (hr.mono (by decide)) rfl T.iU T.dG.kp b__law_amount .nil aN (FA.pa (aa (aq G__law_mixed (hr.mono (by decide)) rfl T.bw T.az.kp b__law_mixed .nil aN (FA.pa (aa (fv 0) (aa (af aw (af cp ac (fv 4)) ac) ah)))) ah))) ah))))) ah))))))))
      (al (aQ (jz (qk K) rfl T.tM rl (FA.pa (aa (fv 3) ah))))))), ?_⟩
  walk_at "rd"
  refine ⟨Nat.zero_le _, fun r hr => eI ?_⟩
  walk_at "rd"
  refine ⟨by walk_at "om", by walk_at "om", c_ (lo := 0) (n := (2 + c % 5).toNat) (fun i σ' H' => Same H H' ∧ ∃ rs vs x4 x5 x6, rs.length = i ∧ (∀ z ∈ rs, z.1 ∈ ps ∧ z.2.1 ∈ cu) ∧ H' r = some (.lst vs) ∧ A2 (RwAt H') vs rs ∧ σ' = [some (.int c), some (.ref p), some (.ref q), some (.ref r), x4, x5, x6]) ⟨aj _ hr, [], [], none, none, none, rfl, (fun _ m => nomatch m), ad, .nil, rfl⟩ ?_ ?_⟩
  · rintro i σ' H' hi ⟨sm, rs, vs, x4, x5, x6, lr, hps, hr', ha, rfl⟩
    have hp' := sm _ _ hp.1
    have hq' := sm _ _ hq.1
    walk_at "rd"
    refine ⟨⟨by walk_at "om", by walk_at "om"⟩, fun x1 _ _ => ⟨_, .inl (SqL.of hp'), by rw [List.length_map]; omega, ?_⟩⟩
    obtain ⟨u, hu, eu⟩ := j9 (ps := ps) x1 l1
    refine ⟨_, _, .inl (SqL.of hp'), eu, ⟨by walk_at "om", by walk_at "om"⟩, fun x2 _ _ => ?_⟩
    obtain ⟨w1, hw1, ew1⟩ := j2 (cu := cu) (x2 / 7) l3 (by decide)
    have lv := ha.len
    refine ⟨_, _, .inl (SqL.of hq'), ew1, .inl ⟨_, SqL.of hr'⟩, ⟨by walk_at "om", by walk_at "om"⟩, fun x3 y1 y2 => ⟨⟨y1, y2⟩, fun am => ⟨by walk_at "om", fun t ht => ?_⟩⟩⟩
    have s2 := aj (HO.tup [L2.T u, L2.T w1, V.int am]) ht
    have hr2 := s2 _ _ hr'
    refine ⟨r, vs, _, rfl, rfl, hr2, by walk_at "om", cf (sm.trans s2) hr, rs ++ [(u, w1, am)], vs ++ [.ref t], _, _, _, by rw [List.length_append, lr]; rfl, fun z hz => ?_, ad, ?_, rfl, rfl, rfl⟩
    · rcases List.mem_append.mp hz with hz | hz
      · exact hps z hz
      · rw [List.mem_singleton.mp hz]; exact ⟨hu, hw1⟩
    · exact (rm hr2 (eT s2 ha)).snoc ⟨t, rfl, by rw [ai (Ne.symm (ak hr' ht)), ad]⟩
  · rintro σ' H' ⟨sm, rs, vs, x4, x5, x6, lr, hps, hr', ha, rfl⟩
    walk_at "rd"
    exact ⟨vs, .inl ⟨SqL.of hr', fun l hl => k rs vs l _ (by walk_at "om") (by walk_at "om") hps (sm.free hl) ad (eT (aj _ hl) ha) (sm.trans (aj _ hl))⟩⟩
end
section
variable {P : Program} {w : World} {K : PySem.W.Frag} {mg : Str → Option Value} {base : Heap} {a : Adr}
open K3
abbrev Kp (W : Addr → Prop) (H H' : Hp) : Prop := ∀ p o, H p = some o → ¬ W p → H' p = some o
def fp {κ : Type} (kvs : List (κ × V)) (p : Addr) : Prop := ∃ k, (k, V.ref p) ∈ kvs
structure BP (H : Hp) (b : Addr) (kvs : List (List Key × V)) (R : List PR) (n : Nat) : Prop where
  at_ : H b = some (.dT kvs)
  nd : (kvs.map (·.1)).Nodup
  len : kvs.length ≤ n
  inj : ∀ k k' v, (k, v) ∈ kvs → (k', v) ∈ kvs → k = k'
  to : ∀ k v, (k, v) ∈ kvs → ∃ x y e m, k = kP (x, y) ∧ v = .ref e ∧ H e = some (.dK m) ∧ m.length ≤ n ∧ MM m x y R ∧ ∃ z ∈ R, z.2.1 = x ∧ z.2.2.1 = y
  fr : ∀ z ∈ R, ∃ v, (kP (z.2.1, z.2.2.1), v) ∈ kvs
theorem hJ {H : Hp} {p q : Addr} {o o' : HO} (h : H p = some o) (h' : H q = some o') (n : o ≠ o') : p ≠ q := fun z => n (by rw [z, h'] at h; exact (Option.some.inj h).symm)
theorem BP.mv {H H' : Hp} {b : Addr} {kvs : List (List Key × V)} {R : List PR} {n : Nat} (h : BP H b kvs R n) (k : ∀ p o, H p = some o → (p = b ∨ fp kvs p) → H' p = some o) : BP H' b kvs R n :=
  ⟨k _ _ h.at_ (.inl rfl), h.nd, h.len, h.inj, fun k1 v m1 => let ⟨x, y, e, m, e1, e3, e4, e5⟩ := h.to k1 v m1; ⟨x, y, e, m, e1, e3, k _ _ e4 (.inr ⟨k1, e3 ▸ m1⟩), e5⟩, h.fr⟩
theorem BP.put {H : Hp} {b e : Addr} {kvs : List (List Key × V)} {R : List PR} {n : Nat} {x y : List Nat} {m : List (Key × V)} {d am : Int} (h : BP H b kvs R n) (me : (kP (x, y), V.ref e) ∈ kvs) (he : H e = some (.dK m)) :
    BP (upd H e (.dK (cF m (.inl d) (.int (gM m d + am))))) b kvs (R ++ [(d, x, y, am)]) (n + 1) := by
  refine ⟨(ai (hJ h.at_ he (fun q => nomatch q))).trans h.at_, h.nd, Nat.le_succ_of_le h.len, h.inj, fun k v m1 => ?_, fun z mz => ?_⟩
  · obtain ⟨x', y', e', m', rfl, rfl, h4, h5, h6, u, mu, hu⟩ := h.to k v m1
    by_cases ee : e' = e
    · subst ee
      rw [he] at h4; cases h4
      obtain ⟨rfl, rfl⟩ := Prod.mk.inj (nO (h.inj _ _ _ m1 me))
      exact ⟨x', y', e', _, rfl, rfl, ad, Nat.le_trans (nG _ _ _) (Nat.succ_le_succ h5), h6.put d am, u, List.mem_append_left _ mu, hu⟩
    · refine ⟨x', y', e', m', rfl, rfl, (ai ee).trans h4, Nat.le_succ_of_le h5, h6.other fun z => ee ?_, u, List.mem_append_left _ mu, hu⟩
      obtain ⟨z1, z2⟩ := z
      have z1 : x = x' := z1
      have z2 : y = y' := z2
      subst z1; subst z2
      exact V.ref.inj (wy h.nd m1 me)
  · rcases List.mem_append.mp mz with mz | mz
    · exact h.fr z mz
    · rw [List.mem_singleton.mp mz]; exact ⟨_, me⟩
theorem BP.add {H : Hp} {b e : Addr} {kvs : List (List Key × V)} {R : List PR} {n : Nat} {x y : List Nat} {d am : Int} (h : BP H b kvs R n) (no : dk kvs (kP (x, y)) = none) (ne : ¬ fp kvs e) (eb : e ≠ b) :
    BP (upd (upd H b (.dT (cF kvs (kP (x, y)) (.ref e)))) e (.dK (cF [] (.inl d) (.int (gM [] d + am))))) b (cF kvs (kP (x, y)) (.ref e)) (R ++ [(d, x, y, am)]) (n + 1) := by
  have nr : ∀ z ∈ R, ¬ (z.2.1 = x ∧ z.2.2.1 = y) := fun z mz ⟨e1, e2⟩ => by
    obtain ⟨v, mv⟩ := h.fr z mz
    rw [e1, e2] at mv
    exact nX no mv
  refine ⟨(ai (Ne.symm eb)).trans ad, tS h.nd, Nat.le_trans (nG _ _ _) (Nat.succ_le_succ h.len), fun k k' v m1 m2 => ?_, fun k v m1 => ?_, fun z mz => ?_⟩
  · rcases eG.mp m1 with e1 | ⟨m1, n1⟩
    · obtain ⟨rfl, rfl⟩ := Prod.mk.inj e1
      rcases eG.mp m2 with e2 | ⟨m2, n2⟩
      · exact (Prod.mk.inj e2).1.symm
      · exact absurd ⟨_, m2⟩ ne
    · rcases eG.mp m2 with e2 | ⟨m2, n2⟩
      · obtain ⟨rfl, rfl⟩ := Prod.mk.inj e2
        exact absurd ⟨_, m1⟩ ne
      · exact h.inj _ _ _ m1 m2
  · rcases eG.mp m1 with e1 | ⟨m1, n1⟩
    · obtain ⟨rfl, rfl⟩ := Prod.mk.inj e1
      exact ⟨x, y, e, _, rfl, rfl, ad, Nat.le_trans (nG _ _ _) (Nat.le_add_left _ _), (MM.nil nr).put d am, _, List.mem_append_right _ (List.mem_singleton.mpr rfl), rfl, rfl⟩
    · obtain ⟨x', y', e', m', e1, e2, h4, h5, h6, u, mu, hu⟩ := h.to k v m1
      have e3 : e' ≠ e := fun z => ne ⟨k, by rw [← z, ← e2]; exact m1⟩
      refine ⟨x', y', e', m', e1, e2, (ai e3).trans ((ai (hJ h4 h.at_ fun q => nomatch q)).trans h4), Nat.le_succ_of_le h5, h6.other fun z => n1 ?_, u, List.mem_append_left _ mu, hu⟩
      obtain ⟨z1, z2⟩ := z
      have z1 : x = x' := z1
      have z2 : y = y' := z2
      rw [z1, z2]; exact e1
  · rcases List.mem_append.mp mz with mz | mz
    · obtain ⟨v, mv⟩ := h.fr z mz
      exact ⟨v, eG.mpr (.inr ⟨mv, fun q => nr z mz (Prod.mk.inj (nO q))⟩)⟩
    · rw [List.mem_singleton.mp mz]; exact ⟨_, eG.mpr (.inl rfl)⟩
abbrev wR (C dx b : Addr) : HO := .ins C dx [("by_place", .ref b)]
structure SA (C : Addr) (H : Hp) (r : Addr) (R : List PR) (n : Nat) (W : Addr → Prop) : Prop where
  ex : ∃ dx b kvs, H r = some (wR C dx b) ∧ BP H b kvs R n ∧ ∀ p, W p ↔ p = b ∨ fp kvs p
theorem SA.mv {C : Addr} {H H' : Hp} {r : Addr} {R : List PR} {n : Nat} {W : Addr → Prop} (h : SA C H r R n W) (k : ∀ p o, H p = some o → (W p ∨ p = r) → H' p = some o) : SA C H' r R n W := by
  obtain ⟨dx, b, kvs, h1, h2, h6⟩ := h.ex
  exact ⟨dx, b, kvs, k _ _ h1 (.inr rfl), h2.mv fun p o z q => k p o z (.inl ((h6 p).mpr q)), h6⟩
theorem SA.same {C : Addr} {H H' : Hp} {r : Addr} {R : List PR} {n : Nat} {W : Addr → Prop} (h : SA C H r R n W) (s : Same H H') : SA C H' r R n W := h.mv fun p o z _ => s p o z
theorem SA.dict {C : Addr} {H : Hp} {r : Addr} {R : List PR} {n : Nat} {W : Addr → Prop} (h : SA C H r R n W) {p : Addr} (hp : W p) : ∃ u, H p = some u ∧ isD u = true := by
  obtain ⟨dx, b, kvs, h1, h2, h6⟩ := h.ex
  rcases (h6 p).mp hp with rfl | ⟨k, m⟩
  · exact ⟨_, h2.at_, rfl⟩
  · obtain ⟨_, _, e, _, _, e1, e2, _⟩ := h2.to _ _ m
    cases e1; exact ⟨_, e2, rfl⟩
theorem uy (x : V) : List.lookup (Str.ofString "by_place") [(Str.ofString "by_place", x)] = some x := uQ
theorem xA (x : V) : List.lookup (Str.ofString "months_of") [(Str.ofString "by_place", x)] = none := by rw [fR (by decide +kernel)]; rfl
theorem vO (x : V) : List.lookup (Str.ofString "own") [(Str.ofString "by_place", x)] = none := by rw [fR (by decide +kernel)]; rfl
theorem xf (x : V) : List.lookup (Str.ofString "standing") [(Str.ofString "by_place", x)] = none := by rw [fR (by decide +kernel)]; rfl
theorem tZ (x : V) : List.lookup (Str.ofString "currencies") [(Str.ofString "by_place", x)] = none := by rw [fR (by decide +kernel)]; rfl
theorem vy (x : V) : List.lookup (Str.ofString "put") [(Str.ofString "by_place", x)] = none := by rw [fR (by decide +kernel)]; rfl
def sp_oS (C : Addr) : Sp := sp1 fun x H Q _ => asR x fun r => ∃ dx, H r = some (.ins C dx []) ∧ ∀ b H', H b = none → SA C H' r [] 0 (fun p => p = b) → Kp (fun p => p = r) H H' → Q .non H'
theorem ba (T : Txt K mg a) : b_ P w K mg base (XE P w) 1 a.cr a.dL ["self"] (sp_oS a.aO) := by
  refine T.aT.okX gB (fun vs H Q E h => sp1.len h) (fun cdv A outer s H vs Q E hr h => ?_)
  obtain ⟨x0, rfl, h⟩ := sp1.inv h
  try dsimp only [sp_oS, sp1] at h
  obtain ⟨r, rfl, dx, hr0, k⟩ := asR.inv h
  refine ⟨_, (al (sB K (fv 0) rq)), ?_⟩
  walk_at "rd"
  intro b hb
  have np : r ≠ b := ak hr0 hb
  refine ⟨_, _, _, (ai np).trans hr0, T.cN, T.cv, by show 0 < 1000; decide, ?_⟩
  refine k b _ hb ⟨⟨dx, b, [], ad, ⟨(ai (Ne.symm np)).trans ad, List.nodup_nil, Nat.zero_le _, (fun _ _ _ z => nomatch z), (fun _ _ z => nomatch z), (fun _ z => nomatch z)⟩, fun p => ⟨.inl, fun z => z.elim id fun ⟨_, z⟩ => nomatch z⟩⟩⟩ fun q o z nq => ?_
  rw [ai nq, ai (ak z hb)]; exact z
def sp_jn (C : Addr) : Sp := sp3 fun s x y H Q _ => asR s fun r => asT x fun pa => asT y fun cu => ∃ R n W, SA C H r R n W ∧ n ≤ 500 ∧ ∀ b m H', Same H H' → H' b = some (.dK m) → m.length ≤ n → MM m pa cu R → (H b = none ∨ H b = some (.dK m)) → Q (.ref b) H'
theorem dB (T : Txt K mg a) : b_ P w K mg base (XE P w) 1 a.cn a.dA ["self", "path", "currency"] (sp_jn a.aO) := by
  refine T.cR.okX fK (fun vs H Q E h => sp3.len h) (fun cdv A outer s H vs Q E hr h => ?_)
  obtain ⟨x0, x1, x2, rfl, h⟩ := sp3.inv h
  try dsimp only [sp_jn, sp3] at h
  have HU : (bY (XE P w) P w K mg base ["self", "path", "currency"] "Sums.months_of" (ae aG) a.cn cdv A outer s H E).A.units + 100 < cLine := bp hr
  obtain ⟨r, rfl, h1⟩ := asR.inv h
  obtain ⟨pa, rfl, h2⟩ := asT.inv h1
  obtain ⟨cu, rfl, R, n, W, SS, nn, k⟩ := asT.inv h2
  obtain ⟨dx, b, kvs, hr0, B, hW⟩ := SS.ex
  refine ⟨_, (al (aQ (mG (Nat.lt_of_le_of_lt (Nat.add_le_add_left (by decide) _) HU) (j7 K (fv 0)) (eF (FA.pa (aa (fv 1) (aa (fv 2) ah)))) n9 ⟨rfl, rfl, rfl, rfl⟩))), ?_⟩
  walk_at "rd"
  refine ⟨_, _, _, _, hr0, T.cN, T.cv, uy _, b, rfl, .inr ⟨_, .inl B.at_⟩, by rw [sizeLine_eq]; decide, fun p hp p1 hp1 => ?_⟩
  have s1 := aj (HO.tup [L2.T pa, L2.T cu]) hp
  have s2 := s1.trans (aj (HO.dK []) hp1)
  have g := DGet.t (k := kP (pa, cu)) (s2 _ _ B.at_) (aj (HO.dK []) hp1 _ _ (ad (H := H) (a := p) (o := .tup [L2.T pa, L2.T cu])))
  refine ⟨_, g, ?_⟩
  cases e : dk kvs (kP (pa, cu)) with
  | none =>
    refine k p1 [] _ s2 ad (Nat.zero_le _) (MM.nil fun z mz ⟨e1, e2⟩ => ?_) (.inl (s1.free hp1))
    obtain ⟨v, mv⟩ := B.fr z mz
    rw [e1, e2] at mv
    exact nX e mv
  | some v =>
    obtain ⟨x', y', e', m', e1, rfl, h4, h5, h6, _⟩ := B.to _ _ (fJ e)
    obtain ⟨rfl, rfl⟩ := Prod.mk.inj (nO e1)
    exact k e' m' _ s2 (s2 _ _ h4) h5 h6 (.inr h4)
def sp_qc (C : Addr) : Sp := sp5 fun s x y f l H Q _ => asR s fun r => asT x fun pa => asT y fun cu => asI f fun lo => asI l fun hi => ∃ R n W, SA C H r R n W ∧ n ≤ 500 ∧ ∀ H', Same H H' → Q (.int (sR pa cu (fun m => decide (lo ≤ m) && decide (m ≤ hi)) R)) H'
theorem kQ (T : Txt K mg a) : b_ P w K mg base (XE P w) 2 a.fD a.g7 ["self", "path", "currency", "first", "last"] (sp_qc a.aO) := by
  refine T.iB.okX mM (fun vs H Q E h => sp5.len h) (fun cdv A outer s H vs Q E hr h => ?_)
  obtain ⟨x0, x1, x2, x3, x4, rfl, h⟩ := sp5.inv h
  try dsimp only [sp_qc, sp5] at h
  obtain ⟨r, rfl, h1⟩ := asR.inv h
  obtain ⟨pa, rfl, h2⟩ := asT.inv h1
  obtain ⟨cu, rfl, h3⟩ := asT.inv h2
  obtain ⟨lo, rfl, h4⟩ := asI.inv h3
  obtain ⟨hi, rfl, R, n, W, SS, nn, k⟩ := asI.inv h4
  have sz : 1000 < sizeLine := by rw [sizeLine_eq]; decide
  obtain ⟨dx, b, kvs, hr0, B, hW⟩ := id SS.ex
  have G_Sums_months_of := dB (P := P) (w := w) (base := base) T
  have b_Sums_months_of := dC T.cR
  refine ⟨_, (al (aQ (bj (fV K rfl) rfl T.mI iM (FA.pa (aa (lT (cq rfl (cl := _) (x := "month") (xs := ["month", "amount"]) (fr := ["first", "last"]) (ks := [3, 4]) (by exact ⟨rfl, by decide +kernel, rfl, by decide +kernel, rfl, cw rfl, rfl, aK rfl, aK (k := fun y => List.lookup y _) rfl, cy rfl⟩) rfl (mf (de (fv 0) T.cN T.dy G_Sums_months_of (hr.mono (by decide)) b_Sums_months_of .nil aN (FA.pa (aa (fv 1) (aa (fv 2) ah))))) (fun _ _ _ _ _ => (ip K (n := 2) rfl (bX (aF (i := 0) (dw (l := ["month", "amount", "first", "last"]) (by decide)) rfl (Or.inl rfl)) (bX (aF (i := 1) (dw (l := ["month", "amount", "first", "last"]) (by decide)) rfl (Or.inl rfl)) fQ)))) (fun _ _ _ _ _ => (dR (lD ju ju (fv 2) (fv 0) (fv 3)))) (fun _ _ _ _ _ => (fv 1)))) ah))))), ?_⟩
  walk_at "rd"
  refine qR (K := K) ?_
  walk_at "rd"
  refine ⟨dx, _, hr0, xA _, R, n, W, SS, nn, fun b1 m H1 s1 hb1 lm mm _ => cmI b1 m (fun x _ => decide (lo ≤ vI x) && decide (vI x ≤ hi)) (fun _ v => v) s1 hb1 (by omega) (fun k1 v1 mk G R r => ?_) (fun k1 v1 mk _ G R r => r) fun D H2 s2 hD e2 => ?_⟩
  · obtain ⟨d, x, rfl, rfl⟩ := mm.it k1 v1 mk
    have ek : kV (.inl d) = .int d := rfl
    rw [ek] at r ⊢
    walk_at "rd"
    by_cases c : lo ≤ d
    · refine itp c ?_
      rw [show (decide (lo ≤ vI (V.int d)) && decide (vI (V.int d) ≤ hi)) = decide (d ≤ hi) from by rw [show vI (V.int d) = d from rfl, decide_eq_true c, Bool.true_and]] at r
      exact r
    · refine itn c ?_
      rw [show (decide (lo ≤ vI (V.int d)) && decide (vI (V.int d) ≤ hi)) = false from by rw [show vI (V.int d) = d from rfl, decide_eq_false c, Bool.false_and]] at r
      exact r
  · rw [iP (fun z => decide (lo ≤ z) && decide (z ≤ hi)) mm.it] at e2
    refine ⟨_, .inl (SqL.of e2), ?_⟩
    have e := mm.own fun z => decide (lo ≤ z) && decide (z ≤ hi)
    try dsimp only at e
    rw [e]
    exact k _ s2
def kt (j : Nat) (k : List Key) : List Nat := match k[j]? with
  | some (.inr s) => s.cps.toList
  | _ => []
theorem tW {pa : List Nat} : ∀ {kvs : List (List Key × V)}, (kvs.map (·.1)).Nodup → (∀ e ∈ kvs, ∃ x y, e.1 = kP (x, y)) → ((kvs.filter fun e => decide (kt 0 e.1 = pa)).map fun e => kt 1 e.1).Nodup
  | [], _, _ => List.nodup_nil
  | e :: m, nd, h => by
    rw [List.map_cons] at nd
    obtain ⟨n1, n2⟩ := List.nodup_cons.mp nd
    have ih := tW (pa := pa) n2 fun u mu => h u (List.mem_cons_of_mem _ mu)
    by_cases c : kt 0 e.1 = pa
    · rw [List.filter_cons_of_pos (by exact decide_eq_true c), List.map_cons]
      refine List.nodup_cons.mpr ⟨fun mc => ?_, ih⟩
      obtain ⟨u, mu, eu⟩ := List.mem_map.mp mc
      obtain ⟨mu, pu⟩ := List.mem_filter.mp mu
      have pu := of_decide_eq_true pu
      obtain ⟨x, y, ex⟩ := h e (List.mem_cons_self ..)
      obtain ⟨x', y', ex'⟩ := h u (List.mem_cons_of_mem _ mu)
      rw [ex] at c; rw [ex, ex'] at eu; rw [ex'] at pu
      have a1 : x = pa := c
      have a2 : x' = pa := pu
      have a3 : y' = y := eu
      exact n1 (List.mem_map.mpr ⟨u, mu, by rw [ex', ex, a1, a2, a3]⟩)
    · rw [List.filter_cons_of_neg (by exact fun z => c (of_decide_eq_true z))]; exact ih
def sp_qT (C : Addr) : Sp := sp2 fun s x H Q _ => asR s fun r => asT x fun pa => ∃ R n W, SA C H r R n W ∧ n ≤ 500 ∧ (∀ ds : List (List Nat), ds.Nodup → (∀ c ∈ ds, ∃ z ∈ R, z.2.2.1 = c) → ds.length < 64) ∧
  ∀ out q H', Same H H' → H q = none → H' q = some (.lst (out.map L2.T)) → InO out → out.Nodup → (∀ c, c ∈ out ↔ ∃ z ∈ R, z.2.1 = pa ∧ z.2.2.1 = c) → Q (.ref q) H'
theorem dt (T : Txt K mg a) : b_ P w K mg base (XE P w) 1 a.bZ a.dg ["self", "path"] (sp_qT a.aO) := by
  refine T.cK.okX fA (fun vs H Q E h => sp2.len h) (fun cdv A outer s H vs Q E hr h => ?_)
  obtain ⟨x0, x1, rfl, h⟩ := sp2.inv h
  try dsimp only [sp_qT, sp2] at h
  have HU : (bY (XE P w) P w K mg base ["self", "path"] "Sums.currencies" (ae aD) a.bZ cdv A outer s H E).A.units + 100 < cLine := bp hr
  obtain ⟨r, rfl, h1⟩ := asR.inv h
  obtain ⟨pa, rfl, R, n, W, SS, nn, h64, k⟩ := asT.inv h1
  have sz : 1000 < sizeLine := by rw [sizeLine_eq]; decide
  obtain ⟨dx, b, kvs, hr0, B, hW⟩ := id SS.ex
  refine ⟨_, (al (aQ (bj (qM K) rfl T.lZ jE (FA.pa (aa (r8 (cq rfl (cl := _) (x := "place") (xs := ["place"]) (fr := ["path"]) (ks := [1]) (by exact ⟨rfl, by decide +kernel, rfl, by decide +kernel, rfl, cw rfl, rfl, aK rfl, aK (k := fun y => List.lookup y _) rfl, cy rfl⟩) rfl (sK (j7 K (fv 0))) (fun _ _ _ _ _ => (aF (i := 0) (dw (l := ["place", "path"]) (by decide)) rfl (Or.inl rfl))) (fun _ _ _ _ _ => (dR (bC (ci K HU) (aH (ao K) (fv 0) ac (fun _ _ => rfl)) (fv 1) (bg _)))) (fun _ _ _ _ _ => (aH (ao K) (fv 0) ac (fun _ _ => rfl))))) ah))))), ?_⟩
  walk_at "rd"
  refine w_ ?_
  walk_at "rd"
  refine ⟨_, _, _, _, hr0, T.cN, T.cv, uy _, b, .dT kvs, rfl, rfl, .inl B.at_, fun o _ => wQ b o (.dT kvs) (fun D i ys G => G D = some (.lst ys) ∧ G b = some (.frz o (.dT kvs)) ∧ H D = none ∧ D ≠ b ∧ (∀ c z, c ≠ b → H c = some z → G c = some z) ∧ ys = (((kvs.take i).filter fun e => decide (kt 0 e.1 = pa)).map fun e => kt 1 e.1).map L2.T) (by show kvs.length < _; have := B.len; omega) ?_ ?_ ?_ ?_⟩
  · intro D hD
    have nb : D ≠ b := fun z => by rw [z, ad] at hD; cases hD
    rw [ai nb] at hD
    refine ⟨ad, (ai (Ne.symm nb)).trans ad, hD, nb, fun c z cb e => ?_, rfl⟩
    rw [ai (ak e hD), ai cb]; exact e
  · rintro D i ys G ⟨g1, g2, _, _, _, rfl⟩
    refine ⟨g1, g2, ?_⟩
    rw [List.length_map, List.length_map]
    exact Nat.le_trans (List.length_filter_le _ _) (by rw [List.length_take]; omega)
  · rintro D i y v ys G zs N1 N0 hi ⟨k1, q1, hk, rfl, hq⟩ ⟨g1, g2, hD, nb, kp, rfl⟩ hzs n1 n0
    obtain ⟨z1, rfl⟩ := ex1 hzs
    obtain ⟨x', y', e', m', rfl, _⟩ := B.to _ _ (List.mem_of_getElem? hk)
    have et : kvs.take (i + 1) = kvs.take i ++ [(kP (x', y'), v)] := by rw [List.take_succ, hk]; rfl
    rw [et, List.filter_append, List.map_append, List.map_append] at n1 n0
    refine ⟨⟨[some (.ref q1)], rfl, rfl⟩, ?_⟩
    have hq : G q1 = some (.tup [L2.T x', L2.T y']) := hq
    walk_at "rd"
    refine ⟨_, _, .inr (SqT.of hq), aA (j := 0) rfl, ?_⟩
    walk_at "rd"
    by_cases c : x' = pa
    · refine itp c ⟨_, _, .inr (SqT.of hq), aA (j := 1) rfl, n1 _ G g1 ⟨ad, (ai (Ne.symm nb)).trans g2, hD, nb, fun c' z cb e => ?_, ?_⟩⟩
      · rw [ai (ak e hD)]; exact kp c' z cb e
      · rw [List.filter_cons_of_pos (by exact decide_eq_true c), List.filter_nil]; rfl
    · refine itn c (n0 G ⟨g1, g2, hD, nb, kp, ?_⟩)
      rw [List.filter_cons_of_neg (by exact fun z => c (of_decide_eq_true z)), List.filter_nil, List.map_nil, List.map_nil, List.append_nil]
  · rintro D ys G ⟨g1, g2, hD, nb, kp, rfl⟩
    have e1 : kvs.take (dl (.dT kvs)) = kvs := List.take_of_length_le (Nat.le_refl _)
    rw [e1] at g1
    have mem : ∀ c, c ∈ (kvs.filter fun e => decide (kt 0 e.1 = pa)).map (fun e => kt 1 e.1) ↔ ∃ z ∈ R, z.2.1 = pa ∧ z.2.2.1 = c := fun c => by
      constructor
      · intro mc
        obtain ⟨e, me, rfl⟩ := List.mem_map.mp mc
        obtain ⟨me, pe⟩ := List.mem_filter.mp me
        obtain ⟨x', y', _, _, ek, _, _, _, _, z, mz, hz⟩ := B.to e.1 e.2 me
        have pe := of_decide_eq_true pe
        rw [ek] at pe ⊢
        exact ⟨z, mz, hz.1.trans pe, hz.2⟩
      · rintro ⟨z, mz, h1, h2⟩
        obtain ⟨v, mv⟩ := B.fr z mz
        exact List.mem_map.mpr ⟨_, List.mem_filter.mpr ⟨mv, decide_eq_true h1⟩, h2⟩
    have nd : ((kvs.filter fun e => decide (kt 0 e.1 = pa)).map fun e => kt 1 e.1).Nodup := tW B.nd (fun e me => by obtain ⟨x', y', _, _, ek, _⟩ := B.to e.1 e.2 me; exact ⟨x', y', ek⟩)
    refine ⟨b, o, .dT kvs, g2, .inl ⟨B.at_, rfl, _, SqL.of ((ai nb).trans g1), h64 _ nd fun c mc => ?_, fun out po io q hq => ?_⟩⟩
    · obtain ⟨z, mz, _, h2⟩ := (mem c).mp mc
      exact ⟨z, mz, h2⟩
    · have s3 : Same H (upd G b (.dT kvs)) := fun c z e => by
        by_cases cb : c = b
        · rw [cb, ad, ← e, cb, B.at_]
        · rw [ai cb]; exact kp c z cb e
      exact k out q _ (s3.trans (aj _ hq)) (s3.free hq) ad io (po.nodup_iff.mpr nd) fun c => po.mem_iff.trans (mem c)
def sp_gT (C : Addr) : Sp := sp4 fun s x y l H Q _ => asR s fun r => asT x fun pa => asT y fun cu => asI l fun hi => ∃ R n W, SA C H r R n W ∧ n ≤ 500 ∧ ∀ H', Same H H' → Q (.int (sR pa cu (fun m => decide (m ≤ hi)) R)) H'
theorem gF (T : Txt K mg a) : b_ P w K mg base (XE P w) 2 a.cW a.dM ["self", "path", "currency", "month"] (sp_gT a.aO) := by
  refine T.eD.okX gr (fun vs H Q E h => sp4.len h) (fun cdv A outer s H vs Q E hr h => ?_)
  obtain ⟨x0, x1, x2, x3, rfl, h⟩ := sp4.inv h
  try dsimp only [sp_gT, sp4] at h
  obtain ⟨r, rfl, h1⟩ := asR.inv h
  obtain ⟨pa, rfl, h2⟩ := asT.inv h1
  obtain ⟨cu, rfl, h3⟩ := asT.inv h2
  obtain ⟨hi, rfl, R, n, W, SS, nn, k⟩ := asI.inv h3
  have sz : 1000 < sizeLine := by rw [sizeLine_eq]; decide
  obtain ⟨dx, b, kvs, hr0, B, hW⟩ := id SS.ex
  have G_Sums_months_of := dB (P := P) (w := w) (base := base) T
  have b_Sums_months_of := dC T.cR
  refine ⟨_, (al (aQ (bj (fV K rfl) rfl T.mI iM (FA.pa (aa (lT (cq rfl (cl := _) (x := "other") (xs := ["other", "amount"]) (fr := ["month"]) (ks := [3]) (by exact ⟨rfl, by decide +kernel, rfl, by decide +kernel, rfl, cw rfl, rfl, aK rfl, aK (k := fun y => List.lookup y _) rfl, cy rfl⟩) rfl (mf (de (fv 0) T.cN T.dy G_Sums_months_of (hr.mono (by decide)) b_Sums_months_of .nil aN (FA.pa (aa (fv 1) (aa (fv 2) ah))))) (fun _ _ _ _ _ => (ip K (n := 2) rfl (bX (aF (i := 0) (dw (l := ["other", "amount", "month"]) (by decide)) rfl (Or.inl rfl)) (bX (aF (i := 1) (dw (l := ["other", "amount", "month"]) (by decide)) rfl (Or.inl rfl)) fQ)))) (fun _ _ _ _ _ => (dR (bC ju (fv 0) (fv 2) (bg _)))) (fun _ _ _ _ _ => (fv 1)))) ah))))), ?_⟩
  walk_at "rd"
  refine qR (K := K) ?_
  walk_at "rd"
  refine ⟨dx, _, hr0, xA _, R, n, W, SS, nn, fun b1 m H1 s1 hb1 lm mm _ => cmI b1 m (fun x _ => decide (vI x ≤ hi)) (fun _ v => v) s1 hb1 (by omega) (fun k1 v1 mk G R r => ?_) (fun k1 v1 mk _ G R r => r) fun D H2 s2 hD e2 => ?_⟩
  · obtain ⟨d, x, rfl, rfl⟩ := mm.it k1 v1 mk
    have ek : kV (.inl d) = .int d := rfl
    rw [ek] at r ⊢
    walk_at "rd"
    exact r
  · rw [iP (fun z => decide (z ≤ hi)) mm.it] at e2
    refine ⟨_, .inl (SqL.of e2), ?_⟩
    have e := mm.own fun z => decide (z ≤ hi)
    try dsimp only at e
    rw [e]
    exact k _ s2
theorem tq {K : PySem.W.Frag} {tl : TE} {g : TG} {tb : TS} {D : d4} {σ : St} {H : Hp} (h : tl σ H fun v H1 => ∃ a, v = .ref a ∧ (∃ xs, SqT K H1 a xs) ∧ FE (Itt K a) g tb D σ H1) : pM (rT K tl) g tb D σ H := h
theorem rO {K : PySem.W.Frag} {a : Addr} {xs : List V} {g : TG} {tb : TS} {D : d4} {σ : St} {H : Hp} (Pv : Nat → St → Hp → Prop) (h0 : Pv 0 σ H) (hl : ∀ i σ H, Pv i σ H → SqT K H a xs)
    (hs : ∀ i x σ H, xs[i]? = some x → Pv i σ H → g x σ H fun σ2 H2 => tb { D with nx := Pv (i + 1), ct := Pv (i + 1), bk := D.nx } σ2 H2) (hd : ∀ σ H, Pv xs.length σ H → D.nx σ H) : FE (Itt K a) g tb D σ H := by
  refine ⟨fun i m σ H => m = xs.length - i ∧ i ≤ xs.length ∧ Pv i σ H, ⟨_, rfl, Nat.zero_le _, h0⟩, ?_⟩
  rintro i m σ H ⟨rfl, hi, p⟩
  have q := hl i σ H p
  rcases Nat.lt_or_ge i xs.length with lt | ge
  · refine .inr ⟨⟨xs, xs[i], q, by simp [lt]⟩, Pv (i + 1), fun σ' H' p' => ⟨_, by omega, rfl, lt, p'⟩, ?_⟩
    rintro x H' ⟨rfl, hy⟩
    exact hs i x σ _ (hy xs q) p
  · obtain rfl : i = xs.length := Nat.le_antisymm hi ge
    exact .inl ⟨⟨xs, q, Nat.le_refl _⟩, hd σ H p⟩
theorem xk {α β : Type} {R : α → β → Prop} {xs : List α} {ys : List β} (h : A2 R xs ys) : ∀ {i : Nat} {x : α}, xs[i]? = some x → ∃ y, ys[i]? = some y ∧ R x y := by
  induction h with
  | nil => intro i x e; simp at e
  | cons r _ ih =>
    intro i x e
    cases i with
    | zero => cases e; exact ⟨_, rfl, r⟩
    | succ i => exact ih (by simpa using e)
def sp_qb (C : Addr) : Sp := sp2 fun s x H Q _ => asR s fun r => asR x fun bk => ∃ R n W d t vs rs, ∃ x0 x2 x4 : V, SA C H r R n W ∧ n + 10 ≤ 500 ∧ H bk = some (.tup [x0, .int d, x2, .ref t, x4]) ∧ (0 ≤ d ∧ d ≤ 146096) ∧ H t = some (.tup vs) ∧ A2 (RwAt H) vs rs ∧ rs.length ≤ 6 ∧
  ∀ W' H', SA C H' r (R ++ rs.map fun z => (MO d, z)) (n + rs.length) W' → (∀ p, W' p → W p ∨ H p = none) → Kp W H H' → Q .non H'
theorem cD (T : Txt K mg a) : b_ P w K mg base (XE P w) 5 a.d_ a.hG ["self", "booking"] (sp_qb a.aO) := by
  refine T.cz.okX gP (fun vs H Q E h => sp2.len h) (fun cdv A outer s H vs Q E hr h => ?_)
  obtain ⟨x0, x1, rfl, h⟩ := sp2.inv h
  try dsimp only [sp_qb, sp2] at h
  have ND := gP.nd
  have HU : (bY (XE P w) P w K mg base ["self", "booking", "month", "path", "currency", "amount", "by_month"] "Sums.put" (ae bO) a.d_ cdv A outer s H E).A.units + 100 < cLine := bp hr
  obtain ⟨r, rfl, h1⟩ := asR.inv h
  obtain ⟨bk, rfl, R, n, W, d, t, vs, rs, x0, x2, x4, SS, nn, hbk, hd, ht, ha, lr, k⟩ := asR.inv h1
  have sz : 1000 < sizeLine := by rw [sizeLine_eq]; decide
  have G_month_of := mD (P := P) (w := w) (base := base) T
  have b_month_of := lq T.fI
  refine ⟨_, (ag (ar (i := 2) ND rfl (Or.inl rfl) (aq G_month_of (hr.mono (by decide)) rfl T.m7 T.fI.kp b_month_of .nil aN (FA.pa (aa (aH (ao K) (fv 1) ac (fun _ _ => rfl)) ah))))
      (al (d8 (by passes_own) rfl (oE K (aH (ao K) (fv 1) ac (fun _ _ => rfl))) (ip K (n := 3) rfl (bX (aF (i := 3) ND rfl (Or.inl rfl)) (bX (aF (i := 4) ND rfl (Or.inl rfl)) (bX (aF (i := 5) ND rfl (Or.inl rfl)) fQ)))) (ag (ar (i := 6) ND rfl (Or.inl rfl) (sP (Nat.lt_of_le_of_lt (Nat.add_le_add_left (by decide) _) HU) (j7 K (fv 0)) (eF (FA.pa (aa (fv 3) (aa (fv 4) ah)))) n9 ⟨rfl, rfl, rfl, rfl⟩))
      (al (su (Nat.lt_of_le_of_lt (Nat.add_le_add_left (by decide) _) HU) (fv 6) (fv 2) (af aw (mG (Nat.lt_of_le_of_lt (Nat.add_le_add_left (by decide) _) HU) (fv 6) (fv 2) ac ⟨rfl, rfl, rfl, rfl⟩) (fv 5)) rfl)))))), ?_⟩
  walk_at "rd"
  refine ⟨_, _, .inr (SqT.of hbk), aA (j := 1) rfl, ?_⟩
  walk_at "rd"
  refine ⟨hd, fun H1 s1 => tq ?_⟩
  walk_at "rd"
  have ht1 := s1 _ _ ht
  refine ⟨_, _, .inr (SqT.of (s1 _ _ hbk)), aA (j := 3) rfl, t, rfl, ⟨_, SqT.of ht1⟩, rO (xs := vs) (fun i σ' H' => ∃ W' x3 x4 x5 x6, SA a.aO H' r (R ++ (rs.take i).map fun z => (MO d, z)) (n + i) W' ∧ (∀ p, W' p → W p ∨ H p = none) ∧ Kp W H H' ∧ σ' = [some (.ref r), some (.ref bk), some (.int (MO d)), x3, x4, x5, x6]) ⟨W, none, none, none, none, ?_, fun p h => .inl h, fun p o e _ => s1 p o e, rfl⟩ (fun i σ' H' ⟨W', _, _, _, _, _, _, K', _⟩ => SqT.of (K' _ _ ht fun z => ?_)) ?_ ?_⟩
  · rw [List.take_zero, List.map_nil, List.append_nil]; exact SS.same s1
  · obtain ⟨u, hu, du⟩ := SS.dict z
    rw [ht] at hu; cases hu; cases du
  · rintro i x σ' H' hx ⟨W', x3, x4', x5, x6, S1, hf, K', rfl⟩
    obtain ⟨row, hrow, tt, rfl, htt⟩ := xk ha hx
    have nw : ∀ {p : Addr} {o : HO}, H p = some o → isD o = false → ¬ W p := fun e1 e2 z => by
      obtain ⟨u, hu, du⟩ := SS.dict z
      rw [e1] at hu; cases hu; rw [e2] at du; cases du
    have htt' := K' _ _ htt (nw htt rfl)
    obtain ⟨dx, b, kvs, hr0, B, hW⟩ := id S1.ex
    walk_at "rd"
    refine ⟨_, _, rfl, SqT.of htt', rfl, _, _, rfl, _, _, rfl, _, _, rfl, rfl, ?_⟩
    walk_at "rd"
    have li : i < rs.length := (List.getElem?_eq_some_iff.mp hrow).1
    have et : R ++ (rs.take (i + 1)).map (fun z => (MO d, z)) = (R ++ (rs.take i).map fun z => (MO d, z)) ++ [(MO d, row.1, row.2.1, row.2.2)] := by
      rw [List.take_succ, hrow, List.map_append, List.append_assoc]; rfl
    rw [et]
    have l1 := B.len
    refine ⟨_, _, _, _, hr0, T.cN, T.cv, uy _, b, rfl, .inr ⟨_, .inl B.at_⟩, by omega, fun p hp p1 hp1 => ?_⟩
    have s2 := aj (HO.tup [L2.T row.1, L2.T row.2.1]) hp
    have s3 := s2.trans (aj (HO.dK []) hp1)
    have p0 : H' p1 = none := s2.free hp1
    have htp : upd (upd H' p (HO.tup [L2.T row.1, L2.T row.2.1])) p1 (HO.dK []) p = some (.tup ((kP (row.1, row.2.1)).map kV)) := aj (HO.dK []) hp1 _ _ ad
    have h1p : upd (upd H' p (HO.tup [L2.T row.1, L2.T row.2.1])) p1 (HO.dK []) p1 = some (.dK []) := ad
    generalize upd (upd H' p (HO.tup [L2.T row.1, L2.T row.2.1])) p1 (HO.dK []) = G at s3 htp h1p ⊢
    have B3 := B.mv fun q o z _ => s3 q o z
    have g := DGet.t (k := kP (row.1, row.2.1)) B3.at_ htp
    have fin : ∀ (kvs' : List (List Key × V)) (H4 : Hp), BP H4 b kvs' ((R ++ (rs.take i).map fun z => (MO d, z)) ++ [(MO d, row.1, row.2.1, row.2.2)]) (n + (i + 1)) → (∀ q, fp kvs' q → fp kvs q ∨ q = p1) → (∀ q o, G q = some o → q ≠ b → ¬ fp kvs q → q ≠ p1 → H4 q = some o) →
        ∃ W2, SA a.aO H4 r ((R ++ (rs.take i).map fun z => (MO d, z)) ++ [(MO d, row.1, row.2.1, row.2.2)]) (n + (i + 1)) W2 ∧ (∀ q, W2 q → W q ∨ H q = none) ∧ Kp W H H4 := fun kvs' H4 B4 f4 k4 => by
      have nwb : ∀ q o, H q = some o → ¬ W q → q ≠ b ∧ ¬ fp kvs q ∧ q ≠ p1 := fun q o e nq => by
        have c1 : ¬ W' q := fun z => (hf q z).elim nq fun z => by rw [e] at z; cases z
        exact ⟨fun z => c1 ((hW q).mpr (.inl z)), fun z => c1 ((hW q).mpr (.inr z)), ak (K' q o e nq) p0⟩
      refine ⟨fun q => q = b ∨ fp kvs' q, ⟨dx, b, kvs', ?_, B4, fun q => Iff.rfl⟩, fun q h => ?_, fun q o e nq => ?_⟩
      · refine k4 _ _ (s3 _ _ hr0) (hJ hr0 B.at_ fun z => nomatch z) (fun ⟨k1, m1⟩ => ?_) (ak hr0 p0)
        obtain ⟨_, _, _, _, _, e1, e2, _⟩ := B.to _ _ m1
        cases e1; rw [hr0] at e2; cases e2
      · rcases h with h | h
        · exact hf q ((hW q).mpr (.inl h))
        · rcases f4 q h with h | h
          · exact hf q ((hW q).mpr (.inr h))
          · by_cases wq : W q
            · exact .inl wq
            · refine .inr ?_
              cases e : H q with
              | none => rfl
              | some o => exact absurd h (nwb q o e wq).2.2
      · obtain ⟨c1, c2, c3⟩ := nwb q o e nq
        exact k4 q o (s3 _ _ (K' q o e nq)) c1 c2 c3
    have d0 : kV (.inl (MO d)) = .int (MO d) := rfl
    cases e : dk kvs (kP (row.1, row.2.1)) with
    | some v =>
      rw [e] at g
      have mv := fJ e
      obtain ⟨x', y', e', m', e1, rfl, h4, h5, h6, _⟩ := B3.to _ _ mv
      have eg : (dk m' (.inl (MO d))).getD (.int 0) = .int (gM m' (MO d)) := by
        unfold gM
        cases ev : dk m' (.inl (MO d)) with
        | none => rfl
        | some v2 =>
          obtain ⟨_, x9, _, rfl⟩ := h6.it _ _ (fJ ev)
          rfl
      obtain ⟨W2, S2, hf2, K2⟩ := fin kvs _ (B3.put (d := MO d) (am := row.2.2) mv h4) (fun q h => .inl h) fun q o z _ c2 _ => by
        rw [ai fun z => c2 ⟨_, z ▸ mv⟩]; exact z
      refine .inl ⟨_, g, e', rfl, .inl ⟨_, .inl h4⟩, _, DGet.k (k := .inl (MO d)) h4, ?_⟩
      rw [eg]
      exact ⟨e', _, rfl, DPut.k (k := .inl (MO d)) h4 (by omega), W2, _, _, _, _, S2, hf2, K2, rfl, rfl, rfl, rfl⟩
    | none =>
      rw [e] at g
      have nf : ¬ fp kvs p1 := fun ⟨k1, m1⟩ => by
        obtain ⟨_, _, _, _, _, e1, e2, _⟩ := B.to _ _ m1
        cases e1; rw [p0] at e2; cases e2
      have eb : p1 ≠ b := Ne.symm (ak B.at_ p0)
      obtain ⟨W2, S2, hf2, K2⟩ := fin _ _ (B3.add (d := MO d) (am := row.2.2) e nf eb) (fun q ⟨k1, m1⟩ => by
        rcases eG.mp m1 with e1 | ⟨m1, _⟩
        · exact .inr (V.ref.inj (Prod.mk.inj e1).2)
        · exact .inl ⟨k1, m1⟩) fun q o z c1 _ c3 => by rw [ai c3, ai c1]; exact z
      have h2p : upd G b (.dT (cF kvs (kP (row.1, row.2.1)) (.ref p1))) p1 = some (.dK []) := (ai eb).trans h1p
      exact .inr ⟨g, _, DPut.t B3.at_ htp (by omega), .inl ⟨_, .inl h2p⟩, _, DGet.k (k := .inl (MO d)) h2p, p1, _, rfl, DPut.k (k := .inl (MO d)) h2p (by show 0 < _; omega), W2, _, _, _, _, S2, hf2, K2, rfl, rfl, rfl, rfl⟩
  · rintro σ' H' ⟨W', x3, x4', x5, x6, S1, hf, K', rfl⟩
    rw [ha.len, List.take_length] at S1
    exact k W' H' S1 hf K'
end
section
variable {P : Program} {w : World} {K : PySem.W.Frag} {mg : Str → Option Value} {base : Heap} {a : Adr}
open K3
def CurAt (H H' : Hp) (q : Addr) (R : List PR) (pa : List Nat) (v : V) : Prop := ∃ q1 out, v = .ref q1 ∧ q1 ≠ q ∧ H q1 = none ∧ H' q1 = some (.lst (out.map L2.T)) ∧ InO out ∧ out.Nodup ∧ ∀ c, c ∈ out ↔ ∃ z ∈ R, z.2.1 = pa ∧ z.2.2.1 = c
theorem CurAt.same {H H' H2 : Hp} {q : Addr} {R : List PR} {pa : List Nat} {v : V} (h : CurAt H H' q R pa v) (s : Same H' H2) : CurAt H H2 q R pa v := by
  obtain ⟨q1, out, e, n, h1, h2, r⟩ := h; exact ⟨q1, out, e, n, h1, s _ _ h2, r⟩
theorem CurAt.put {H H' : Hp} {q : Addr} {R : List PR} {pa : List Nat} {v : V} {x : HO} (h : CurAt H H' q R pa v) : CurAt H (upd H' q x) q R pa v := by
  obtain ⟨q1, out, e, n, h1, h2, r⟩ := h; exact ⟨q1, out, e, n, h1, (ai n).trans h2, r⟩
def Few (R : List PR) : Prop := ∀ ds : List (List Nat), ds.Nodup → (∀ c ∈ ds, ∃ z ∈ R, z.2.2.1 = c) → ds.length < 64
def Way (ws : List Int) : Prop := ws.length = 3 ∧ 0 ∈ ws ∧ 1 ∈ ws ∧ 2 ∈ ws ∧ ∀ w ∈ ws, w = 0 ∨ w = 1 ∨ w = 2
theorem nR {K : PySem.W.Frag} {tl : TE} {g : TG} {tb : TS} {D : d4} {σ : St} {H : Hp} (h : tl σ H fun v H1 => ∃ a, v = .ref a ∧ (∃ xs, SqL K H1 a xs) ∧ FE (Itl K a) g tb D σ H1) : pM (lJ K tl) g tb D σ H := h
theorem oA {K : PySem.W.Frag} {a : Addr} {xs : List V} {g : TG} {tb : TS} {D : d4} {σ : St} {H : Hp} (Pv : Nat → St → Hp → Prop) (h0 : Pv 0 σ H) (hl : ∀ i σ H, Pv i σ H → SqL K H a xs)
    (hs : ∀ i x σ H, xs[i]? = some x → Pv i σ H → g x σ H fun σ2 H2 => tb { D with nx := Pv (i + 1), ct := Pv (i + 1), bk := D.nx } σ2 H2) (hd : ∀ σ H, Pv xs.length σ H → D.nx σ H) : FE (Itl K a) g tb D σ H := by
  refine ⟨fun i m σ H => m = xs.length - i ∧ i ≤ xs.length ∧ Pv i σ H, ⟨_, rfl, Nat.zero_le _, h0⟩, ?_⟩
  rintro i m σ H ⟨rfl, hi, p⟩
  have q := hl i σ H p
  rcases Nat.lt_or_ge i xs.length with lt | ge
  · refine .inr ⟨⟨xs, xs[i], q, by simp [lt]⟩, Pv (i + 1), fun σ' H' p' => ⟨_, by omega, rfl, lt, p'⟩, ?_⟩
    rintro x H' ⟨rfl, hy⟩
    exact hs i x σ _ (hy xs q) p
  · obtain rfl : i = xs.length := Nat.le_antisymm hi ge
    exact .inl ⟨⟨xs, q, Nat.le_refl _⟩, hd σ H p⟩
def sp_rh (C : Addr) : Sp := sp5 fun f x y z t H Q _ => asR f fun r => asT x fun pa => asT y fun cu => asR z fun st => asI t fun tn => ∃ R n W lo hi, SA C H r R n W ∧ n ≤ 500 ∧ H st = some (.tup [.int lo, .int hi]) ∧ Few R ∧
  ∀ q v H', Same H H' → H q = none → H' q = some (.lst [.int (sR pa cu (fun m => decide (lo ≤ m) && decide (m ≤ hi)) R), .int (sR pa cu (fun m => decide (m ≤ hi)) R), v]) → CurAt H H' q R pa v → Q (.ref q) H'
theorem hU (T : Txt K mg a) : b_ P w K mg base (XE P w) 6 a.cL a.eE ["_law_found", "_law_path", "_law_currency", "_law_stretch_here", "_law_turn"] (sp_rh a.aO) := by
  refine T.dv.okX eA (fun vs H Q E h => sp5.len h) (fun cdv A outer s H vs Q E hr h => ?_)
  obtain ⟨x0, x1, x2, x3, x4, rfl, h⟩ := sp5.inv h
  try dsimp only [sp_rh, sp5] at h
  have ND := eA.nd
  have HU : (bY (XE P w) P w K mg base ["_law_found", "_law_path", "_law_currency", "_law_stretch_here", "_law_turn", "_law_answers_here", "_law_way"] "_law_answers" (ae aR) a.cL cdv A outer s H E).A.units + 100 < cLine := bp hr
  obtain ⟨r, rfl, h1⟩ := asR.inv h
  obtain ⟨pa, rfl, h2⟩ := asT.inv h1
  obtain ⟨cu, rfl, h3⟩ := asT.inv h2
  obtain ⟨st, rfl, h4⟩ := asR.inv h3
  obtain ⟨tn, rfl, R, n, W, lo, hi, SS, nn, hst, few, k⟩ := asI.inv h4
  have sz : 1000 < sizeLine := by rw [sizeLine_eq]; decide
  have G_Sums_own := kQ (P := P) (w := w) (base := base) T
  have b_Sums_own := lF T.iB
  have G_Sums_standing := gF (P := P) (w := w) (base := base) T
  have b_Sums_standing := gu T.eD
  have G_Sums_currencies := dt (P := P) (w := w) (base := base) T
  have b_Sums_currencies := di T.cK
  refine ⟨_, (ag (ar (i := 5) ND rfl (Or.inl rfl) (bP (FA.pa (aa jT (aa jT (aa jT ah))))))
      (ag (d8 (by passes_own) rfl (cT K (aH (ao K) (bP (FA.pa (aa (bP (FA.pa (aa ac (aa ac (aa ac ah))))) (aa (bP (FA.pa (aa ac (aa ac (aa ac ah))))) (aa (bP (FA.pa (aa ac (aa ac (aa ac ah))))) (aa (bP (FA.pa (aa ac (aa ac (aa ac ah))))) (aa (bP (FA.pa (aa ac (aa ac (aa ac ah))))) (aa (bP (FA.pa (aa ac (aa ac (aa ac ah))))) ah)))))))) (af aC (fv 4) ac) (fun _ _ => rfl))) (aF (i := 6) ND rfl (Or.inl rfl)) (al (cO (bC (ci K HU) (fv 6) ac (bg _)) (al (gv (de (fv 0) T.cN T.lb G_Sums_own (hr.mono (by decide)) b_Sums_own .nil aN (FA.pa (aa (fv 1) (aa (fv 2) (aa (aH (ao K) (fv 3) ac (fun _ _ => rfl)) (aa (aH (ao K) (fv 3) ac (fun _ _ => rfl)) ah)))))) (j_ (fv 5) ac gf))) (al (cO (bC (ci K HU) (fv 6) ac (bg _)) (al (gv (de (fv 0) T.cN T.gJ G_Sums_standing (hr.mono (by decide)) b_Sums_standing .nil aN (FA.pa (aa (fv 1) (aa (fv 2) (aa (aH (ao K) (fv 3) ac (fun _ _ => rfl)) ah))))) (j_ (fv 5) ac gf))) (al (gv (de (fv 0) T.cN T.df G_Sums_currencies (hr.mono (by decide)) b_Sums_currencies .nil aN (FA.pa (aa (fv 1) ah))) (j_ (fv 5) ac gf))))))))
      (al (aQ (fv 5))))), ?_⟩
  walk_at "rd"
  refine ⟨by omega, fun q hq => nR ?_⟩
  walk_at "rd"
  have s0 := aj (HO.lst [V.non, V.non, V.non]) hq
  have q0 : upd H q (HO.lst [V.non, V.non, V.non]) q = some (HO.lst [V.non, V.non, V.non]) := ad
  generalize upd H q (HO.lst [V.non, V.non, V.non]) = G at s0 q0 ⊢
  refine ⟨by omega, fun p0 e0 => ?_⟩
  have t0 := aj (HO.lst [V.int 0, V.int 1, V.int 2]) e0
  have a0 : upd G p0 (HO.lst [V.int 0, V.int 1, V.int 2]) p0 = some (HO.lst [V.int 0, V.int 1, V.int 2]) := ad
  generalize upd G p0 (HO.lst [V.int 0, V.int 1, V.int 2]) = G0 at t0 a0 ⊢
  refine ⟨by omega, fun p1 e1 => ?_⟩
  have t1 := aj (HO.lst [V.int 1, V.int 0, V.int 2]) e1
  have a1 : upd G0 p1 (HO.lst [V.int 1, V.int 0, V.int 2]) p1 = some (HO.lst [V.int 1, V.int 0, V.int 2]) := ad
  generalize upd G0 p1 (HO.lst [V.int 1, V.int 0, V.int 2]) = G1 at t1 a1 ⊢
  refine ⟨by omega, fun p2 e2 => ?_⟩
  have t2 := aj (HO.lst [V.int 2, V.int 1, V.int 0]) e2
  have a2 : upd G1 p2 (HO.lst [V.int 2, V.int 1, V.int 0]) p2 = some (HO.lst [V.int 2, V.int 1, V.int 0]) := ad
  generalize upd G1 p2 (HO.lst [V.int 2, V.int 1, V.int 0]) = G2 at t2 a2 ⊢
  refine ⟨by omega, fun p3 e3 => ?_⟩
  have t3 := aj (HO.lst [V.int 1, V.int 2, V.int 0]) e3
  have a3 : upd G2 p3 (HO.lst [V.int 1, V.int 2, V.int 0]) p3 = some (HO.lst [V.int 1, V.int 2, V.int 0]) := ad
  generalize upd G2 p3 (HO.lst [V.int 1, V.int 2, V.int 0]) = G3 at t3 a3 ⊢
  refine ⟨by omega, fun p4 e4 => ?_⟩
  have t4 := aj (HO.lst [V.int 0, V.int 2, V.int 1]) e4
  have a4 : upd G3 p4 (HO.lst [V.int 0, V.int 2, V.int 1]) p4 = some (HO.lst [V.int 0, V.int 2, V.int 1]) := ad
  generalize upd G3 p4 (HO.lst [V.int 0, V.int 2, V.int 1]) = G4 at t4 a4 ⊢
  refine ⟨by omega, fun p5 e5 => ?_⟩
  have t5 := aj (HO.lst [V.int 2, V.int 0, V.int 1]) e5
  have a5 : upd G4 p5 (HO.lst [V.int 2, V.int 0, V.int 1]) p5 = some (HO.lst [V.int 2, V.int 0, V.int 1]) := ad
  generalize upd G4 p5 (HO.lst [V.int 2, V.int 0, V.int 1]) = G5 at t5 a5 ⊢
  have u4 := t5
  have u3 := t4.trans u4
  have u2 := t3.trans u3
  have u1 := t2.trans u2
  have u0 := t1.trans u1
  have uG := t0.trans u0
  refine ⟨by omega, fun p6 e6 => ?_⟩
  have t6 := aj (HO.lst [V.ref p0, V.ref p1, V.ref p2, V.ref p3, V.ref p4, V.ref p5]) e6
  have a6 : upd G5 p6 (HO.lst [V.ref p0, V.ref p1, V.ref p2, V.ref p3, V.ref p4, V.ref p5]) p6 = some (HO.lst [V.ref p0, V.ref p1, V.ref p2, V.ref p3, V.ref p4, V.ref p5]) := ad
  generalize upd G5 p6 (HO.lst [V.ref p0, V.ref p1, V.ref p2, V.ref p3, V.ref p4, V.ref p5]) = G6 at t6 a6 ⊢
  obtain ⟨lw, ws, ew, hlw, hws⟩ : ∃ lw ws, atI [V.ref p0, V.ref p1, V.ref p2, V.ref p3, V.ref p4, V.ref p5] (tn % 6) = some (.ref lw) ∧ G6 lw = some (.lst (ws.map V.int)) ∧ Way ws := by
    obtain ⟨j, ej⟩ := Int.eq_ofNat_of_zero_le (Int.emod_nonneg tn (show (6 : Int) ≠ 0 by decide))
    have jb := Int.emod_lt_of_pos tn (show (0 : Int) < 6 by decide)
    rw [ej] at jb ⊢
    have hc : j = 0 ∨ j = 1 ∨ j = 2 ∨ j = 3 ∨ j = 4 ∨ j = 5 := by omega
    rcases hc with rfl | rfl | rfl | rfl | rfl | rfl
    · exact ⟨p0, [0, 1, 2], aA (j := 0) rfl, t6 _ _ (u0 _ _ a0), by unfold Way; decide⟩
    · exact ⟨p1, [1, 0, 2], aA (j := 1) rfl, t6 _ _ (u1 _ _ a1), by unfold Way; decide⟩
    · exact ⟨p2, [2, 1, 0], aA (j := 2) rfl, t6 _ _ (u2 _ _ a2), by unfold Way; decide⟩
    · exact ⟨p3, [1, 2, 0], aA (j := 3) rfl, t6 _ _ (u3 _ _ a3), by unfold Way; decide⟩
    · exact ⟨p4, [0, 2, 1], aA (j := 4) rfl, t6 _ _ (u4 _ _ a4), by unfold Way; decide⟩
    · exact ⟨p5, [2, 0, 1], aA (j := 5) rfl, t6 _ _ a5, by unfold Way; decide⟩
  have sG : Same H G6 := s0.trans (uG.trans t6)
  have hq6 := t6 _ _ (uG _ _ q0)
  have nl : lw ≠ q := fun z => by
    rw [z, hq6] at hlw
    have e := HO.lst.inj (Option.some.inj hlw)
    cases ws with
    | nil => cases e
    | cons u v => cases e
  refine ⟨_, _, .inl (SqL.of a6), ew, lw, rfl, ⟨_, SqL.of hlw⟩, oA (xs := ws.map V.int) (fun i σ' H' => Same H H' ∧ H' lw = some (.lst (ws.map V.int)) ∧ ∃ x0 x1 x2 xw, H' q = some (.lst [x0, x1, x2]) ∧ (0 ∈ ws.take i → x0 = .int (sR pa cu (fun m => decide (lo ≤ m) && decide (m ≤ hi)) R)) ∧ (1 ∈ ws.take i → x1 = .int (sR pa cu (fun m => decide (m ≤ hi)) R)) ∧ (2 ∈ ws.take i → CurAt H H' q R pa x2) ∧
    σ' = [some (.ref r), some (L2.T pa), some (L2.T cu), some (.ref st), some (.int tn), some (.ref q), xw]) ⟨sG, hlw, _, _, _, none, hq6, (fun z => nomatch z), (fun z => nomatch z), (fun z => nomatch z), rfl⟩ (fun i σ' H' h => SqL.of h.2.1) ?_ ?_⟩
  · rintro i x σ' H' hx ⟨sm, hl, x0, x1, x2, xw, hq', f0, f1, f2, rfl⟩
    obtain ⟨wi, hwi, rfl⟩ : ∃ wi, ws[i]? = some wi ∧ x = .int wi := by
      rw [List.getElem?_map] at hx
      obtain ⟨wi, h, e⟩ := Option.map_eq_some_iff.mp hx
      exact ⟨wi, h, e.symm⟩
    have tk : ws.take (i + 1) = ws.take i ++ [wi] := by rw [List.take_succ, hwi]; rfl
    have hst' := sm _ _ hst
    have S1 := SS.same sm
    obtain ⟨dx, b, kvs, hr0, B, hW⟩ := id S1.ex
    have mt : ∀ c, c ∈ ws.take (i + 1) → c ≠ wi → c ∈ ws.take i := fun c m nc => by
      rw [tk] at m
      rcases List.mem_append.mp m with m | m
      · exact m
      · exact absurd (List.mem_singleton.mp m) nc
    have hi3 := hws.2.2.2.2 wi (List.mem_of_getElem? hwi)
    walk_at "rd"
    by_cases c0 : wi = 0
    · refine itp c0 ⟨dx, _, hr0, vO _, _, _, .inr (SqT.of hst'), aA (j := 0) rfl, _, _, .inr (SqT.of hst'), aA (j := 1) rfl, ?_⟩
      walk_at "rd"
      refine ⟨R, n, W, S1, nn, fun H2 s2 => ⟨q, _, _, 0, rfl, rfl, s2 _ _ hq', rfl, cf (sm.trans s2) hq, (ai nl).trans (s2 _ _ hl), _, x1, x2, _, ad, fun _ => rfl, fun z => f1 (mt _ z (by omega)), fun z => ((f2 (mt _ z (by omega))).same s2).put, rfl⟩⟩
    · refine itn c0 ?_
      by_cases c1 : wi = 1
      · refine itp c1 ⟨dx, _, hr0, xf _, _, _, .inr (SqT.of hst'), aA (j := 1) rfl, ?_⟩
        walk_at "rd"
        refine ⟨R, n, W, S1, nn, fun H2 s2 => ⟨q, _, _, 1, rfl, rfl, s2 _ _ hq', rfl, cf (sm.trans s2) hq, (ai nl).trans (s2 _ _ hl), x0, _, x2, _, ad, fun z => f0 (mt _ z (by omega)), fun _ => rfl, fun z => ((f2 (mt _ z (by omega))).same s2).put, rfl⟩⟩
      · refine itn c1 ⟨dx, _, hr0, tZ _, R, n, W, S1, nn, few, fun out q1 H2 s2 hq1 e1 io nd mm => ⟨q, _, _, 2, rfl, rfl, s2 _ _ hq', rfl, cf (sm.trans s2) hq, (ai nl).trans (s2 _ _ hl), x0, x1, _, _, ad, fun z => f0 (mt _ z (by omega)), fun z => f1 (mt _ z (by omega)), fun _ => ?_, rfl⟩⟩
        have n1 : q1 ≠ q := Ne.symm (ak hq' hq1)
        exact ⟨q1, out, rfl, n1, sm.free hq1, (ai n1).trans e1, io, nd, mm⟩
  · rintro σ' H' ⟨sm, hl, x0, x1, x2, xw, hq', f0, f1, f2, rfl⟩
    have e3 : (ws.map V.int).length = ws.length := List.length_map ..
    rw [e3, List.take_length] at f0 f1 f2
    obtain ⟨_, w0, w1, w2, _⟩ := hws
    rw [f0 w0, f1 w1] at hq'
    walk_at "rd"
    exact k q x2 H' sm hq hq' (f2 w2)
end
section
variable {P : Program} {w : World} {K : PySem.W.Frag} {mg : Str → Option Value} {base : Heap} {a : Adr}
open K3
def PRAt (H : Hp) (v : V) (z : PR) : Prop := ∃ t, v = .ref t ∧ H t = some (.tup [.int z.1, L2.T z.2.1, L2.T z.2.2.1, .int z.2.2.2])
theorem PRAt.same {H H' : Hp} (s : Same H H') {v : V} {z : PR} (h : PRAt H v z) : PRAt H' v z := by
  obtain ⟨t, e, h⟩ := h; exact ⟨t, e, s _ _ h⟩
def Held (H : Hp) (hd : Addr) (av : Addr → Prop) (n : Nat) : Prop := ∃ hs : List V, H hd = some (.lst hs) ∧ hs.length ≤ n ∧ ∀ v ∈ hs, ∃ t x y, ∃ ls : List (List Nat), v = .ref t ∧ ¬ av t ∧ ¬ av x ∧ ¬ av y ∧ H t = some (.lst [.ref x, .ref y]) ∧ H x = some (.lst (ls.map L2.T)) ∧ H y = some (.lst (ls.map L2.T))
theorem se {K : PySem.W.Frag} {te : TE} {σ : St} {H : Hp} {Q : VK} (h : te σ H fun v H1 => xr K v H1 Q) : wP K te σ H Q := h
def sp_oF (C : Addr) : Sp := sp7 fun f x1 x2 x3 x4 x5 x6 H Q _ => asR f fun r => asR x1 fun rw => asT x2 fun pa => asT x3 fun cu => asR x4 fun st => asR x5 fun hd => asI x6 fun tn => ∃ R n W lo hi vs m av, SA C H r R n W ∧ n ≤ 500 ∧ H rw = some (.lst vs) ∧ vs.length ≤ 500 ∧ A2 (PRAt H) vs R ∧ H st = some (.tup [.int lo, .int hi]) ∧ Few R ∧ Held H hd av m ∧ av hd ∧ (∀ p, av p → H p ≠ none) ∧ m ≤ 500 ∧ r ≠ hd ∧ rw ≠ hd ∧
  ∀ H', Kp (fun p => p = hd) H H' → Held H' hd av (m + 1) → Q (.bl true) H'
theorem bG (T : Txt K mg a) : b_ P w K mg base (XE P w) 7 a.cV a.fX ["_law_found", "_law_rows_here", "_law_path", "_law_currency", "_law_stretch_here", "_law_held", "_law_turn"] (sp_oF a.aO) := by
  refine T.a_.okX fN (fun vs H Q E h => sp7.len h) (fun cdv A outer s H vs Q E hr h => ?_)
  obtain ⟨x0, x1, x2, x3, x4, x5, x6, rfl, h⟩ := sp7.inv h
  try dsimp only [sp_oF, sp7] at h
  have ND := fN.nd
  have HU : (bY (XE P w) P w K mg base ["_law_found", "_law_rows_here", "_law_path", "_law_currency", "_law_stretch_here", "_law_held", "_law_turn", "_law_first_here", "_law_last", "_law_mine", "_law_here", "_law_own", "_law_standing", "_law_told_here", "_law_due"] "_law_told" (ae bf) a.cV cdv A outer s H E).A.units + 100 < cLine := bp hr
  obtain ⟨r, rfl, h1⟩ := asR.inv h
  obtain ⟨rw_, rfl, h2⟩ := asR.inv h1
  obtain ⟨pa, rfl, h3⟩ := asT.inv h2
  obtain ⟨cu, rfl, h4⟩ := asT.inv h3
  obtain ⟨st, rfl, h5⟩ := asR.inv h4
  obtain ⟨hd, rfl, h6⟩ := asR.inv h5
  obtain ⟨tn, rfl, R, n, W, lo, hi, vs, m, av, SS, nn, hrw, lv, AA, hst, few, hH, hav, avn, mm, n1, n2, k⟩ := asI.inv h6
  have sz : 1000 < sizeLine := by rw [sizeLine_eq]; decide
  have G_Sums_currencies := dt (P := P) (w := w) (base := base) T
  have b_Sums_currencies := di T.cK
  have G__law_whole := i5 (P := P) (w := w) (base := base) T
  have b__law_whole := iZ T.cY
  have G__law_answers := hU (P := P) (w := w) (base := base) T
  have b__law_answers := h_ T.dv
  have c4 : ∃ u, PSs (bY (XE P w) P w K mg base ["_law_found", "_law_rows_here", "_law_path", "_law_currency", "_law_stretch_here", "_law_held", "_law_turn", "_law_first_here", "_law_last", "_law_mine", "_law_here", "_law_own", "_law_standing", "_law_told_here", "_law_due"] "_law_told" (ae bf) a.cV cdv A outer s H E) (List.drop 4 (aB bf)) u ∧ ∀ (dm dh q : Addr) (vm vh : List V) (v : V) (H1 : Hp), Same H H1 → H dm = none → H1 dm = some (.lst vm) → A2 (PRAt H) vm (R.filter fun z => decide (z.2.1 = pa)) → H1 dh = some (.lst vh) → A2 (PRAt H) vh ((R.filter fun z => decide (z.2.1 = pa)).filter fun z => decide (z.2.2.1 = cu)) → H1 q = some (.lst [.int (sR pa cu (fun m => decide (lo ≤ m) && decide (m ≤ hi)) R), .int (sR pa cu (fun m => decide (m ≤ hi)) R), v]) → CurAt H H1 q R pa v →
      u { nx := fun _ H' => Q .non H', rt := Q } [some (.ref r), some (.ref rw_), some (L2.T pa), some (L2.T cu), some (.ref st), some (.ref hd), some (.int tn), some (.int lo), some (.int hi), some (.ref dm), some (.ref dh), some (.int (sR pa cu (fun m => decide (lo ≤ m) && decide (m ≤ hi)) R)), some (.int (sR pa cu (fun m => decide (m ≤ hi)) R)), some v, none] H1 := by
    refine ⟨_, (ag (cO (L2.PW.pt (pQ (fH (fw (aq G__law_whole (hr.mono (by decide)) rfl T.fU T.cY.kp b__law_whole .nil aN (FA.pa (aa (fv 11) ah))))) (ni (bC (jP K HU) (fv 11) (bj (fV K rfl) rfl T.mI iM (FA.pa (aa (cq rfl (cl := _) (x := "_law_row") (xs := ["_law_row"]) (fr := ["_law_first_here", "_law_last"]) (ks := [7, 8]) (by exact ⟨rfl, by decide +kernel, rfl, by decide +kernel, rfl, cw rfl, rfl, aK rfl, aK (k := fun y => List.lookup y _) rfl, cy rfl⟩) rfl (cT K (fv 10)) (fun _ _ _ _ _ => (aF (i := 0) (dw (l := ["_law_row", "_law_first_here", "_law_last"]) (by decide)) rfl (Or.inl rfl))) (fun _ _ _ _ _ => (dR (lD ju ju (fv 1) (aH (ao K) (fv 0) ac (fun _ _ => rfl)) (fv 2)))) (fun _ _ _ _ _ => (aH (ao K) (fv 0) ac (fun _ _ => rfl)))) ah))) (bg _))))) (al (aQ gX)) bQ)
      (ag (cO (L2.PW.pt (pQ (fH (fw (aq G__law_whole (hr.mono (by decide)) rfl T.fU T.cY.kp b__law_whole .nil aN (FA.pa (aa (fv 12) ah))))) (ni (bC (jP K HU) (fv 12) (bj (fV K rfl) rfl T.mI iM (FA.pa (aa (cq rfl (cl := _) (x := "_law_row") (xs := ["_law_row"]) (fr := ["_law_last"]) (ks := [8]) (by exact ⟨rfl, by decide +kernel, rfl, by decide +kernel, rfl, cw rfl, rfl, aK rfl, aK (k := fun y => List.lookup y _) rfl, cy rfl⟩) rfl (cT K (fv 10)) (fun _ _ _ _ _ => (aF (i := 0) (dw (l := ["_law_row", "_law_last"]) (by decide)) rfl (Or.inl rfl))) (fun _ _ _ _ _ => (dR (bC ju (aH (ao K) (fv 0) ac (fun _ _ => rfl)) (fv 1) (bg _)))) (fun _ _ _ _ _ => (aH (ao K) (fv 0) ac (fun _ _ => rfl)))) ah))) (bg _))))) (al (aQ gX)) bQ)
      (ag (ar (i := 14) ND rfl (Or.inl rfl) (nu K rfl rfl T.lZ jE rfl T.xH vQ (cq rfl (cl := _) (x := "_law_row") (xs := ["_law_row"]) (fr := []) (ks := []) (by exact ⟨rfl, by decide +kernel, rfl, by decide +kernel, rfl, cw rfl, rfl, aK rfl, aK (k := fun y => List.lookup y _) rfl, cy rfl⟩) rfl (cT K (fv 9)) (fun _ _ _ _ _ => (aF (i := 0) (dw (l := ["_law_row"]) (by decide)) rfl (Or.inl rfl))) (fun _ _ _ _ _ => gm) (fun _ _ _ _ _ => (aH (ao K) (fv 0) ac (fun _ _ => rfl))))))
      (ag (cO (L2.PW.pt (pQ (fH (fw (bj (km K) rfl T.dW dI (FA.pa (aa (fv 13) (aa (kh (v := .ty "list") rfl T.vd sU rfl) ah)))))) (ni (bC (jP K HU) (fv 13) (fv 14) (bg _))))) (al (aQ gX)) bQ)
      (ag (gn (fz K PySem.F.plainAttrs_list PySem.F.slot_list_append PySem.F.type_list_append cZ (fv 13) (FA.pa (aa (cX [109, 111, 114, 101]) ah))))
      (ag (gn (fz K PySem.F.plainAttrs_list PySem.F.slot_list_append PySem.F.type_list_append cZ (fv 5) (FA.pa (aa (bP (FA.pa (aa (fv 13) (aa (af j5 (fv 14) (bP (FA.pa (aa (cX [109, 111, 114, 101]) ah)))) ah)))) ah))))
      (al (aQ (ui (ef (ci K HU) (af aC (af au (fv 6) ac) ac) ac (bg _)) (iO (ef (ci K HU) (de (fv 0) T.cN T.df G_Sums_currencies (hr.mono (by decide)) b_Sums_currencies .nil aN (FA.pa (aa (fv 2) ah))) (fv 14) (bg _)))))))))))), fun dm dh q vm vh v H1 s1 hdm e1 a1 e2 a2 e3 ca => ?_⟩
    walk_at "rd"
    have lR : ∀ f : PR → Bool, (R.filter f).length ≤ 500 := fun f => by
      have := List.length_filter_le f R
      have := AA.len
      omega
    have l1 : vm.length ≤ 500 := by rw [a1.len]; exact lR _
    have l2 : vh.length ≤ 500 := by
      rw [a2.len]
      exact Nat.le_trans (List.length_filter_le _ _) (lR _)
    refine jp dh vh _ (PRAt H) (fun z => decide (lo ≤ z.1) && decide (z.1 ≤ hi)) (fun _ z => .int z.2.2.2) (fun k h => h) e2 a2 (by omega) (fun v z mz hz G kk sG r => ?_) (fun v z mz hz _ G kk sG r => ?_) fun d1 w1 hd1 b1 => ?_
    · obtain ⟨t, rfl, ht⟩ := hz
      have ht' := sG _ _ (s1 _ _ ht)
      walk_at "rd"
      refine ⟨_, _, .inr (SqT.of ht'), aA (j := 0) rfl, ?_⟩
      walk_at "rd"
      by_cases c : lo ≤ z.1
      · refine itp c ?_
        rw [decide_eq_true c, Bool.true_and] at r
        exact r
      · refine itn c ?_
        rw [decide_eq_false c, Bool.false_and] at r
        exact r
    · obtain ⟨t, rfl, ht⟩ := hz
      have ht' := sG _ _ (s1 _ _ ht)
      walk_at "rd"
      exact ⟨_, _, .inr (SqT.of ht'), aA (j := 3) rfl, r⟩
    have b1 := kA (g := fun z : PR => V.int z.2.2.2) (fun _ _ => rfl) b1
    have g1 : upd H1 d1 (HO.lst w1) d1 = some (.lst (((((R.filter fun z => decide (z.2.1 = pa)).filter fun z => decide (z.2.2.1 = cu)).filter fun z => decide (lo ≤ z.1) && decide (z.1 ≤ hi)).map fun z => z.2.2.2).map V.int)) := by rw [ad, b1, List.map_map]; rfl
    have s2 := s1.trans (aj (HO.lst w1) hd1)
    have t2 := aj (HO.lst w1) hd1
    generalize upd H1 d1 (HO.lst w1) = G1 at g1 s2 t2 ⊢
    have f1 := mT pa cu (fun m => decide (lo ≤ m) && decide (m ≤ hi)) R
    refine ⟨_, .inl (SqL.of g1), ?_⟩
    rw [f1]
    walk_at "rd"
    refine jp dh vh _ (PRAt H) (fun z => decide (z.1 ≤ hi)) (fun _ z => .int z.2.2.2) (fun k h => h) (t2 _ _ e2) a2 (by omega) (fun v z mz hz G kk sG r => ?_) (fun v z mz hz _ G kk sG r => ?_) fun d2 w2 hd2 b2 => ?_
    · obtain ⟨t, rfl, ht⟩ := hz
      have ht' := sG _ _ (s2 _ _ ht)
      walk_at "rd"
      refine ⟨_, _, .inr (SqT.of ht'), aA (j := 0) rfl, ?_⟩
      walk_at "rd"
      exact r
    · obtain ⟨t, rfl, ht⟩ := hz
      have ht' := sG _ _ (s2 _ _ ht)
      walk_at "rd"
      exact ⟨_, _, .inr (SqT.of ht'), aA (j := 3) rfl, r⟩
    have b2 := kA (g := fun z : PR => V.int z.2.2.2) (fun _ _ => rfl) b2
    have g2 : upd G1 d2 (HO.lst w2) d2 = some (.lst (((((R.filter fun z => decide (z.2.1 = pa)).filter fun z => decide (z.2.2.1 = cu)).filter fun z => decide (z.1 ≤ hi)).map fun z => z.2.2.2).map V.int)) := by rw [ad, b2, List.map_map]; rfl
    have s3 := s2.trans (aj (HO.lst w2) hd2)
    have t3 := t2.trans (aj (HO.lst w2) hd2)
    generalize upd G1 d2 (HO.lst w2) = G2 at g2 s3 t3 ⊢
    have f2 := mT pa cu (fun m => decide (m ≤ hi)) R
    refine ⟨_, .inl (SqL.of g2), ?_⟩
    rw [f2]
    walk_at "rd"
    refine se (jp dm vm _ (PRAt H) (fun z => true) (fun _ z => L2.T z.2.2.1) (fun k h => h) (t3 _ _ e1) a1 (by omega) (fun v z mz hz G kk sG r => r) (fun v z mz hz _ G kk sG r => ?_) fun d3 w3 hd3 b3 => ?_)
    · obtain ⟨t, rfl, ht⟩ := hz
      have ht' := sG _ _ (s3 _ _ ht)
      walk_at "rd"
      exact ⟨_, _, .inr (SqT.of ht'), aA (j := 2) rfl, r⟩
    have b3 := kA (g := fun z : PR => L2.T z.2.2.1) (fun _ _ => rfl) b3
    rw [List.filter_eq_self.mpr (fun _ _ => rfl)] at b3
    have g3 : upd G2 d3 (HO.lst w3) d3 = some (.lst (((R.filter fun z => decide (z.2.1 = pa)).map fun z => z.2.2.1).map L2.T)) := by rw [ad, b3, List.map_map]; rfl
    have s4 := s3.trans (aj (HO.lst w3) hd3)
    have t4 := t3.trans (aj (HO.lst w3) hd3)
    generalize upd G2 d3 (HO.lst w3) = G3 at g3 s4 t4 ⊢
    have mc : ∀ c, c ∈ (R.filter fun z => decide (z.2.1 = pa)).map (fun z => z.2.2.1) ↔ ∃ z ∈ R, z.2.1 = pa ∧ z.2.2.1 = c := fun c => by
      constructor
      · intro h
        obtain ⟨z, mz, e⟩ := List.mem_map.mp h
        obtain ⟨mz, pz⟩ := List.mem_filter.mp mz
        exact ⟨z, mz, of_decide_eq_true pz, e⟩
      · rintro ⟨z, mz, e1, e2⟩
        exact List.mem_map.mpr ⟨z, List.mem_filter.mpr ⟨mz, decide_eq_true e1⟩, e2⟩
    obtain ⟨q1, out, rfl, nq, hq1, eq1, io, nd, mo⟩ := ca
    refine ⟨d3, _, rfl, SqL.of g3, by rw [List.length_map]; exact Nat.lt_of_le_of_lt (lR _) (by decide), fun ds nds hds => few ds nds fun c m => ?_, fun out2 io2 nd2 mo2 l hl => ?_⟩
    · obtain ⟨z, mz, _, e⟩ := (mc c).mp (hds c m)
      exact ⟨z, mz, e⟩
    have eo : out2 = out := qg io2 io nd2 nd fun c => (mo2 c).trans ((mc c).trans (mo c).symm)
    subst eo
    have s5 := s4.trans (aj (HO.lst (out2.map L2.T)) hl)
    have t5 := t4.trans (aj (HO.lst (out2.map L2.T)) hl)
    have g4 : upd G3 l (HO.lst (out2.map L2.T)) l = some (HO.lst (out2.map L2.T)) := ad
    have ql : q1 ≠ l := ak (t4 _ _ eq1) hl
    have l0 : H l = none := s4.free hl
    generalize upd G3 l (HO.lst (out2.map L2.T)) = G4 at g4 s5 t5 ⊢
    have eq4 := t5 _ _ eq1
    have kq : dN G4 (.ref q1) = some "list" := by simp [dN, eq4]
    simp only [kq]
    walk_at "rd"
    refine ⟨_, EqR.flatL (SqL.of eq4) (SqL.of g4) (by simp [cj]), ?_⟩
    walk_at "rd"
    have lo2 : out2.length < 64 := few out2 nd fun c m => by
      obtain ⟨z, mz, _, e⟩ := (mo c).mp m
      exact ⟨z, mz, e⟩
    obtain ⟨hs, hhd, lhs, hall⟩ := hH
    refine ⟨.inl ⟨_, SqL.of eq4⟩, q1, _, _, rfl, rfl, eq4, by rw [List.length_map]; omega, ?_⟩
    have x5 : upd G4 q1 (HO.lst (out2.map L2.T ++ [L2.T [109, 111, 114, 101]])) q1 = some (.lst ((out2 ++ [[109, 111, 114, 101]]).map L2.T)) := by rw [ad, List.map_append]; rfl
    have s6 : Same H (upd G4 q1 (HO.lst (out2.map L2.T ++ [L2.T [109, 111, 114, 101]]))) := cf s5 hq1
    have l5 : upd G4 q1 (HO.lst (out2.map L2.T ++ [L2.T [109, 111, 114, 101]])) l = some (.lst (out2.map L2.T)) := (ai (Ne.symm ql)).trans g4
    generalize upd G4 q1 (HO.lst (out2.map L2.T ++ [L2.T [109, 111, 114, 101]])) = G5 at x5 s6 l5 ⊢
    refine ⟨.inl ⟨_, SqL.of (s6 _ _ hhd)⟩, by omega, fun p hp => ⟨_, _, (ai (ak l5 hp)).trans l5, ad, by rw [List.length_map]; show _ + 1 ≤ _; omega, fun p1 hp1 => ?_⟩⟩
    have t6 := aj (HO.lst [L2.T [109, 111, 114, 101]]) hp
    generalize upd G5 p (HO.lst [L2.T [109, 111, 114, 101]]) = G6 at t6 hp1 ⊢
    have t7 := aj (HO.lst (out2.map L2.T ++ [L2.T [109, 111, 114, 101]])) hp1
    have x7 : upd G6 p1 (HO.lst (out2.map L2.T ++ [L2.T [109, 111, 114, 101]])) p1 = some (.lst ((out2 ++ [[109, 111, 114, 101]]).map L2.T)) := by rw [ad, List.map_append]; rfl
    have p10 : H p1 = none := (s6.trans t6).free hp1
    have h1d : hd ≠ p1 := ak (t6 _ _ (s6 _ _ hhd)) hp1
    generalize upd G6 p1 (HO.lst (out2.map L2.T ++ [L2.T [109, 111, 114, 101]])) = G7 at t7 x7 ⊢
    refine ⟨by omega, fun p2 hp2 => ?_⟩
    have t8 := aj (HO.lst [V.ref q1, V.ref p1]) hp2
    have x8 : upd G7 p2 (HO.lst [V.ref q1, V.ref p1]) p2 = some (HO.lst [V.ref q1, V.ref p1]) := ad
    have p20 : H p2 = none := (s6.trans (t6.trans t7)).free hp2
    have h2d : hd ≠ p2 := ak (t7 _ _ (t6 _ _ (s6 _ _ hhd))) hp2
    generalize upd G7 p2 (HO.lst [V.ref q1, V.ref p1]) = G8 at t8 x8 ⊢
    have t58 : Same G5 G8 := t6.trans (t7.trans t8)
    have s8 : Same H G8 := s6.trans t58
    have qd : q1 ≠ hd := Ne.symm (ak hhd hq1)
    have ld : l ≠ hd := Ne.symm (ak hhd l0)
    refine ⟨hd, hs, _, rfl, rfl, s8 _ _ hhd, by omega, ?_⟩
    have kf : Kp (fun c => c = hd) H (upd G8 hd (HO.lst (hs ++ [V.ref p2]))) := fun c o e nc => by rw [ai nc]; exact s8 c o e
    have hf : Held (upd G8 hd (HO.lst (hs ++ [V.ref p2]))) hd av (m + 1) := by
      refine ⟨_, ad, by rw [List.length_append]; exact Nat.succ_le_succ lhs, fun v mv => ?_⟩
      rcases List.mem_append.mp mv with mv | mv
      · obtain ⟨t, x, y, ls, e, n3, n4, n5, h3, h4, h5⟩ := hall v mv
        exact ⟨t, x, y, ls, e, n3, n4, n5, kf _ _ h3 fun z => n3 (z ▸ hav), kf _ _ h4 fun z => n4 (z ▸ hav), kf _ _ h5 fun z => n5 (z ▸ hav)⟩
      · exact ⟨p2, q1, p1, _, List.mem_singleton.mp mv, fun z => avn _ z p20, fun z => avn _ z hq1, fun z => avn _ z p10, (ai (Ne.symm h2d)).trans x8, (ai qd).trans (t58 _ _ x5), (ai (Ne.symm h1d)).trans (t8 _ _ x7)⟩
    have lf : upd G8 hd (HO.lst (hs ++ [V.ref p2])) l = some (.lst (out2.map L2.T)) := (ai ld).trans (t58 _ _ l5)
    have Sf : SA a.aO (upd G8 hd (HO.lst (hs ++ [V.ref p2]))) r R n W := SS.mv fun c o e hc => kf c o e fun z => by
      rcases hc with hc | hc
      · obtain ⟨u, hu, du⟩ := SS.dict hc
        rw [z, hhd] at hu; cases hu; cases du
      · exact n1 (hc.symm.trans z)
    generalize upd G8 hd (HO.lst (hs ++ [V.ref p2])) = Gf at kf hf lf Sf ⊢
    by_cases c : tn / 6 % 2 = 0
    · exact itp c (k Gf kf hf)
    · obtain ⟨dx, b, kvs, hr0, _⟩ := Sf.ex
      refine itn c ⟨dx, _, hr0, tZ _, R, n, W, Sf, nn, few, fun out3 q3 H9 s9 hq3 e9 io3 nd3 mo3 => ?_⟩
      have eo3 : out3 = out2 := qg io3 io nd3 nd fun c => (mo3 c).trans (mo c).symm
      subst eo3
      refine ⟨_, EqR.flatL (SqL.of e9) (SqL.of (s9 _ _ lf)) (by simp [cj]), ?_⟩
      refine k H9 (fun c o e nc => s9 _ _ (kf c o e nc)) ?_
      obtain ⟨hs2, b1, b2, b3⟩ := hf
      exact ⟨hs2, s9 _ _ b1, b2, fun v mv => let ⟨t, x, y, ls, e, n3, n4, n5, h3, h4, h5⟩ := b3 v mv; ⟨t, x, y, ls, e, n3, n4, n5, s9 _ _ h3, s9 _ _ h4, s9 _ _ h5⟩⟩
  obtain ⟨u4, hu4, c4⟩ := c4
  refine ⟨_, (ag (gv (fv 4) (ip K (n := 2) rfl (bX (aF (i := 7) ND rfl (Or.inr rfl)) (bX (aF (i := 8) ND rfl (Or.inr rfl)) fQ))))
      (ag (lU (i0 := 9) ND rfl (Or.inl rfl) rfl (cl := _) (x := "_law_row") (xs := ["_law_row"]) (fr := ["_law_path"]) (ks := [2]) (by exact ⟨rfl, by decide +kernel, rfl, by decide +kernel, rfl, cw rfl, rfl, aK rfl, aK (k := fun y => List.lookup y _) rfl, cy rfl⟩) rfl (cT K (fv 1)) (fun _ _ _ _ _ => (aF (i := 0) (dw (l := ["_law_row", "_law_path"]) (by decide)) rfl (Or.inl rfl))) (fun _ _ _ _ _ => (dR (bC (ci K HU) (aH (ao K) (fv 0) ac (fun _ _ => rfl)) (fv 1) (bg _)))) (fun _ _ _ _ _ => (fv 0)))
      (ag (lU (i0 := 10) ND rfl (Or.inl rfl) rfl (cl := _) (x := "_law_row") (xs := ["_law_row"]) (fr := ["_law_currency"]) (ks := [3]) (by exact ⟨rfl, by decide +kernel, rfl, by decide +kernel, rfl, cw rfl, rfl, aK rfl, aK (k := fun y => List.lookup y _) rfl, cy rfl⟩) rfl (cT K (fv 9)) (fun _ _ _ _ _ => (aF (i := 0) (dw (l := ["_law_row", "_law_currency"]) (by decide)) rfl (Or.inl rfl))) (fun _ _ _ _ _ => (dR (bC (ci K HU) (aH (ao K) (fv 0) ac (fun _ _ => rfl)) (fv 1) (bg _)))) (fun _ _ _ _ _ => (fv 0)))
      (ag (gv (aq G__law_answers (hr.mono (by decide)) rfl T.iy T.dv.kp b__law_answers .nil aN (FA.pa (aa (fv 0) (aa (fv 2) (aa (fv 3) (aa (fv 4) (aa (fv 6) ah))))))) (tE K (n := 3) rfl (bX (aF (i := 11) ND rfl (Or.inl rfl)) (bX (aF (i := 12) ND rfl (Or.inl rfl)) (bX (aF (i := 13) ND rfl (Or.inl rfl)) fQ)))))
      hu4)))), ?_⟩
  walk_at "rd"
  have lR : ∀ f : PR → Bool, (R.filter f).length ≤ 500 := fun f => by
    have := List.length_filter_le f R
    have := AA.len
    omega
  refine ⟨st, _, rfl, SqT.of hst, rfl, _, _, rfl, _, _, rfl, rfl, ?_⟩
  refine jp rw_ vs R (PRAt H) (fun z => decide (z.2.1 = pa)) (fun v _ => v) (fun k h => h) hrw AA (by omega) (fun v z mz hz G kk sG r => ?_) (fun v z mz hz _ G kk sG r => r) fun dm vm hdm a1 => ?_
  · obtain ⟨t, rfl, ht⟩ := hz
    have ht' := sG _ _ ht
    walk_at "rd"
    refine ⟨_, _, .inr (SqT.of ht'), aA (j := 1) rfl, ?_⟩
    walk_at "rd"
    exact r
  have a1 := ou a1
  have l1 : vm.length ≤ 500 := by rw [a1.len]; exact lR _
  have s1 := aj (HO.lst vm) hdm
  have e1 : upd H dm (HO.lst vm) dm = some (.lst vm) := ad
  generalize upd H dm (HO.lst vm) = G1 at s1 e1 ⊢
  refine jp dm vm _ (PRAt H) (fun z => decide (z.2.2.1 = cu)) (fun v _ => v) (fun k h => h) e1 a1 (by omega) (fun v z mz hz G kk sG r => ?_) (fun v z mz hz _ G kk sG r => r) fun dh vh hdh a2 => ?_
  · obtain ⟨t, rfl, ht⟩ := hz
    have ht' := sG _ _ (s1 _ _ ht)
    walk_at "rd"
    refine ⟨_, _, .inr (SqT.of ht'), aA (j := 2) rfl, ?_⟩
    walk_at "rd"
    exact r
  have a2 := ou a2
  have s2 := s1.trans (aj (HO.lst vh) hdh)
  have e2 : upd G1 dh (HO.lst vh) dh = some (.lst vh) := ad
  have e1' := aj (HO.lst vh) hdh _ _ e1
  generalize upd G1 dh (HO.lst vh) = G2 at s2 e2 e1' ⊢
  refine ⟨R, n, W, lo, hi, SS.same s2, nn, s2 _ _ hst, few, fun q v H3 s3 hq e3 ca => ⟨q, _, rfl, SqL.of e3, rfl, _, _, rfl, _, _, rfl, _, _, rfl, rfl, ?_⟩⟩
  refine c4 dm dh q vm vh v H3 (s2.trans s3) hdm (s3 _ _ e1') a1 (s3 _ _ e2) a2 e3 ?_
  obtain ⟨q1, out, e, n1, h1, r1⟩ := ca
  exact ⟨q1, out, e, n1, s2.free h1, r1⟩
end
section
variable {P : Program} {w : World} {K : PySem.W.Frag} {mg : Str → Option Value} {base : Heap} {a : Adr}
open K3
theorem BP.le {H : Hp} {b : Addr} {kvs : List (List Key × V)} {R : List PR} {n n' : Nat} (h : BP H b kvs R n) (l : n ≤ n') : BP H b kvs R n' :=
  ⟨h.at_, h.nd, Nat.le_trans h.len l, h.inj, fun k1 v m1 => let ⟨x, y, e, m, e1, e2, e3, e4, e5⟩ := h.to k1 v m1; ⟨x, y, e, m, e1, e2, e3, Nat.le_trans e4 l, e5⟩, h.fr⟩
theorem SA.le {C : Addr} {H : Hp} {r : Addr} {R : List PR} {n n' : Nat} {W : Addr → Prop} (h : SA C H r R n W) (l : n ≤ n') : SA C H r R n' W := by
  obtain ⟨dx, b, kvs, h1, h2, h6⟩ := h.ex
  exact ⟨dx, b, kvs, h1, h2.le l, h6⟩
theorem pL {R : List PR} {cu : List (List Nat)} (l : cu.length = 3) (h : ∀ z ∈ R, z.2.2.1 ∈ cu) : Few R := fun ds nd hd => by
  have := nz nd fun c m => by
    obtain ⟨z, mz, e⟩ := hd c m
    exact e ▸ h z mz
  omega
structure LS (C : Addr) (H : Hp) (bo ro hd pp cc : Addr) (r w : Nat → Addr) (R Z : Nat → List PR) (W : Nat → Addr → Prop) (n m : Nat) (ps cu : List (List Nat)) : Prop where
  bo_ : H bo = some (.lst [.ref (r 0), .ref (r 1)])
  ro_ : H ro = some (.lst [.ref (w 0), .ref (w 1)])
  sa : ∀ i, i < 2 → SA C H (r i) (R i) n (W i)
  rw_ : ∀ i, i < 2 → ∃ vs, H (w i) = some (.lst vs) ∧ vs.length ≤ n ∧ A2 (PRAt H) vs (Z i)
  cu_ : ∀ i, i < 2 → ∀ z ∈ R i, z.2.2.1 ∈ cu
  dj : ∀ p, W 0 p → ¬ W 1 p
  hh : Held H hd (fun p => p = hd ∨ p = ro) m
  ap : ro ≠ hd ∧ bo ≠ hd ∧ bo ≠ ro ∧ pp ≠ hd ∧ pp ≠ ro ∧ cc ≠ hd ∧ cc ≠ ro ∧ ∀ i, i < 2 → w i ≠ hd ∧ w i ≠ ro
  ps_ : Txs H pp ps 300
  cs_ : Txs H cc cu 10
  ln : 2 ≤ ps.length ∧ ps.length ≤ 11 ∧ cu.length = 3
section
variable {C : Addr} {H H' : Hp} {bo ro hd pp cc : Addr} {r w : Nat → Addr} {R Z : Nat → List PR} {W : Nat → Addr → Prop} {n m : Nat} {ps cu : List (List Nat)}
theorem PRAt.mv {v : V} {z : PR} (h : PRAt H v z) (k : ∀ t l, H t = some (.tup l) → H' t = some (.tup l)) : PRAt H' v z := by
  obtain ⟨t, e, h⟩ := h; exact ⟨t, e, k _ _ h⟩
theorem Held.hd_ {av : Addr → Prop} (h : Held H hd av m) : ∃ hs, H hd = some (.lst hs) := let ⟨hs, e, _⟩ := h; ⟨hs, e⟩
theorem LS.told (L : LS C H bo ro hd pp cc r w R Z W n m ps cu) (k : Kp (fun p => p = hd) H H') (h : Held H' hd (fun p => p = hd ∨ p = ro) (m + 1)) : LS C H' bo ro hd pp cc r w R Z W n (m + 1) ps cu := by
  obtain ⟨hs, ehd⟩ := L.hh.hd_
  have nl : ∀ {p : Addr} {o : HO}, H p = some o → (∀ l, o ≠ .lst l) → H' p = some o := fun {p o} e ne => k p o e fun z => by
    rw [z, ehd] at e; cases e; exact ne _ rfl
  obtain ⟨a1, a2, a3, a4, a5, a6, a7, a8⟩ := L.ap
  refine ⟨k _ _ L.bo_ a2, k _ _ L.ro_ a1, fun i hi => (L.sa i hi).mv fun p o e hp => k p o e fun z => ?_, fun i hi => ?_, L.cu_, L.dj, h, L.ap, ⟨k _ _ L.ps_.1 a4, L.ps_.2⟩, ⟨k _ _ L.cs_.1 a6, L.cs_.2⟩, L.ln⟩
  · rw [z, ehd] at e; cases e
    rcases hp with hp | hp
    · obtain ⟨u, hu, du⟩ := (L.sa i hi).dict hp
      rw [z, ehd] at hu; cases hu; cases du
    · obtain ⟨dx, b, kvs, h1, _⟩ := (L.sa i hi).ex
      rw [← hp, z, ehd] at h1; cases h1
  · obtain ⟨vs, e1, e2, e3⟩ := L.rw_ i hi
    exact ⟨vs, k _ _ e1 (a8 i hi).1, e2, A2.map_ (fun _ _ x => x.mv fun t l e => nl e fun _ q => nomatch q) e3⟩
def up {α : Type} (f : Nat → α) (j : Nat) (x : α) : Nat → α := fun i => if i = j then x else f i
theorem gY {α : Type} (f : Nat → α) (j : Nat) (x : α) : up f j x j = x := if_pos rfl
theorem gW {α : Type} (f : Nat → α) {j i : Nat} (x : α) (h : i ≠ j) : up f j x i = f i := if_neg h
theorem LS.put {j : Nat} (hj : j < 2) {X : List PR} {W' : Addr → Prop} {d : Nat} (L : LS C H bo ro hd pp cc r w R Z W n m ps cu) (S : SA C H' (r j) (R j ++ X) (n + d) W') (hf : ∀ p, W' p → W j p ∨ H p = none) (k : Kp (W j) H H') (hX : ∀ z ∈ X, z.2.2.1 ∈ cu) :
    LS C H' bo ro hd pp cc r w (up R j (R j ++ X)) Z (up W j W') (n + d) m ps cu := by
  have kd : ∀ {p : Addr} {o : HO}, H p = some o → isD o = false → H' p = some o := fun {p o} e1 e2 => k p o e1 fun z => by
    obtain ⟨u, hu, du⟩ := (L.sa j hj).dict z
    rw [e1] at hu; cases hu; rw [e2] at du; cases du
  have dj : ∀ i, i < 2 → i ≠ j → ∀ p, W i p → ¬ W j p := fun i hi ne p h1 h2 => by
    rcases (by omega : (i = 0 ∧ j = 1) ∨ (i = 1 ∧ j = 0)) with ⟨rfl, rfl⟩ | ⟨rfl, rfl⟩
    · exact L.dj p h1 h2
    · exact L.dj p h2 h1
  have dj2 : ∀ i, i < 2 → i ≠ j → ∀ p, W i p → ¬ W' p := fun i hi ne p h1 h2 => by
    rcases hf p h2 with h | h
    · exact dj i hi ne p h1 h
    · obtain ⟨u, hu, _⟩ := (L.sa i hi).dict h1
      rw [hu] at h; cases h
  refine ⟨kd L.bo_ rfl, kd L.ro_ rfl, fun i hi => ?_, fun i hi => ?_, fun i hi z mz => ?_, fun p h0 h1 => ?_, ?_, L.ap, ⟨kd L.ps_.1 rfl, L.ps_.2⟩, ⟨kd L.cs_.1 rfl, L.cs_.2⟩, L.ln⟩
  · by_cases e : i = j
    · subst e; rw [gY, gY]; exact S
    · rw [gW _ _ e, gW _ _ e]
      refine ((L.sa i hi).mv fun p o e1 hp => ?_).le (Nat.le_add_right _ _)
      rcases hp with hp | hp
      · exact k p o e1 (dj i hi e p hp)
      · obtain ⟨dx, b, kvs, h1, _⟩ := (L.sa i hi).ex
        rw [hp] at e1 ⊢
        rw [h1] at e1; cases e1; exact kd h1 rfl
  · obtain ⟨vs, e1, e2, e3⟩ := L.rw_ i hi
    exact ⟨vs, kd e1 rfl, Nat.le_trans e2 (Nat.le_add_right _ _), A2.map_ (fun _ _ x => x.mv fun t l e => kd e rfl) e3⟩
  · by_cases e : i = j
    · subst e; rw [gY] at mz
      rcases List.mem_append.mp mz with mz | mz
      · exact L.cu_ i hi z mz
      · exact hX z mz
    · rw [gW _ _ e] at mz; exact L.cu_ i hi z mz
  · rcases (by omega : j = 0 ∨ j = 1) with rfl | rfl
    · rw [gY] at h0; rw [gW _ _ (by decide)] at h1
      exact dj2 1 (by decide) (by decide) p h1 h0
    · rw [gY] at h1; rw [gW _ _ (by decide)] at h0
      exact dj2 0 (by decide) (by decide) p h0 h1
  · obtain ⟨hs, e1, e2, e3⟩ := L.hh
    exact ⟨hs, kd e1 rfl, e2, fun v mv => let ⟨t, x, y, ls, e, n3, n4, n5, h3, h4, h5⟩ := e3 v mv; ⟨t, x, y, ls, e, n3, n4, n5, kd h3 rfl, kd h4 rfl, kd h5 rfl⟩⟩
theorem LS.rows {j : Nat} (hj : j < 2) {w' : Addr} {vs' : List V} {Z' : List PR} (L : LS C H bo ro hd pp cc r w R Z W n m ps cu) (hw : H w' = some (.lst vs')) (lw : vs'.length ≤ n) (hA : A2 (PRAt H) vs' Z') (nw : w' ≠ hd ∧ w' ≠ ro) :
    LS C (upd H ro (.lst [.ref (up w j w' 0), .ref (up w j w' 1)])) bo ro hd pp cc r (up w j w') R (up Z j Z') W n m ps cu := by
  obtain ⟨a1, a2, a3, a4, a5, a6, a7, a8⟩ := L.ap
  have nl : ∀ {p : Addr} {o : HO}, H p = some o → (∀ l, o ≠ .lst l) → upd H ro (.lst [.ref (up w j w' 0), .ref (up w j w' 1)]) p = some o := fun {p o} e ne => by
    rw [ai fun z => by rw [z, L.ro_] at e; cases e; exact ne _ rfl]; exact e
  have pr : ∀ v z, PRAt H v z → PRAt (upd H ro (.lst [.ref (up w j w' 0), .ref (up w j w' 1)])) v z := fun _ _ x => x.mv fun t l e => nl e fun _ q => nomatch q
  refine ⟨(ai a3).trans L.bo_, ad, fun i hi => (L.sa i hi).mv fun p o e hp => ?_, fun i hi => ?_, L.cu_, L.dj, ?_, ⟨a1, a2, a3, a4, a5, a6, a7, fun i hi => ?_⟩, ⟨(ai a5).trans L.ps_.1, L.ps_.2⟩, ⟨(ai a7).trans L.cs_.1, L.cs_.2⟩, L.ln⟩
  · rw [ai fun z => ?_]; exact e
    rcases hp with hp | hp
    · obtain ⟨u, hu, du⟩ := (L.sa i hi).dict hp
      rw [z, L.ro_] at hu; cases hu; cases du
    · obtain ⟨dx, b, kvs, h1, _⟩ := (L.sa i hi).ex
      rw [← hp, z, L.ro_] at h1; cases h1
  · by_cases e : i = j
    · subst e; rw [gY, gY]
      exact ⟨vs', (ai nw.2).trans hw, lw, A2.map_ pr hA⟩
    · rw [gW _ _ e, gW _ _ e]
      obtain ⟨vs, e1, e2, e3⟩ := L.rw_ i hi
      exact ⟨vs, (ai (a8 i hi).2).trans e1, e2, A2.map_ pr e3⟩
  · obtain ⟨hs, e1, e2, e3⟩ := L.hh
    exact ⟨hs, (ai (Ne.symm a1)).trans e1, e2, fun v mv => let ⟨t, x, y, ls, e, n3, n4, n5, h3, h4, h5⟩ := e3 v mv; ⟨t, x, y, ls, e, n3, n4, n5, (ai fun z => n3 (.inr z)).trans h3, (ai fun z => n4 (.inr z)).trans h4, (ai fun z => n5 (.inr z)).trans h5⟩⟩
  · by_cases e : i = j
    · subst e; rw [gY]; exact nw
    · rw [gW _ _ e]; exact a8 i hi
theorem LS.le {m' : Nat} (L : LS C H bo ro hd pp cc r w R Z W n m ps cu) (h : m ≤ m') : LS C H bo ro hd pp cc r w R Z W n m' ps cu :=
  ⟨L.bo_, L.ro_, L.sa, L.rw_, L.cu_, L.dj, let ⟨hs, e1, e2, e3⟩ := L.hh; ⟨hs, e1, Nat.le_trans e2 h, e3⟩, L.ap, L.ps_, L.cs_, L.ln⟩
theorem LS.same (L : LS C H bo ro hd pp cc r w R Z W n m ps cu) (s : Same H H') : LS C H' bo ro hd pp cc r w R Z W n m ps cu := by
  refine ⟨s _ _ L.bo_, s _ _ L.ro_, fun i hi => (L.sa i hi).same s, fun i hi => ?_, L.cu_, L.dj, ?_, L.ap, L.ps_.same s, L.cs_.same s, L.ln⟩
  · obtain ⟨vs, e1, e2, e3⟩ := L.rw_ i hi
    exact ⟨vs, s _ _ e1, e2, A2.map_ (fun _ _ x => x.same s) e3⟩
  · obtain ⟨hs, e1, e2, e3⟩ := L.hh
    exact ⟨hs, s _ _ e1, e2, fun v mv => let ⟨t, x, y, ls, e, n3, n4, n5, h3, h4, h5⟩ := e3 v mv; ⟨t, x, y, ls, e, n3, n4, n5, s _ _ h3, s _ _ h4, s _ _ h5⟩⟩
end
end
section
variable {P : Program} {w : World} {K : PySem.W.Frag} {mg : Str → Option Value} {base : Heap} {a : Adr}
open K3
abbrev sig (sc : Addr) (bs : Int) (pp cc bo ro hd : Addr) (x7 x8 x9 x10 x11 x12 x13 x14 x15 : Option V) : St := [some (.ref sc), some (.int bs), some (.ref pp), some (.ref cc), some (.ref bo), some (.ref ro), some (.ref hd), x7, x8, x9, x10, x11, x12, x13, x14, x15]
theorem oz {Rel : V → Unit → Prop} : ∀ (hs : List V), (∀ v ∈ hs, Rel v ()) → A2 Rel hs (hs.map fun _ => ())
  | [], _ => .nil
  | v :: r, h => .cons (h v (.head _)) (oz r fun u m => h u (.tail _ m))
theorem wI (T : Txt K mg a) {cdv : Value} {A : Around} {outer : List Env} {s : Shared} {H : Hp} {E : XK} (hr : Room 9 (A.deeper (PyProof.Rows.envOfC "law" (ae bn) s.heap.objs.size a.bW cdv))) : ∃ u, PSs (bY (XE P w) P w K mg base ["_law_script", "_law_base", "_law_paths_here", "_law_currencies_here", "_law_both", "_law_rows_here", "_law_held", "_law_k", "_law_cell", "_law_at", "_law_path", "_law_currency", "_law_stretch_here", "_law_turn", "_law_month", "_law_some_rows"] "law" (ae bn) a.bW cdv A outer s H E) (List.drop 8 (aB bn)) u ∧
    ∀ (D : d4) sc bs pp cc bo ro hd x7 x8 x9 x10 x11 x12 x13 x14 x15 m H1, Held H1 hd (fun p => p = hd ∨ p = ro) m → m ≤ 500 → (∀ H', D.rt (.bl true) H') → u D (sig sc bs pp cc bo ro hd x7 x8 x9 x10 x11 x12 x13 x14 x15) H1 := by
  have sz : 1000 < sizeLine := by rw [sizeLine_eq]; decide
  have ND := dX.nd
  have HU : (bY (XE P w) P w K mg base ["_law_script", "_law_base", "_law_paths_here", "_law_currencies_here", "_law_both", "_law_rows_here", "_law_held", "_law_k", "_law_cell", "_law_at", "_law_path", "_law_currency", "_law_stretch_here", "_law_turn", "_law_month", "_law_some_rows"] "law" (ae bn) a.bW cdv A outer s H E).A.units + 100 < cLine := bp hr
  have G__law_told := bG (P := P) (w := w) (base := base) T
  have b__law_told := bF T.a_
  have G_Sums_put := cD (P := P) (w := w) (base := base) T
  have b_Sums_put := cA T.cz
  have G__law_day := cC (P := P) (w := w) (base := base) T
  have b__law_day := cB T.cg
  have G__law_mixed := bA (P := P) (w := w) (base := base) T
  have b__law_mixed := bx T.az
  have G__law_rows := ck (P := P) (w := w) (base := base) T
  have b__law_rows := cm T.bR
  have G__law_stretch := bE (P := P) (w := w) (base := base) T
  have b__law_stretch := bD T.bm
  have G_Sums___init__ := ba (P := P) (w := w) (base := base) T
  have b_Sums___init__ := bc T.aT
  have G__law_currencies := aM (P := P) (w := w) (base := base) T
  have b__law_currencies := aL T.aE
  have G__law_cell_at := aX (P := P) (w := w) (base := base) T
  have b__law_cell_at := aV T.ay
  have G__law_paths := bz (P := P) (w := w) (base := base) T
  have b__law_paths := bB T.bh
  refine ⟨_, (al (aQ (bj (tD K rfl) rfl T.xL vK (FA.pa (aa (cq rfl (cl := _) (x := "_law_pair") (xs := ["_law_pair"]) (fr := []) (ks := []) (by exact ⟨rfl, by decide +kernel, rfl, by decide +kernel, rfl, cw rfl, rfl, aK rfl, aK (k := fun y => List.lookup y _) rfl, cy rfl⟩) rfl (cT K (fv 6)) (fun _ _ _ _ _ => (aF (i := 0) (dw (l := ["_law_pair"]) (by decide)) rfl (Or.inl rfl))) (fun _ _ _ _ _ => gm) (fun _ _ _ _ _ => (ef (ci K HU) (aH (ao K) (fv 0) ac (fun _ _ => rfl)) (aH (ao K) (fv 0) ac (fun _ _ => rfl)) (bg _)))) ah))))), fun D sc bs pp cc bo ro hd x7 x8 x9 x10 x11 x12 x13 x14 x15 m H1 hH lm k => ?_⟩
  obtain ⟨hs, e1, e2, e3⟩ := hH
  walk_at "rd"
  refine jp hd hs (hs.map fun _ => ()) (fun v _ => v ∈ hs) (fun _ => true) (fun _ _ => .bl true) (fun k h => h) e1 (oz hs fun v mv => mv) (by omega) (fun v b mb hb G kk sG r => r) (fun v b mb hb _ G kk sG r => ?_) fun D1 ws hD1 b1 => ?_
  · obtain ⟨t, x, y, ls, rfl, _, _, _, h3, h4, h5⟩ := e3 v hb
    have h3 := sG _ _ h3
    have h4 := sG _ _ h4
    have h5 := sG _ _ h5
    walk_at "rd"
    refine ⟨_, _, .inl (SqL.of h3), aA (j := 0) rfl, _, _, .inl (SqL.of h3), aA (j := 1) rfl, ?_⟩
    walk_at "rd"
    exact ⟨_, EqR.flatL (SqL.of h4) (SqL.of h5) (by simp [cj]), r⟩
  · have b1 := kA (g := fun _ : Unit => V.bl true) (fun _ _ => rfl) b1
    walk_at "rd"
    refine ⟨((hs.map fun _ => ()).filter fun _ => true).map fun _ => true, SqL.of (by rw [ad, b1, List.map_map]; rfl), ?_⟩
    rw [List.all_eq_true.mpr fun x mx => by obtain ⟨_, _, rfl⟩ := List.mem_map.mp mx; rfl]
    exact k _
theorem at2 {x y : V} {j : Nat} (h : j < 2) : atI [x, y] (j : Int) = some (if j = 0 then x else y) := by
  rcases (by omega : j = 0 ∨ j = 1) with rfl | rfl
  · exact aA (j := 0) rfl
  · exact aA (j := 1) rfl
theorem iG {f : Nat → Addr} {j : Nat} (h : j < 2) : atI [V.ref (f 0), V.ref (f 1)] (j : Int) = some (.ref (f j)) := by
  rcases (by omega : j = 0 ∨ j = 1) with rfl | rfl
  · exact aA (j := 0) rfl
  · exact aA (j := 1) rfl
theorem wM (T : Txt K mg a) {cdv : Value} {A : Around} {outer : List Env} {s : Shared} {H : Hp} {E : XK} (hr : Room 9 (A.deeper (PyProof.Rows.envOfC "law" (ae bn) s.heap.objs.size a.bW cdv))) : ∃ u, PSs (bY (XE P w) P w K mg base ["_law_script", "_law_base", "_law_paths_here", "_law_currencies_here", "_law_both", "_law_rows_here", "_law_held", "_law_k", "_law_cell", "_law_at", "_law_path", "_law_currency", "_law_stretch_here", "_law_turn", "_law_month", "_law_some_rows"] "law" (ae bn) a.bW cdv A outer s H E) (List.drop 7 (aB bn)) u ∧
    ∀ (D : d4) sc (bs : Int) pp cc bo ro hd x7 x8 x9 x10 x11 x12 x13 x14 x15 r w R W n m ps cu H1, LS a.aO H1 bo ro hd pp cc r w R R W n m ps cu → n ≤ 90 → m ≤ 100 → 0 ≤ bs → (∀ H', D.rt (.bl true) H') → u D (sig sc bs pp cc bo ro hd x7 x8 x9 x10 x11 x12 x13 x14 x15) H1 := by
  have sz : 1000 < sizeLine := by rw [sizeLine_eq]; decide
  have ND := dX.nd
  have HU : (bY (XE P w) P w K mg base ["_law_script", "_law_base", "_law_paths_here", "_law_currencies_here", "_law_both", "_law_rows_here", "_law_held", "_law_k", "_law_cell", "_law_at", "_law_path", "_law_currency", "_law_stretch_here", "_law_turn", "_law_month", "_law_some_rows"] "law" (ae bn) a.bW cdv A outer s H E).A.units + 100 < cLine := bp hr
  have G__law_told := bG (P := P) (w := w) (base := base) T
  have b__law_told := bF T.a_
  have G_Sums_put := cD (P := P) (w := w) (base := base) T
  have b_Sums_put := cA T.cz
  have G__law_day := cC (P := P) (w := w) (base := base) T
  have b__law_day := cB T.cg
  have G__law_mixed := bA (P := P) (w := w) (base := base) T
  have b__law_mixed := bx T.az
  have G__law_rows := ck (P := P) (w := w) (base := base) T
  have b__law_rows := cm T.bR
  have G__law_stretch := bE (P := P) (w := w) (base := base) T
  have b__law_stretch := bD T.bm
  have G_Sums___init__ := ba (P := P) (w := w) (base := base) T
  have b_Sums___init__ := bc T.aT
  have G__law_currencies := aM (P := P) (w := w) (base := base) T
  have b__law_currencies := aL T.aE
  have G__law_cell_at := aX (P := P) (w := w) (base := base) T
  have b__law_cell_at := aV T.ay
  have G__law_paths := bz (P := P) (w := w) (base := base) T
  have b__law_paths := bB T.bh
  obtain ⟨u8, hu8, k8⟩ := wI (P := P) (w := w) (base := base) T (cdv := cdv) (A := A) (outer := outer) (s := s) (H := H) (E := E) hr
  refine ⟨_, (ag (d8 (by passes_own) rfl (cP rfl T.dE (FA.pa (aa ac ah))) (aF (i := 9) ND rfl (Or.inl rfl)) (al (d8 (by passes_own) rfl (cT K (af j5 (dP (rg K) (fv 2) eX (eU ac)) (bP (FA.pa (aa (cX [110, 111, 98, 111, 100, 121]) ah))))) (aF (i := 10) ND rfl (Or.inl rfl)) (al (cO (fH (fw (aq G__law_told (hr.mono (by decide)) rfl T.dF T.a_.kp b__law_told .nil aN (FA.pa (aa (aH (ao K) (fv 4) (fv 9) (fun _ _ => rfl)) (aa (aH (ao K) (fv 5) (fv 9) (fun _ _ => rfl)) (aa (fv 10) (aa (aH (ao K) (fv 3) (fv 9) (fun _ _ => rfl)) (aa (eF (FA.pa (aa (fv 1) (aa (af aw (fv 1) ac) ah)))) (aa (fv 6) (aa (af aw (fv 1) (bj (eW K) rfl T.jk gt (FA.pa (aa (aH (ao K) (fv 5) (fv 9) (fun _ _ => rfl)) ah)))) ah))))))))))) (al (aQ gX)) bQ)))))
      hu8), fun D sc bs pp cc bo ro hd x7 x8 x9 x10 x11 x12 x13 x14 x15 r w R W n m ps cu H1 L ln lm b0 k => ?_⟩
  walk_at "rd"
  refine eI ?_
  walk_at "rd"
  refine c_ (lo := 0) (n := 2) (fun i σ' H' => ∃ x7 x8 x9 x10 x11 x12 x13 x14 x15, LS a.aO H' bo ro hd pp cc r w R R W n (m + 5 * i) ps cu ∧ σ' = sig sc bs pp cc bo ro hd x7 x8 x9 x10 x11 x12 x13 x14 x15) ⟨_, _, _, _, _, _, _, _, _, L, rfl⟩ ?_ ?_
  · rintro i σ' H' hi ⟨x7, x8, x9, x10, x11, x12, x13, x14, x15, L1, rfl⟩
    refine nR ?_
    walk_at "rd"
    have l11 := L1.ln
    refine ⟨pp, _, rfl, SqL.of L1.ps_.1, fun p1 h1 => ?_⟩
    rw [kM _ (by decide)]
    have s1 := aj (HO.lst ((ps.map L2.T).take (Int.toNat 4))) h1
    have g1 : upd H' p1 (HO.lst ((ps.map L2.T).take (Int.toNat 4))) p1 = some (HO.lst ((ps.map L2.T).take (Int.toNat 4))) := ad
    generalize upd H' p1 (HO.lst ((ps.map L2.T).take (Int.toNat 4))) = G1 at s1 g1 ⊢
    refine ⟨by omega, fun p2 h2 => ?_⟩
    have s2 := aj (HO.lst [L2.T [110, 111, 98, 111, 100, 121]]) h2
    have g2 : upd G1 p2 (HO.lst [L2.T [110, 111, 98, 111, 100, 121]]) p2 = some (HO.lst [L2.T [110, 111, 98, 111, 100, 121]]) := ad
    generalize upd G1 p2 (HO.lst [L2.T [110, 111, 98, 111, 100, 121]]) = G2 at s2 g2 ⊢
    refine ⟨_, _, s2 _ _ g1, g2, by rw [List.length_take, List.length_map]; show _ + 1 ≤ _; omega, fun p3 h3 => ?_⟩
    have s3 := (s1.trans s2).trans (aj (HO.lst ((ps.map L2.T).take (Int.toNat 4) ++ [L2.T [110, 111, 98, 111, 100, 121]])) h3)
    have g3 : upd G2 p3 (HO.lst ((ps.map L2.T).take (Int.toNat 4) ++ [L2.T [110, 111, 98, 111, 100, 121]])) p3 = some (.lst ((ps.take 4 ++ [[110, 111, 98, 111, 100, 121]]).map L2.T)) := by rw [ad, List.map_append, List.map_take]; rfl
    have n3 : hd ≠ p3 := by
      obtain ⟨hs, e1⟩ := L1.hh.hd_
      exact ak ((s1.trans s2) _ _ e1) h3
    generalize upd G2 p3 (HO.lst ((ps.map L2.T).take (Int.toNat 4) ++ [L2.T [110, 111, 98, 111, 100, 121]])) = G3 at s3 g3 ⊢
    have L3 := L1.same s3
    have lp : (ps.take 4 ++ [[110, 111, 98, 111, 100, 121]]).length ≤ 5 := by rw [List.length_append, List.length_take]; show _ + 1 ≤ 5; omega
    refine ⟨p3, rfl, ⟨_, SqL.of g3⟩, oA (xs := (ps.take 4 ++ [[110, 111, 98, 111, 100, 121]]).map L2.T) (fun j σ' G => G p3 = some (.lst ((ps.take 4 ++ [[110, 111, 98, 111, 100, 121]]).map L2.T)) ∧ ∃ x10, LS a.aO G bo ro hd pp cc r w R R W n (m + 5 * i + j) ps cu ∧ σ' = sig sc bs pp cc bo ro hd x7 x8 (some (.int (0 + (i : Int)))) x10 x11 x12 x13 x14 x15) ⟨g3, x10, L3, rfl⟩ (fun j σ' G h => SqL.of h.1) ?_ ?_⟩
    · rintro j x σ' G hx ⟨gp, y10, LG, rfl⟩
      rw [List.getElem?_map] at hx
      obtain ⟨l, hl, rfl⟩ := Option.map_eq_some_iff.mp hx
      have jl := (List.getElem?_eq_some_iff.mp hl).1
      obtain ⟨vs, e1, e2, e3⟩ := LG.rw_ i hi
      obtain ⟨cu1, hc1, ec⟩ := nj (cu := cu) i (by omega)
      have i0 : (0 : Int) + (i : Int) = (i : Int) := Int.zero_add _
      walk_at "rd"
      simp only [i0]
      refine ⟨_, _, .inl (SqL.of LG.bo_), iG hi, _, _, .inl (SqL.of LG.ro_), iG hi, _, _, .inl (SqL.of LG.cs_.1), ec, ?_⟩
      walk_at "rd"
      refine ⟨by omega, fun p4 h4 => ?_⟩
      have s4 := aj (HO.tup [V.int bs, V.int (bs + 3)]) h4
      have g4 : upd G p4 (HO.tup [V.int bs, V.int (bs + 3)]) p4 = some (HO.tup [V.int bs, V.int (bs + 3)]) := ad
      generalize upd G p4 (HO.tup [V.int bs, V.int (bs + 3)]) = G4 at s4 g4 ⊢
      have L4 := LG.same s4
      obtain ⟨vs4, f1, f2, f3⟩ := L4.rw_ i hi
      refine ⟨_, _, .inl (SqL.of L4.ro_), iG hi, ?_⟩
      walk_at "rd"
      refine ⟨_, .inl (SqL.of f1), ?_⟩
      walk_at "rd"
      obtain ⟨dx, b, kvs, hr0, _⟩ := (L4.sa i hi).ex
      obtain ⟨hs, ehd⟩ := L4.hh.hd_
      refine ⟨R i, n, W i, bs, bs + 3, vs4, _, _, L4.sa i hi, by omega, f1, by omega, f3, g4, pL L4.ln.2.2 (L4.cu_ i hi), L4.hh, .inl rfl, ?_, by omega, hJ hr0 ehd (fun z => nomatch z), (L4.ap.2.2.2.2.2.2.2 i hi).1, fun H9 k9 h9 => ⟨k9 _ _ (s4 _ _ gp) (Ne.symm n3), _, L4.told k9 h9, rfl⟩⟩
      rintro p (rfl | rfl) z
      · rw [ehd] at z; cases z
      · rw [L4.ro_] at z; cases z
    · rintro σ' G ⟨gp, y10, LG, rfl⟩
      exact ⟨_, _, _, _, _, _, _, _, _, LG.le (by rw [List.length_map]; omega), rfl⟩
  · rintro σ' H' ⟨x7, x8, x9, x10, x11, x12, x13, x14, x15, L1, rfl⟩
    exact k8 D sc bs pp cc bo ro hd _ _ _ _ _ _ _ _ _ _ H' L1.hh (by omega) k
end
section
variable {P : Program} {w : World} {K : PySem.W.Frag} {mg : Str → Option Value} {base : Heap} {a : Adr}
open K3
def xW : Stmt → List Stmt
  | .For _ _ b _ _ => b
  | _ => []
noncomputable abbrev oy : List Stmt := xW ((aB bn).getD 6 (.Pass ⟨0, 0, 0, 0⟩))
def Scr (K : PySem.W.Frag) (H : Hp) (sc hd ro : Addr) (xs : List V) : Prop := SqL K H sc xs ∧ ((∀ H', SqL K H' sc xs) ∨ (sc ≠ hd ∧ sc ≠ ro))
theorem Scr.kp {H H' : Hp} {sc hd ro : Addr} {xs : List V} {M : Addr → Prop} (h : Scr K H sc hd ro xs) (k : Kp M H H') (hm : M sc → sc = hd ∨ sc = ro ∨ ∃ u, H sc = some u ∧ isD u = true) : Scr K H' sc hd ro xs := by
  rcases h with ⟨h, h2 | ⟨n1, n2⟩⟩
  · exact ⟨h2 _, .inl h2⟩
  · refine ⟨?_, .inr ⟨n1, n2⟩⟩
    have hm : M sc → ∃ u, H sc = some u ∧ isD u = true := fun m => (hm m).elim (absurd · n1) (·.elim (absurd · n2) id)
    rcases h with (h | ⟨o, h⟩) | h
    · exact .inl (.inl (k _ _ h fun m => by obtain ⟨u, e, hu⟩ := hm m; rw [h] at e; cases e; cases hu))
    · exact .inl (.inr ⟨o, k _ _ h fun m => by obtain ⟨u, e, hu⟩ := hm m; rw [h] at e; cases e; cases hu⟩)
    · exact .inr h
theorem Scr.same {H H' : Hp} {sc hd ro : Addr} {xs : List V} (h : Scr K H sc hd ro xs) (s : Same H H') : Scr K H' sc hd ro xs := ⟨h.1.same s, h.2⟩
theorem LS.tell {C : Addr} {H : Hp} {bo ro hd pp cc : Addr} {r w : Nat → Addr} {R : Nat → List PR} {W : Nat → Addr → Prop} {n m : Nat} {ps cu : List (List Nat)} {j : Nat} (hj : j < 2) (L : LS C H bo ro hd pp cc r w R R W n m ps cu) (ln : n ≤ 90) (lm : m ≤ 100) {st : Addr} {lo hi : Int} (hst : H st = some (.tup [.int lo, .int hi])) {Q : Hp → Prop}
    (k : ∀ H', Kp (fun p => p = hd) H H' → LS C H' bo ro hd pp cc r w R R W n (m + 1) ps cu → Q H') : ∃ R n W lo hi vs m av, SA C H (r j) R n W ∧ n ≤ 500 ∧ H (w j) = some (.lst vs) ∧ vs.length ≤ 500 ∧ A2 (PRAt H) vs R ∧ H st = some (.tup [.int lo, .int hi]) ∧ Few R ∧ Held H hd av m ∧ av hd ∧ (∀ p, av p → H p ≠ none) ∧ m ≤ 500 ∧ r j ≠ hd ∧ w j ≠ hd ∧ ∀ H', Kp (fun p => p = hd) H H' → Held H' hd av (m + 1) → Q H' := by
  obtain ⟨vs, f1, f2, f3⟩ := L.rw_ j hj
  obtain ⟨dx, b, kvs, hr0, _⟩ := (L.sa j hj).ex
  obtain ⟨hs, ehd⟩ := L.hh.hd_
  refine ⟨R j, n, W j, lo, hi, vs, _, _, L.sa j hj, by omega, f1, by omega, f3, hst, pL L.ln.2.2 (L.cu_ j hj), L.hh, .inl rfl, ?_, by omega, hJ hr0 ehd (fun z => nomatch z), (L.ap.2.2.2.2.2.2.2 j hj).1, fun H9 k9 h9 => k H9 k9 (L.told k9 h9)⟩
  rintro p (rfl | rfl) z
  · rw [ehd] at z; cases z
  · rw [L.ro_] at z; cases z
theorem m4 {H H' : Hp} {hd p : Addr} {l : List V} {hs : List V} (k : Kp (fun p => p = hd) H H') (e : H hd = some (.lst hs)) (h : H p = some (.tup l)) : H' p = some (.tup l) := k _ _ h fun z => by rw [z, e] at h; cases h
theorem b11 (T : Txt K mg a) {cdv : Value} {A : Around} {outer : List Env} {s : Shared} {H : Hp} {E : XK} (hr : Room 9 (A.deeper (PyProof.Rows.envOfC "law" (ae bn) s.heap.objs.size a.bW cdv))) : ∃ u, PSs (bY (XE P w) P w K mg base ["_law_script", "_law_base", "_law_paths_here", "_law_currencies_here", "_law_both", "_law_rows_here", "_law_held", "_law_k", "_law_cell", "_law_at", "_law_path", "_law_currency", "_law_stretch_here", "_law_turn", "_law_month", "_law_some_rows"] "law" (ae bn) a.bW cdv A outer s H E) (List.drop 11 oy) u ∧
    ∀ (D : d4) sc xs (bs : Int) pp cc bo ro hd x7 x8 (j : Nat) pa c1 st (tn mo : Int) t r w R W n m ps cu vs rs (lo hi : Int) H1, j < 2 → LS a.aO H1 bo ro hd pp cc r w R R W n m ps cu → n ≤ 90 → m ≤ 90 → H1 st = some (.tup [.int lo, .int hi]) → H1 t = some (.tup vs) → A2 (RwAt H1) vs rs → 2 ≤ rs.length → Scr K H1 sc hd ro xs →
      (∀ H', LS a.aO H' bo ro hd pp cc r w R R W n (m + 2) ps cu → Scr K H' sc hd ro xs → D.nx (sig sc bs pp cc bo ro hd x7 x8 (some (.int j)) (some (L2.T pa)) (some (L2.T c1)) (some (.ref st)) (some (.int tn)) (some (.int mo)) (some (.ref t))) H') →
      u D (sig sc bs pp cc bo ro hd x7 x8 (some (.int j)) (some (L2.T pa)) (some (L2.T c1)) (some (.ref st)) (some (.int tn)) (some (.int mo)) (some (.ref t))) H1 := by
  have sz : 1000 < sizeLine := by rw [sizeLine_eq]; decide
  have ND := dX.nd
  have HU : (bY (XE P w) P w K mg base ["_law_script", "_law_base", "_law_paths_here", "_law_currencies_here", "_law_both", "_law_rows_here", "_law_held", "_law_k", "_law_cell", "_law_at", "_law_path", "_law_currency", "_law_stretch_here", "_law_turn", "_law_month", "_law_some_rows"] "law" (ae bn) a.bW cdv A outer s H E).A.units + 100 < cLine := bp hr
  have G__law_told := bG (P := P) (w := w) (base := base) T
  have b__law_told := bF T.a_
  have G_Sums_put := cD (P := P) (w := w) (base := base) T
  have b_Sums_put := cA T.cz
  have G__law_day := cC (P := P) (w := w) (base := base) T
  have b__law_day := cB T.cg
  have G__law_mixed := bA (P := P) (w := w) (base := base) T
  have b__law_mixed := bx T.az
  have G__law_rows := ck (P := P) (w := w) (base := base) T
  have b__law_rows := cm T.bR
  have G__law_stretch := bE (P := P) (w := w) (base := base) T
  have b__law_stretch := bD T.bm
  have G_Sums___init__ := ba (P := P) (w := w) (base := base) T
  have b_Sums___init__ := bc T.aT
  have G__law_currencies := aM (P := P) (w := w) (base := base) T
  have b__law_currencies := aL T.aE
  have G__law_cell_at := aX (P := P) (w := w) (base := base) T
  have b__law_cell_at := aV T.ay
  have G__law_paths := bz (P := P) (w := w) (base := base) T
  have b__law_paths := bB T.bh
  refine ⟨_, (ag (cO (fH (fw (aq G__law_told (hr.mono (by decide)) rfl T.dF T.a_.kp b__law_told .nil aN (FA.pa (aa (aH (ao K) (fv 4) (fv 9) (fun _ _ => rfl)) (aa (aH (ao K) (fv 5) (fv 9) (fun _ _ => rfl)) (aa (fv 10) (aa (fv 11) (aa (fv 12) (aa (fv 6) (aa (af au (fv 13) ac) ah))))))))))) (al (aQ gX)) bQ)
      (al (cO (fH (fw (aq G__law_told (hr.mono (by decide)) rfl T.dF T.a_.kp b__law_told .nil aN (FA.pa (aa (aH (ao K) (fv 4) (fv 9) (fun _ _ => rfl)) (aa (aH (ao K) (fv 5) (fv 9) (fun _ _ => rfl)) (aa (aH (ao K) (aH (ao K) (fv 15) ac (fun _ _ => rfl)) ac (fun _ _ => rfl)) (aa (aH (ao K) (aH (ao K) (fv 15) ac (fun _ _ => rfl)) ac (fun _ _ => rfl)) (aa (eF (FA.pa (aa (fv 14) (aa (fv 14) ah)))) (aa (fv 6) (aa (af au (fv 13) ac) ah))))))))))) (al (aQ gX)) bQ))), fun D sc xs bs pp cc bo ro hd x7 x8 j pa c1 st tn mo t r w R W n m ps cu vs rs lo hi H1 hj L ln lm hst ht hA lr hS k => ?_⟩
  obtain ⟨hs, ehd⟩ := L.hh.hd_
  walk_at "rd"
  refine ⟨_, _, .inl (SqL.of L.bo_), iG hj, _, _, .inl (SqL.of L.ro_), iG hj, ?_⟩
  walk_at "rd"
  refine L.tell hj ln (by omega) hst fun H2 k2 L2' => ?_
  have hS2 := hS.kp k2 fun z => .inl z
  have ht2 := m4 k2 ehd ht
  cases hA with
  | nil => cases lr
  | @cons v0 z0 vr rr h0 hA =>
  obtain ⟨t0, rfl, h0⟩ := h0
  have h02 := m4 k2 ehd h0
  refine ⟨_, _, .inl (SqL.of L2'.bo_), iG hj, _, _, .inl (SqL.of L2'.ro_), iG hj, _, _, .inr (SqT.of ht2), aA (j := 0) rfl, ?_⟩
  walk_at "rd"
  refine ⟨_, _, .inr (SqT.of h02), aA (j := 0) rfl, _, _, .inr (SqT.of ht2), aA (j := 0) rfl, ?_⟩
  walk_at "rd"
  refine ⟨_, _, .inr (SqT.of h02), aA (j := 1) rfl, by omega, fun p3 hp3 => ?_⟩
  have s3 := aj (HO.tup [V.int mo, V.int mo]) hp3
  have g3 : upd H2 p3 (HO.tup [V.int mo, V.int mo]) p3 = some (HO.tup [V.int mo, V.int mo]) := ad
  generalize upd H2 p3 (HO.tup [V.int mo, V.int mo]) = G3 at s3 g3 ⊢
  walk_at "rd"
  refine (L2'.same s3).tell hj ln (by omega) g3 fun H4 k4 L4 => k H4 L4 ((hS2.same s3).kp k4 fun z => .inl z)
theorem uO {α β : Type} {R : α → β → Prop} {xs xs' : List α} {ys ys' : List β} (h : A2 R xs ys) (h' : A2 R xs' ys') : A2 R (xs ++ xs') (ys ++ ys') := by
  induction h with
  | nil => exact h'
  | cons h _ ih => exact .cons h ih
theorem xh {H : Hp} {mo : Int} {ws : List V} {rs : List Rw} (h : A2 (MkAt (fun z : Rw => [V.int mo, L2.T z.1, L2.T z.2.1, .int z.2.2]) H) ws rs) : A2 (PRAt H) ws (rs.map fun z => (mo, z)) := by
  induction h with
  | nil => exact .nil
  | cons h _ ih => exact .cons h ih
theorem b9 (T : Txt K mg a) {cdv : Value} {A : Around} {outer : List Env} {s : Shared} {H : Hp} {E : XK} (hr : Room 9 (A.deeper (PyProof.Rows.envOfC "law" (ae bn) s.heap.objs.size a.bW cdv))) : ∃ u, PSs (bY (XE P w) P w K mg base ["_law_script", "_law_base", "_law_paths_here", "_law_currencies_here", "_law_both", "_law_rows_here", "_law_held", "_law_k", "_law_cell", "_law_at", "_law_path", "_law_currency", "_law_stretch_here", "_law_turn", "_law_month", "_law_some_rows"] "law" (ae bn) a.bW cdv A outer s H E) (List.drop 9 oy) u ∧
    ∀ (D : d4) sc xs (bs : Int) pp cc bo ro hd (kk ce : Int) (j : Nat) pa c1 st (tn mo : Int) t r w R W n m ps cu vs rs (lo hi : Int) H1, j < 2 → LS a.aO H1 bo ro hd pp cc r w R R W n m ps cu → n ≤ 84 → m ≤ 90 → H1 st = some (.tup [.int lo, .int hi]) → H1 t = some (.tup vs) → A2 (RwAt H1) vs rs → 2 ≤ rs.length → rs.length ≤ 6 → (∀ z ∈ rs, z.1 ∈ ps ∧ z.2.1 ∈ cu) → 0 ≤ mo ∧ mo ≤ 4799 → Scr K H1 sc hd ro xs →
      (∀ w' R' W' H', LS a.aO H' bo ro hd pp cc r w' R' R' W' (n + rs.length) (m + 2) ps cu → Scr K H' sc hd ro xs → D.nx (sig sc bs pp cc bo ro hd (some (.int kk)) (some (.int ce)) (some (.int j)) (some (L2.T pa)) (some (L2.T c1)) (some (.ref st)) (some (.int tn)) (some (.int mo)) (some (.ref t))) H') →
      u D (sig sc bs pp cc bo ro hd (some (.int kk)) (some (.int ce)) (some (.int j)) (some (L2.T pa)) (some (L2.T c1)) (some (.ref st)) (some (.int tn)) (some (.int mo)) (some (.ref t))) H1 := by
  have sz : 1000 < sizeLine := by rw [sizeLine_eq]; decide
  have ND := dX.nd
  have HU : (bY (XE P w) P w K mg base ["_law_script", "_law_base", "_law_paths_here", "_law_currencies_here", "_law_both", "_law_rows_here", "_law_held", "_law_k", "_law_cell", "_law_at", "_law_path", "_law_currency", "_law_stretch_here", "_law_turn", "_law_month", "_law_some_rows"] "law" (ae bn) a.bW cdv A outer s H E).A.units + 100 < cLine := bp hr
  have G__law_told := bG (P := P) (w := w) (base := base) T
  have b__law_told := bF T.a_
  have G_Sums_put := cD (P := P) (w := w) (base := base) T
  have b_Sums_put := cA T.cz
  have G__law_day := cC (P := P) (w := w) (base := base) T
  have b__law_day := cB T.cg
  have G__law_mixed := bA (P := P) (w := w) (base := base) T
  have b__law_mixed := bx T.az
  have G__law_rows := ck (P := P) (w := w) (base := base) T
  have b__law_rows := cm T.bR
  have G__law_stretch := bE (P := P) (w := w) (base := base) T
  have b__law_stretch := bD T.bm
  have G_Sums___init__ := ba (P := P) (w := w) (base := base) T
  have b_Sums___init__ := bc T.aT
  have G__law_currencies := aM (P := P) (w := w) (base := base) T
  have b__law_currencies := aL T.aE
  have G__law_cell_at := aX (P := P) (w := w) (base := base) T
  have b__law_cell_at := aV T.ay
  have G__law_paths := bz (P := P) (w := w) (base := base) T
  have b__law_paths := bB T.bh
  obtain ⟨u11, hu11, k11⟩ := b11 (P := P) (w := w) (base := base) T (cdv := cdv) (A := A) (outer := outer) (s := s) (H := H) (E := E) hr
  refine ⟨_, (ag (cO (wK (rZ (de (aH (ao K) (fv 4) (fv 9) (fun _ _ => rfl)) T.cN T.lN G_Sums_put (hr.mono (by decide)) b_Sums_put .nil aN (FA.pa (aa (eF (FA.pa (aa (fv 7) (aa (aq G__law_day (hr.mono (by decide)) rfl T.m_ T.cg.kp b__law_day .nil aN (FA.pa (aa (af au (aq G__law_mixed (hr.mono (by decide)) rfl T.bw T.az.kp b__law_mixed .nil aN (FA.pa (aa (fv 8) (aa ac ah)))) ac) (aa (fv 14) ah)))) (aa (cX []) (aa (fv 15) (aa jT ah))))))) ah))))) (al (aQ gX)) bQ)
      (ag (gv (af j5 (aH (ao K) (fv 5) (fv 9) (fun _ _ => rfl)) (cq rfl (cl := _) (x := "_law_part") (xs := ["_law_part"]) (fr := ["_law_month"]) (ks := [14]) (by exact ⟨rfl, by decide +kernel, rfl, by decide +kernel, rfl, cw rfl, rfl, aK rfl, aK (k := fun y => List.lookup y _) rfl, cy rfl⟩) rfl (oE K (fv 15)) (fun _ _ _ _ _ => (aF (i := 0) (dw (l := ["_law_part", "_law_month"]) (by decide)) rfl (Or.inl rfl))) (fun _ _ _ _ _ => gm) (fun _ _ _ _ _ => (af sF (eF (FA.pa (aa (fv 1) ah))) (fv 0))))) (j_ (fv 5) (fv 9) gf))
      hu11)), fun D sc xs bs pp cc bo ro hd kk ce j pa c1 st tn mo t r w R W n m ps cu vs rs lo hi H1 hj L ln lm hst ht hA lr lr6 hin hmo hS k => ?_⟩
  obtain ⟨hs, ehd⟩ := L.hh.hd_
  walk_at "rd"
  refine ⟨_, _, .inl (SqL.of L.bo_), iG hj, ?_⟩
  walk_at "rd"
  obtain ⟨dx, b, kvs, hr0, _⟩ := (L.sa j hj).ex
  refine ⟨dx, _, hr0, vy _, fun x1 _ _ d H2 d1 d2 s2 => ⟨by omega, fun p hp => ?_⟩⟩
  have s3 := s2.trans (aj (HO.tup [V.int kk, V.int d, L2.T [], V.ref t, V.non]) hp)
  have g3 : upd H2 p (HO.tup [V.int kk, V.int d, L2.T [], V.ref t, V.non]) p = some (HO.tup [V.int kk, V.int d, L2.T [], V.ref t, V.non]) := ad
  generalize upd H2 p (HO.tup [V.int kk, V.int d, L2.T [], V.ref t, V.non]) = G3 at s3 g3 ⊢
  have L3 := L.same s3
  have e0 := wY hmo.1
  have e1 := wC hmo.2
  have em : MO d = mo := ur d1 d2
  refine ⟨R j, n, W j, d, t, vs, rs, _, _, _, L3.sa j hj, by omega, g3, ⟨by omega, by omega⟩, s3 _ _ ht, eT s3 hA, lr6, fun W' H4 S4 f4 k4 => ?_⟩
  rw [em] at S4
  have L4 := L3.put hj S4 f4 k4 fun z mz => by
    obtain ⟨y, my, rfl⟩ := List.mem_map.mp mz
    exact (hin y my).2
  have hS4 := (hS.same s3).kp k4 fun z => .inr (.inr ((L3.sa j hj).dict z))
  have kd : ∀ {p : Addr} {o : HO}, G3 p = some o → isD o = false → H4 p = some o := fun {p o} e1 e2 => k4 p o e1 fun z => by
    obtain ⟨u, hu, du⟩ := (L3.sa j hj).dict z
    rw [e1] at hu; cases hu; rw [e2] at du; cases du
  have ht4 := kd (s3 _ _ ht) rfl
  have hst4 := kd (s3 _ _ hst) rfl
  have hA4 : A2 (RwAt H4) vs rs := A2.map_ (fun _ _ x => by obtain ⟨t, e, h⟩ := x; exact ⟨t, e, kd h rfl⟩) (eT s3 hA)
  have lv := hA.len
  refine ⟨_, _, .inl (SqL.of L4.ro_), iG hj, ?_⟩
  refine yh t vs rs (RwAt H4) (fun z => [V.int mo, L2.T z.1, L2.T z.2.1, .int z.2.2]) (fun k h => h) ht4 hA4 (by omega) (fun v z mz hz G kk sG r => r) (fun v z mz hz G kk sG r => ?_) fun D1 ws G5 hD1 s5 gD a5 => ?_
  · obtain ⟨t1, rfl, h1⟩ := hz
    have h1 := sG _ _ h1
    walk_at "rd"
    refine ⟨by omega, fun p1 hp1 => ⟨_, _, ad, (ai (ak h1 hp1)).trans h1, (fun z => nomatch z), (fun z => nomatch z), by show 1 + 3 ≤ _; omega, fun p2 hp2 => r p2 _ ((aj _ hp1).trans (aj _ hp2)) ad⟩⟩
  · walk_at "rd"
    obtain ⟨vj, e1, e2, e3⟩ := L3.rw_ j hj
    have e1 := kd e1 rfl
    have e3 := A2.map_ (fun _ _ x => PRAt.mv (H' := H4) x fun t l e => kd e rfl) e3
    have lw := a5.len
    refine ⟨_, _, s5 _ _ e1, gD, by omega, fun p6 hp6 => ?_⟩
    have s6 := s5.trans (aj (HO.lst (vj ++ ws)) hp6)
    have g6 : upd G5 p6 (HO.lst (vj ++ ws)) p6 = some (HO.lst (vj ++ ws)) := ad
    have a6 := MkAt.mv (fun t l e => aj (HO.lst (vj ++ ws)) hp6 t _ e) a5
    have n6 : p6 ≠ hd ∧ p6 ≠ ro := ⟨Ne.symm (ak (s5 _ _ (kd (s3 _ _ ehd) rfl)) hp6), Ne.symm (ak (s5 _ _ L4.ro_) hp6)⟩
    generalize upd G5 p6 (HO.lst (vj ++ ws)) = G6 at s6 g6 a6 ⊢
    have L6 := L4.same s6
    have e3 := A2.map_ (fun _ _ x => PRAt.same s6 x) e3
    have L7 := L6.rows hj g6 (by rw [List.length_append]; omega) (uO e3 (xh a6)) n6
    have es : [V.ref (w 0), V.ref (w 1)].set j (.ref p6) = [V.ref (up w j p6 0), V.ref (up w j p6 1)] := by
      rcases (by omega : j = 0 ∨ j = 1) with rfl | rfl <;> rfl
    have ix : ixN [V.ref (w 0), V.ref (w 1)].length (j : Int) = some j := by
      show ixN 2 (j : Int) = some j
      rcases (by omega : j = 0 ∨ j = 1) with rfl | rfl <;> decide
    refine ⟨ro, _, _, j, rfl, rfl, L6.ro_, ix, ?_⟩
    rw [es]
    have kr : ∀ {p : Addr} {l : List V}, G6 p = some (.tup l) → upd G6 ro (.lst [V.ref (up w j p6 0), V.ref (up w j p6 1)]) p = some (.tup l) := fun {p l} e => by
      rw [ai fun z => by rw [z, L6.ro_] at e; cases e]; exact e
    refine k11 D sc xs bs pp cc bo ro hd _ _ j pa c1 st tn mo t r _ _ _ _ m ps cu vs rs lo hi _ hj L7 (by omega) lm (kr (s6 _ _ hst4)) (kr (s6 _ _ ht4)) (A2.map_ (fun _ _ x => by obtain ⟨t, e, h⟩ := x; exact ⟨t, e, kr (s6 _ _ h)⟩) hA4) lr ((hS4.same s6).kp (M := fun p => p = ro) (fun p o e n => (ai n).trans e) fun z => .inr (.inl z)) fun H' L' S' => k _ _ _ H' L' S'
end
section
variable {P : Program} {w : World} {K : PySem.W.Frag} {mg : Str → Option Value} {base : Heap} {a : Adr}
open K3
theorem b7 (T : Txt K mg a) {cdv : Value} {A : Around} {outer : List Env} {s : Shared} {H : Hp} {E : XK} (hr : Room 9 (A.deeper (PyProof.Rows.envOfC "law" (ae bn) s.heap.objs.size a.bW cdv))) : ∃ u, PSs (bY (XE P w) P w K mg base ["_law_script", "_law_base", "_law_paths_here", "_law_currencies_here", "_law_both", "_law_rows_here", "_law_held", "_law_k", "_law_cell", "_law_at", "_law_path", "_law_currency", "_law_stretch_here", "_law_turn", "_law_month", "_law_some_rows"] "law" (ae bn) a.bW cdv A outer s H E) (List.drop 7 oy) u ∧
    ∀ (D : d4) sc xs (bs : Int) pp cc bo ro hd (kk ce : Int) (j : Nat) pa c1 st (tn : Int) x14 x15 r w R W n m ps cu (lo hi : Int) H1, j < 2 → LS a.aO H1 bo ro hd pp cc r w R R W n m ps cu → n ≤ 84 → m ≤ 90 → H1 st = some (.tup [.int lo, .int hi]) → 0 ≤ bs → bs ≤ 4796 → Scr K H1 sc hd ro xs →
      (∀ x14 x15 w' R' W' d H', d ≤ 6 → LS a.aO H' bo ro hd pp cc r w' R' R' W' (n + d) (m + 2) ps cu → Scr K H' sc hd ro xs → D.nx (sig sc bs pp cc bo ro hd (some (.int kk)) (some (.int ce)) (some (.int j)) (some (L2.T pa)) (some (L2.T c1)) (some (.ref st)) (some (.int tn)) x14 x15) H') →
      u D (sig sc bs pp cc bo ro hd (some (.int kk)) (some (.int ce)) (some (.int j)) (some (L2.T pa)) (some (L2.T c1)) (some (.ref st)) (some (.int tn)) x14 x15) H1 := by
  have sz : 1000 < sizeLine := by rw [sizeLine_eq]; decide
  have ND := dX.nd
  have HU : (bY (XE P w) P w K mg base ["_law_script", "_law_base", "_law_paths_here", "_law_currencies_here", "_law_both", "_law_rows_here", "_law_held", "_law_k", "_law_cell", "_law_at", "_law_path", "_law_currency", "_law_stretch_here", "_law_turn", "_law_month", "_law_some_rows"] "law" (ae bn) a.bW cdv A outer s H E).A.units + 100 < cLine := bp hr
  have G__law_told := bG (P := P) (w := w) (base := base) T
  have b__law_told := bF T.a_
  have G_Sums_put := cD (P := P) (w := w) (base := base) T
  have b_Sums_put := cA T.cz
  have G__law_day := cC (P := P) (w := w) (base := base) T
  have b__law_day := cB T.cg
  have G__law_mixed := bA (P := P) (w := w) (base := base) T
  have b__law_mixed := bx T.az
  have G__law_rows := ck (P := P) (w := w) (base := base) T
  have b__law_rows := cm T.bR
  have G__law_stretch := bE (P := P) (w := w) (base := base) T
  have b__law_stretch := bD T.bm
  have G_Sums___init__ := ba (P := P) (w := w) (base := base) T
  have b_Sums___init__ := bc T.aT
  have G__law_currencies := aM (P := P) (w := w) (base := base) T
  have b__law_currencies := aL T.aE
  have G__law_cell_at := aX (P := P) (w := w) (base := base) T
  have b__law_cell_at := aV T.ay
  have G__law_paths := bz (P := P) (w := w) (base := base) T
  have b__law_paths := bB T.bh
  obtain ⟨u9, hu9, k9⟩ := b9 (P := P) (w := w) (base := base) T (cdv := cdv) (A := A) (outer := outer) (s := s) (H := H) (E := E) hr
  refine ⟨_, (ag (ar (i := 14) ND rfl (Or.inr rfl) (af aw (fv 1) (af aC (af au (aq G__law_mixed (hr.mono (by decide)) rfl T.bw T.az.kp b__law_mixed .nil aN (FA.pa (aa (fv 8) (aa ac ah)))) ac) ac)))
      (ag (ar (i := 15) ND rfl (Or.inl rfl) (aq G__law_rows (hr.mono (by decide)) rfl T.lH T.bR.kp b__law_rows .nil aN (FA.pa (aa (af au (aq G__law_mixed (hr.mono (by decide)) rfl T.bw T.az.kp b__law_mixed .nil aN (FA.pa (aa (fv 8) (aa ac ah)))) ac) (aa (fv 2) (aa (fv 3) ah))))))
      hu9)), fun D sc xs bs pp cc bo ro hd kk ce j pa c1 st tn x14 x15 r w R W n m ps cu lo hi H1 hj L ln lm hst b0 b1 hS k => ?_⟩
  walk_at "rd"
  refine fun x1 y1 y2 x2 z1 z2 => ⟨by omega, ps, cu, L.ps_, L.cs_, by have := L.ln; omega, by have := L.ln; omega, L.ln.2.2, fun rs vs t H2 l1 l2 hin ht ht2 hA s2 => ?_⟩
  exact k9 D sc xs bs pp cc bo ro hd kk ce j pa c1 st tn _ t r w R W n m ps cu vs rs lo hi H2 hj (L.same s2) ln lm (s2 _ _ hst) ht2 hA l1 l2 hin ⟨by omega, by omega⟩ (hS.same s2) fun w' R' W' H' L' S' => k _ _ _ _ _ _ H' l2 L' S'
theorem b0 (T : Txt K mg a) {cdv : Value} {A : Around} {outer : List Env} {s : Shared} {H : Hp} {E : XK} (hr : Room 9 (A.deeper (PyProof.Rows.envOfC "law" (ae bn) s.heap.objs.size a.bW cdv))) : ∃ u, PSs (bY (XE P w) P w K mg base ["_law_script", "_law_base", "_law_paths_here", "_law_currencies_here", "_law_both", "_law_rows_here", "_law_held", "_law_k", "_law_cell", "_law_at", "_law_path", "_law_currency", "_law_stretch_here", "_law_turn", "_law_month", "_law_some_rows"] "law" (ae bn) a.bW cdv A outer s H E) oy u ∧
    ∀ (D : d4) sc (ns : List Int) (bs : Int) pp cc bo ro hd (kk : Nat) x8 x9 x10 x11 x12 x13 x14 x15 r w R W n m ps cu H1, LS a.aO H1 bo ro hd pp cc r w R R W n m ps cu → n ≤ 84 → m ≤ 80 → kk < ns.length → 0 ≤ bs → bs ≤ 4796 → Scr K H1 sc hd ro (ns.map V.int) →
      (∀ x8 x9 x10 x11 x12 x13 x14 x15 w' R' W' d H', d ≤ 6 → LS a.aO H' bo ro hd pp cc r w' R' R' W' (n + d) (m + 3) ps cu → Scr K H' sc hd ro (ns.map V.int) → D.nx (sig sc bs pp cc bo ro hd (some (.int kk)) x8 x9 x10 x11 x12 x13 x14 x15) H') →
      u D (sig sc bs pp cc bo ro hd (some (.int kk)) x8 x9 x10 x11 x12 x13 x14 x15) H1 := by
  have sz : 1000 < sizeLine := by rw [sizeLine_eq]; decide
  have ND := dX.nd
  have HU : (bY (XE P w) P w K mg base ["_law_script", "_law_base", "_law_paths_here", "_law_currencies_here", "_law_both", "_law_rows_here", "_law_held", "_law_k", "_law_cell", "_law_at", "_law_path", "_law_currency", "_law_stretch_here", "_law_turn", "_law_month", "_law_some_rows"] "law" (ae bn) a.bW cdv A outer s H E).A.units + 100 < cLine := bp hr
  have G__law_told := bG (P := P) (w := w) (base := base) T
  have b__law_told := bF T.a_
  have G_Sums_put := cD (P := P) (w := w) (base := base) T
  have b_Sums_put := cA T.cz
  have G__law_day := cC (P := P) (w := w) (base := base) T
  have b__law_day := cB T.cg
  have G__law_mixed := bA (P := P) (w := w) (base := base) T
  have b__law_mixed := bx T.az
  have G__law_rows := ck (P := P) (w := w) (base := base) T
  have b__law_rows := cm T.bR
  have G__law_stretch := bE (P := P) (w := w) (base := base) T
  have b__law_stretch := bD T.bm
  have G_Sums___init__ := ba (P := P) (w := w) (base := base) T
  have b_Sums___init__ := bc T.aT
  have G__law_currencies := aM (P := P) (w := w) (base := base) T
  have b__law_currencies := aL T.aE
  have G__law_cell_at := aX (P := P) (w := w) (base := base) T
  have b__law_cell_at := aV T.ay
  have G__law_paths := bz (P := P) (w := w) (base := base) T
  have b__law_paths := bB T.bh
  obtain ⟨u7, hu7, k7⟩ := b7 (P := P) (w := w) (base := base) T (cdv := cdv) (A := A) (outer := outer) (s := s) (H := H) (E := E) hr
  refine ⟨_, (ag (ar (i := 8) ND rfl (Or.inl rfl) (aH (ao K) (fv 0) (fv 7) (fun _ _ => rfl)))
      (ag (ar (i := 9) ND rfl (Or.inl rfl) (af au (af aC (fv 8) ac) ac))
      (ag (ar (i := 10) ND rfl (Or.inl rfl) (aH (ao K) (fv 2) (af aC (af au (fv 8) ac) (bj (eW K) rfl T.jk gt (FA.pa (aa (fv 2) ah)))) (fun _ _ => rfl)))
      (ag (ar (i := 11) ND rfl (Or.inl rfl) (aH (ao K) (fv 3) (af aC (af au (fv 8) ac) ac) (fun _ _ => rfl)))
      (ag (ar (i := 12) ND rfl (Or.inl rfl) (aq G__law_stretch (hr.mono (by decide)) rfl T.iF T.bm.kp b__law_stretch .nil aN (FA.pa (aa (af au (aq G__law_mixed (hr.mono (by decide)) rfl T.bw T.az.kp b__law_mixed .nil aN (FA.pa (aa (fv 8) (aa ac ah)))) ac) (aa (fv 1) ah)))))
      (ag (ar (i := 13) ND rfl (Or.inl rfl) (af au (aq G__law_mixed (hr.mono (by decide)) rfl T.bw T.az.kp b__law_mixed .nil aN (FA.pa (aa (fv 8) (aa ac ah)))) ac))
      (ag (cO (fH (fw (aq G__law_told (hr.mono (by decide)) rfl T.dF T.a_.kp b__law_told .nil aN (FA.pa (aa (aH (ao K) (fv 4) (fv 9) (fun _ _ => rfl)) (aa (aH (ao K) (fv 5) (fv 9) (fun _ _ => rfl)) (aa (fv 10) (aa (fv 11) (aa (fv 12) (aa (fv 6) (aa (fv 13) ah))))))))))) (al (aQ gX)) bQ)
      hu7))))))), fun D sc ns bs pp cc bo ro hd kk x8 x9 x10 x11 x12 x13 x14 x15 r w R W n m ps cu H1 L ln lm lk b0 b1 hS k => ?_⟩
  have ek : atI (ns.map V.int) (kk : Int) = some (.int ns[kk]) := aA (by simp [lk])
  walk_at "rd"
  refine ⟨_, _, .inl hS.1, ek, ?_⟩
  generalize ns[kk] = ce
  walk_at "rd"
  obtain ⟨l1, _, l3⟩ := L.ln
  obtain ⟨pa, _, ep⟩ := j9 (ps := ps) (ce / 3) (by omega)
  obtain ⟨c1, _, ec⟩ := j2 (cu := cu) (ce / 33) l3 (by decide)
  obtain ⟨j, hj, ej⟩ : ∃ j : Nat, j < 2 ∧ ce % 3 / 2 = j := ⟨(ce % 3 / 2).toNat, by omega, by omega⟩
  rw [ej]
  refine ⟨_, .inl (SqL.of L.ps_.1), by rw [List.length_map]; omega, _, _, .inl (SqL.of L.ps_.1), ep, _, _, .inl (SqL.of L.cs_.1), ec, fun x1 _ _ f l st H2 s2 _ hst x2 _ _ => ?_⟩
  have L2' := L.same s2
  refine ⟨_, _, .inl (SqL.of L2'.bo_), iG hj, _, _, .inl (SqL.of L2'.ro_), iG hj, ?_⟩
  walk_at "rd"
  obtain ⟨hs, ehd⟩ := L2'.hh.hd_
  refine L2'.tell hj (by omega) (by omega) hst fun H3 k3 L3 => ?_
  exact k7 D sc _ bs pp cc bo ro hd kk ce j pa c1 st _ _ _ r w R W n (m + 1) ps cu f l H3 hj L3 ln (by omega) (m4 k3 ehd hst) b0 b1 ((hS.same s2).kp k3 fun z => .inl z) fun x14 x15 w' R' W' d H' hd' L' S' => k _ _ _ _ _ _ _ _ _ _ _ d H' hd' L' S'
end
section
variable {P : Program} {w : World} {K : PySem.W.Frag} {mg : Str → Option Value} {base : Heap} {a : Adr}
open K3
theorem wJ (T : Txt K mg a) {cdv : Value} {A : Around} {outer : List Env} {s : Shared} {H : Hp} {E : XK} (hr : Room 9 (A.deeper (PyProof.Rows.envOfC "law" (ae bn) s.heap.objs.size a.bW cdv))) : ∃ u, PSs (bY (XE P w) P w K mg base ["_law_script", "_law_base", "_law_paths_here", "_law_currencies_here", "_law_both", "_law_rows_here", "_law_held", "_law_k", "_law_cell", "_law_at", "_law_path", "_law_currency", "_law_stretch_here", "_law_turn", "_law_month", "_law_some_rows"] "law" (ae bn) a.bW cdv A outer s H E) (List.drop 6 (aB bn)) u ∧
    ∀ (D : d4) sc (ns : List Int) (bs : Int) pp cc bo ro hd x7 x8 x9 x10 x11 x12 x13 x14 x15 r w W ps cu H1, LS a.aO H1 bo ro hd pp cc r w (fun _ => []) (fun _ => []) W 0 0 ps cu → Scr K H1 sc hd ro (ns.map V.int) → ns.length ≤ 63 → 0 ≤ bs → bs ≤ 4796 → (∀ H', D.rt (.bl true) H') → u D (sig sc bs pp cc bo ro hd x7 x8 x9 x10 x11 x12 x13 x14 x15) H1 := by
  have sz : 1000 < sizeLine := by rw [sizeLine_eq]; decide
  have ND := dX.nd
  have HU : (bY (XE P w) P w K mg base ["_law_script", "_law_base", "_law_paths_here", "_law_currencies_here", "_law_both", "_law_rows_here", "_law_held", "_law_k", "_law_cell", "_law_at", "_law_path", "_law_currency", "_law_stretch_here", "_law_turn", "_law_month", "_law_some_rows"] "law" (ae bn) a.bW cdv A outer s H E).A.units + 100 < cLine := bp hr
  have G__law_told := bG (P := P) (w := w) (base := base) T
  have b__law_told := bF T.a_
  have G_Sums___init__ := ba (P := P) (w := w) (base := base) T
  have b_Sums___init__ := bc T.aT
  have G__law_currencies := aM (P := P) (w := w) (base := base) T
  have b__law_currencies := aL T.aE
  have G__law_cell_at := aX (P := P) (w := w) (base := base) T
  have b__law_cell_at := aV T.ay
  have G__law_paths := bz (P := P) (w := w) (base := base) T
  have b__law_paths := bB T.bh
  obtain ⟨u7, hu7, k7⟩ := wM (P := P) (w := w) (base := base) T (cdv := cdv) (A := A) (outer := outer) (s := s) (H := H) (E := E) hr
  obtain ⟨ub, hub, kb⟩ := b0 (P := P) (w := w) (base := base) T (cdv := cdv) (A := A) (outer := outer) (s := s) (H := H) (E := E) hr
  refine ⟨_, (ag (d8 (by passes_own) rfl (oU rfl T.dE (FA.pa (aa ac (aa (bj (uD rfl) rfl T.wH wn (FA.pa (aa (bj (eW K) rfl T.jk gt (FA.pa (aa (fv 0) ah))) (aa ac ah)))) ah)))) (aF (i := 7) ND rfl (Or.inl rfl)) hub)
      hu7), fun D sc ns bs pp cc bo ro hd x7 x8 x9 x10 x11 x12 x13 x14 x15 r w W ps cu H1 L hS ln b0 b1 k => ?_⟩
  walk_at "rd"
  refine oY ?_
  walk_at "rd"
  have lm : (ns.map V.int).length = ns.length := List.length_map ..
  refine ⟨_, .inl hS.1, 4, _, ⟨rfl, rfl⟩, ⟨by decide, by decide, by rw [lm]; split <;> omega, by rw [lm]; split <;> omega⟩, ?_⟩
  rw [lm]
  obtain ⟨N, eN, l1, l2⟩ : ∃ N : Nat, ((if (18 : Int) < (ns.length : Int) then (18 : Int) else (ns.length : Int)) - 4).toNat = N ∧ N ≤ 14 ∧ (0 < N → N + 4 ≤ ns.length) := ⟨_, rfl, by split <;> omega, by split <;> omega⟩
  rw [eN]
  refine c_ (lo := 4) (n := N) (fun i σ' H' => ∃ x7 x8 x9 x10 x11 x12 x13 x14 x15 w R W n, n ≤ 6 * i ∧ LS a.aO H' bo ro hd pp cc r w R R W n (3 * i) ps cu ∧ Scr K H' sc hd ro (ns.map V.int) ∧ σ' = sig sc bs pp cc bo ro hd x7 x8 x9 x10 x11 x12 x13 x14 x15) ⟨_, _, _, _, _, _, _, _, _, w, _, W, 0, Nat.zero_le _, L, hS, rfl⟩ ?_ ?_
  · rintro i σ' G hi ⟨x7, x8, x9, x10, x11, x12, x13, x14, x15, w, R, W, n, hn, L1, hS1, rfl⟩
    have e : (4 : Int) + (i : Int) = ((4 + i : Nat) : Int) := by omega
    rw [e]
    walk_at "rd"
    refine kb _ sc ns bs pp cc bo ro hd (4 + i) _ _ _ _ _ _ _ _ r w R W n (3 * i) ps cu G L1 (by omega) (by omega) (by omega) b0 b1 hS1 fun x8 x9 x10 x11 x12 x13 x14 x15 w' R' W' d H' l' L' S' => ⟨_, _, _, _, _, _, _, _, _, w', R', W', n + d, by omega, L', S', rfl⟩
  · rintro σ' G ⟨x7, x8, x9, x10, x11, x12, x13, x14, x15, w, R, W, n, hn, L1, hS1, rfl⟩
    exact k7 D sc bs pp cc bo ro hd _ _ _ _ _ _ _ _ _ r w R W n _ ps cu G L1 (by omega) (by omega) b0 k
theorem jF {H H' : Hp} {x dx : Addr} {o o' : HO} (hx : H x = none) (hd : H dx = none) (k : Kp (fun p => p = x) (upd (upd H dx o) x o') H') : Same H H' := fun p z e => k p z (by rw [ai (ak e hx), ai (ak e hd)]; exact e) (ak e hx)
theorem jy {H : Hp} {x dx b : Addr} {o o' : HO} (h : upd (upd H dx o) x o' b = none) : H b = none ∧ b ≠ x := by
  have n1 : b ≠ x := fun z => by rw [z, ad] at h; cases h
  rw [ai n1] at h
  have n2 : b ≠ dx := fun z => by rw [z, ad] at h; cases h
  rw [ai n2] at h
  exact ⟨h, n1⟩
def sp_law (K : PySem.W.Frag) : Sp := sp1 fun x H Q _ => asR x fun p => ∃ ns : List Int, SqL K H p (ns.map V.int) ∧ ns.length ≤ 63 ∧ ∀ H', Q (.bl true) H'
theorem vg (T : Txt K mg a) : b_ P w K mg base (XE P w) 10 a.bW a.qL ["_law_script"] (sp_law K) := by
  refine T.xy.okX dX (fun vs H Q E h => sp1.len h) (fun cdv A outer s H vs Q E hr h => ?_)
  obtain ⟨x0, rfl, h⟩ := sp1.inv h
  try dsimp only [sp_law, sp1] at h
  have ND := dX.nd
  have HU : (bY (XE P w) P w K mg base ["_law_script", "_law_base", "_law_paths_here", "_law_currencies_here", "_law_both", "_law_rows_here", "_law_held", "_law_k", "_law_cell", "_law_at", "_law_path", "_law_currency", "_law_stretch_here", "_law_turn", "_law_month", "_law_some_rows"] "law" (ae bn) a.bW cdv A outer s H E).A.units + 100 < cLine := bp hr
  obtain ⟨sc, rfl, ns, hS, lns, k⟩ := asR.inv h
  have sz : 1000 ≤ sizeLine := by rw [sizeLine_eq]; decide
  have G__law_told := bG (P := P) (w := w) (base := base) T
  have b__law_told := bF T.a_
  have G_Sums___init__ := ba (P := P) (w := w) (base := base) T
  have b_Sums___init__ := bc T.aT
  have G__law_currencies := aM (P := P) (w := w) (base := base) T
  have b__law_currencies := aL T.aE
  have G__law_cell_at := aX (P := P) (w := w) (base := base) T
  have b__law_cell_at := aV T.ay
  have G__law_paths := bz (P := P) (w := w) (base := base) T
  have b__law_paths := bB T.bh
  obtain ⟨u6, hu6, k6⟩ := wJ (P := P) (w := w) (base := base) T (cdv := cdv) (A := A) (outer := outer) (s := s) (H := H) (E := E) hr
  refine ⟨_, (ag (ar (i := 1) ND rfl (Or.inl rfl) (af aC (aq G__law_cell_at (hr.mono (by decide)) rfl T.b8 T.ay.kp b__law_cell_at .nil aN (FA.pa (aa (fv 0) (aa ac ah)))) ac))
      (ag (ar (i := 2) ND rfl (Or.inl rfl) (aq G__law_paths (hr.mono (by decide)) rfl T.jH T.bh.kp b__law_paths .nil aN (FA.pa (aa (fv 0) (aa (af aw ac (af aC (af au (aq G__law_cell_at (hr.mono (by decide)) rfl T.b8 T.ay.kp b__law_cell_at .nil aN (FA.pa (aa (fv 0) (aa ac ah)))) ac) ac)) ah)))))
      (ag (ar (i := 3) ND rfl (Or.inl rfl) (aq G__law_currencies (hr.mono (by decide)) rfl T.fP T.aE.kp b__law_currencies .nil aN (FA.pa (aa (aq G__law_cell_at (hr.mono (by decide)) rfl T.b8 T.ay.kp b__law_cell_at .nil aN (FA.pa (aa (fv 0) (aa ac ah)))) ah))))
      (ag (ar (i := 4) ND rfl (Or.inl rfl) (bP (FA.pa (aa (jr T.oH G_Sums___init__ (hr.mono (by decide)) rfl T.pP b_Sums___init__ .nil aN) (aa (jr T.oH G_Sums___init__ (hr.mono (by decide)) rfl T.pP b_Sums___init__ .nil aN) ah)))))
      (ag (ar (i := 5) ND rfl (Or.inl rfl) (bP (FA.pa (aa (bP (FA.pa ah)) (aa (bP (FA.pa ah)) ah)))))
      (ag (ar (i := 6) ND rfl (Or.inl rfl) (bP (FA.pa ah)))
      hu6)))))), ?_⟩
  walk_at "rd"
  refine ⟨ns, hS, lns, fun i0 => ⟨ns, hS, lns, fun i1 => ⟨ns, hS, lns, ⟨by omega, by omega⟩, fun ps pp H1 s1 hpp tps lp1 lp2 => ⟨ns, hS.same s1, lns, fun cu cc H2 s2 hcc tcu lcu x dx hx hdx nx => ⟨dx, ad, fun b H3 hb S3 k3 => ?_⟩⟩⟩⟩⟩
  have s3 := jF hx hdx k3
  have b0 := (jy hb).1
  refine fun x' dx' hx' hdx' nx' => ⟨dx', ad, fun b' H4 hb' S4 k4 => ?_⟩
  have s4 := jF hx' hdx' k4
  have b0' := (jy hb').1
  have S34 := S3.same s4
  have bb : b ≠ b' := fun z => by
    obtain ⟨u, hu, _⟩ := S3.dict (p := b) rfl
    rw [z, b0'] at hu; cases hu
  refine ⟨by omega, fun bo hbo => ⟨Nat.zero_le _, fun w0 hw0 => ⟨Nat.zero_le _, fun w1 hw1 => ⟨by omega, fun ro hro => ⟨Nat.zero_le _, fun hd hhd => ?_⟩⟩⟩⟩⟩
  have c1 := aj (HO.lst [V.ref x, V.ref x']) hbo
  have g1 : upd H4 bo (HO.lst [V.ref x, V.ref x']) bo = some (HO.lst [V.ref x, V.ref x']) := ad
  generalize upd H4 bo (HO.lst [V.ref x, V.ref x']) = G1 at c1 g1 hw0 hw1 hro hhd ⊢
  have c2 := aj (HO.lst []) hw0
  have g2 : upd G1 w0 (HO.lst []) w0 = some (HO.lst []) := ad
  generalize upd G1 w0 (HO.lst []) = G2 at c2 g2 hw1 hro hhd ⊢
  have c3 := aj (HO.lst []) hw1
  have g3 : upd G2 w1 (HO.lst []) w1 = some (HO.lst []) := ad
  generalize upd G2 w1 (HO.lst []) = G3 at c3 g3 hro hhd ⊢
  have c4 := aj (HO.lst [V.ref w0, V.ref w1]) hro
  have g4 : upd G3 ro (HO.lst [V.ref w0, V.ref w1]) ro = some (HO.lst [V.ref w0, V.ref w1]) := ad
  generalize upd G3 ro (HO.lst [V.ref w0, V.ref w1]) = G4 at c4 g4 hhd ⊢
  have c5 := aj (HO.lst []) hhd
  have g5 : upd G4 hd (HO.lst []) hd = some (HO.lst []) := ad
  generalize upd G4 hd (HO.lst []) = G5 at c5 g5 ⊢
  have s23 := s3.trans s4
  have s03 := c1.trans (c2.trans c3)
  have s35 := c4.trans c5
  have nr : ∀ {p : Addr} {o : HO}, H4 p = some o → p ≠ ro ∧ p ≠ hd := fun {p o} e => ⟨ak (s03 _ _ e) hro, ak (c4 _ _ (s03 _ _ e)) hhd⟩
  have np := nr ((s2.trans s23) _ _ tps.1)
  have nc := nr (s23 _ _ tcu.1)
  have nb : bo ≠ ro ∧ bo ≠ hd := ⟨ak ((c2.trans c3) _ _ g1) hro, ak ((c2.trans (c3.trans c4)) _ _ g1) hhd⟩
  have n0 : w0 ≠ ro ∧ w0 ≠ hd := ⟨ak (c3 _ _ g2) hro, ak ((c3.trans c4) _ _ g2) hhd⟩
  have n1 : w1 ≠ ro ∧ w1 ≠ hd := ⟨ak g3 hro, ak (c4 _ _ g3) hhd⟩
  have sA := s03.trans s35
  have sH := s1.trans (s2.trans s23)
  have i2 : ∀ {i : Nat}, i < 2 → i = 0 ∨ i = 1 := fun h => by omega
  have hsc : Scr K G5 sc hd ro (ns.map V.int) := by
    refine ⟨hS.same (sH.trans sA), ?_⟩
    rcases hS with (h | ⟨o, h⟩) | h
    · exact .inr ⟨(nr (sH _ _ h)).2, (nr (sH _ _ h)).1⟩
    · exact .inr ⟨(nr (sH _ _ h)).2, (nr (sH _ _ h)).1⟩
    · exact .inl fun _ => .inr h
  refine k6 _ sc ns _ pp cc bo ro hd _ _ _ _ _ _ _ _ _ (fun i => match i with | 0 => x | _ => x') (fun i => match i with | 0 => w0 | _ => w1) (fun i p => match i with | 0 => p = b | _ => p = b') ps cu G5 ⟨((c2.trans c3).trans s35) _ _ g1, c5 _ _ g4, ?_, ?_, (fun _ _ _ m => nomatch m), ?_, ⟨[], g5, Nat.le_refl _, fun _ m => nomatch m⟩, ⟨ak g4 hhd, nb.2, nb.1, np.2, np.1, nc.2, nc.1, ?_⟩, tps.same (s2.trans (s23.trans sA)), tcu.same (s23.trans sA), lp1, lp2, lcu⟩ hsc lns (by omega) (by omega) k
  · intro i hi
    rcases i2 hi with rfl | rfl
    · exact S34.same sA
    · exact S4.same sA
  · intro i hi
    rcases i2 hi with rfl | rfl
    · exact ⟨[], (c3.trans s35) _ _ g2, Nat.le_refl _, .nil⟩
    · exact ⟨[], s35 _ _ g3, Nat.le_refl _, .nil⟩
  · exact fun p e1 e2 => bb (e1.symm.trans e2)
  · intro i hi
    rcases i2 hi with rfl | rfl
    · exact ⟨n0.2, n0.1⟩
    · exact ⟨n1.2, n1.1⟩
theorem law_starts {K : PySem.W.Frag} {H : Hp} {p : Addr} {ns : List Int} (hO : rE H) (hS : SqL K H p (ns.map V.int)) (hl : ns.length ≤ 63) : sp_law K [.ref p] H (fun v _ => v = .bl true) (fun _ _ _ => False) := ⟨ns, hS, hl, fun _ => rfl⟩
end
noncomputable abbrev fnQ (x q : String) (s : Stmt) (kV dc pm : Value) (an : Option Addr) (cd ct : Value) : FuncData := PySem.W.fnOf x q (aI s) (aB s) (ae s) .none kV dc pm an cd ct
open PySem.W in
theorem all_mk {l : OpenLaw} {w : World} {K : Frag} {h : Heap} {mg : Str → Option Value} {fa : Addr} (X : K.In h) (G : h.Ns mainGlobals mg) (hfa : mg "law" = some (.ref fa))
 {C0 : Addr}
 {f0 f1 f2 f3 f4 f5 f6 f7 f8 f9 f10 f11 f12 f13 f14 f15 f16 f17 f18 f19 f20 f21 f22 f23 : Addr} {od0 od1 od2 od3 od4 od5 od6 od7 od8 od9 od10 od11 od12 od13 od14 od15 od16 od17 od18 od19 od20 od21 od22 od23 an0 an1 an2 an3 an4 an5 an6 an7 an8 an9 an10 an11 an12 an13 an14 an15 an16 an17 an18 an19 an20 an21 an22 an23 : Option Addr} {sl0 sl1 sl2 sl3 sl4 sl5 sl6 sl7 sl8 sl9 sl10 sl11 sl12 sl13 sl14 sl15 sl16 sl17 sl18 sl19 sl20 sl21 sl22 sl23 : Array (Option Value)} {oc0 oc1 oc2 oc3 oc4 oc5 oc6 oc7 oc8 oc9 oc10 oc11 oc12 oc13 oc14 oc15 oc16 oc17 oc18 oc19 oc20 oc21 oc22 oc23 kV0 kV1 kV2 kV3 kV4 kV5 kV6 kV7 kV8 kV9 kV10 kV11 kV12 kV13 kV14 kV15 kV16 kV17 kV18 kV19 kV20 kV21 kV22 kV23 dc0 dc1 dc2 dc3 dc4 dc5 dc6 dc7 dc8 dc9 dc10 dc11 dc12 dc13 dc14 dc15 dc16 dc17 dc18 dc19 dc20 dc21 dc22 dc23 pm0 pm1 pm2 pm3 pm4 pm5 pm6 pm7 pm8 pm9 pm10 pm11 pm12 pm13 pm14 pm15 pm16 pm17 pm18 pm19 pm20 pm21 pm22 pm23 cd0 cd1 cd2 cd3 cd4 cd5 cd6 cd7 cd8 cd9 cd10 cd11 cd12 cd13 cd14 cd15 cd16 cd17 cd18 cd19 cd20 cd21 cd22 cd23 ct0 ct1 ct2 ct3 ct4 ct5 ct6 ct7 ct8 ct9 ct10 ct11 ct12 ct13 ct14 ct15 ct16 ct17 ct18 ct19 ct20 ct21 ct22 ct23 : Value}
 {D0 : Addr} {dd0 : Option Addr} {dsl0 : Array (Option Value)} {dn0 : Nat} {tk0 tk1 tk2 tk3 tk4 tk5 tk6 tk7 tk8 tk9 tk10 tk11 : Tok}
 (p0 : nsIn K mainGlobals "Sums" = some (some (.ref C0)))
 (a0 : nsIn K mainGlobals "leap_days" = some (some (.ref f0)))
 (l0 : K.lookup f0 = some ⟨oc0, od0, .func (fnQ "leap_days" "leap_days" bJ kV0 dc0 pm0 an0 cd0 ct0), sl0⟩) (c0 : codeIn K cd0 "leap_days" = true) (k0 : keepIn K (.ref f0) = true)
 (a1 : nsIn K mainGlobals "first_day" = some (some (.ref f1)))
 (l1 : K.lookup f1 = some ⟨oc1, od1, .func (fnQ "first_day" "first_day" bH kV1 dc1 pm1 an1 cd1 ct1), sl1⟩) (c1 : codeIn K cd1 "first_day" = true) (k1 : keepIn K (.ref f1) = true)
 (a2 : nsIn K mainGlobals "last_day" = some (some (.ref f2)))
 (l2 : K.lookup f2 = some ⟨oc2, od2, .func (fnQ "last_day" "last_day" bS kV2 dc2 pm2 an2 cd2 ct2), sl2⟩) (c2 : codeIn K cd2 "last_day" = true) (k2 : keepIn K (.ref f2) = true)
 (a3 : nsIn K mainGlobals "month_of" = some (some (.ref f3)))
 (l3 : K.lookup f3 = some ⟨oc3, od3, .func (fnQ "month_of" "month_of" bT kV3 dc3 pm3 an3 cd3 ct3), sl3⟩) (c3 : codeIn K cd3 "month_of" = true) (k3 : keepIn K (.ref f3) = true)
 (a4 : nsIn K mainGlobals "_law_cell_at" = some (some (.ref f4)))
 (l4 : K.lookup f4 = some ⟨oc4, od4, .func (fnQ "_law_cell_at" "_law_cell_at" be kV4 dc4 pm4 an4 cd4 ct4), sl4⟩) (c4 : codeIn K cd4 "_law_cell_at" = true) (k4 : keepIn K (.ref f4) = true)
 (a5 : nsIn K mainGlobals "_law_mixed" = some (some (.ref f5)))
 (l5 : K.lookup f5 = some ⟨oc5, od5, .func (fnQ "_law_mixed" "_law_mixed" bq kV5 dc5 pm5 an5 cd5 ct5), sl5⟩) (c5 : codeIn K cd5 "_law_mixed" = true) (k5 : keepIn K (.ref f5) = true)
 (a6 : nsIn K mainGlobals "_law_whole" = some (some (.ref f6)))
 (l6 : K.lookup f6 = some ⟨oc6, od6, .func (fnQ "_law_whole" "_law_whole" br kV6 dc6 pm6 an6 cd6 ct6), sl6⟩) (c6 : codeIn K cd6 "_law_whole" = true) (k6 : keepIn K (.ref f6) = true)
 (a7 : nsIn K mainGlobals "_law_names" = some (some (.ref f7)))
 (l7 : K.lookup f7 = some ⟨oc7, od7, .func (fnQ "_law_names" "_law_names" bu kV7 dc7 pm7 an7 cd7 ct7), sl7⟩) (c7 : codeIn K cd7 "_law_names" = true) (k7 : keepIn K (.ref f7) = true)
 (a8 : nsIn K mainGlobals "_law_paths" = some (some (.ref f8)))
 (l8 : K.lookup f8 = some ⟨oc8, od8, .func (fnQ "_law_paths" "_law_paths" bv kV8 dc8 pm8 an8 cd8 ct8), sl8⟩) (c8 : codeIn K cd8 "_law_paths" = true) (k8 : keepIn K (.ref f8) = true)
 (a9 : nsIn K mainGlobals "_law_currencies" = some (some (.ref f9)))
 (l9 : K.lookup f9 = some ⟨oc9, od9, .func (fnQ "_law_currencies" "_law_currencies" aJ kV9 dc9 pm9 an9 cd9 ct9), sl9⟩) (c9 : codeIn K cd9 "_law_currencies" = true) (k9 : keepIn K (.ref f9) = true)
 (a10 : nsIn K mainGlobals "_law_first" = some (some (.ref f10)))
 (l10 : K.lookup f10 = some ⟨oc10, od10, .func (fnQ "_law_first" "_law_first" aW kV10 dc10 pm10 an10 cd10 ct10), sl10⟩) (c10 : codeIn K cd10 "_law_first" = true) (k10 : keepIn K (.ref f10) = true)
 (a11 : nsIn K mainGlobals "_law_day" = some (some (.ref f11)))
 (l11 : K.lookup f11 = some ⟨oc11, od11, .func (fnQ "_law_day" "_law_day" bN kV11 dc11 pm11 an11 cd11 ct11), sl11⟩) (c11 : codeIn K cd11 "_law_day" = true) (k11 : keepIn K (.ref f11) = true)
 (a12 : nsIn K mainGlobals "_law_amount" = some (some (.ref f12)))
 (l12 : K.lookup f12 = some ⟨oc12, od12, .func (fnQ "_law_amount" "_law_amount" bd kV12 dc12 pm12 an12 cd12 ct12), sl12⟩) (c12 : codeIn K cd12 "_law_amount" = true) (k12 : keepIn K (.ref f12) = true)
 (a13 : nsIn K mainGlobals "_law_rows" = some (some (.ref f13)))
 (l13 : K.lookup f13 = some ⟨oc13, od13, .func (fnQ "_law_rows" "_law_rows" bI kV13 dc13 pm13 an13 cd13 ct13), sl13⟩) (c13 : codeIn K cd13 "_law_rows" = true) (k13 : keepIn K (.ref f13) = true)
 (a14 : nsIn K mainGlobals "_law_stretch" = some (some (.ref f14)))
 (l14 : K.lookup f14 = some ⟨oc14, od14, .func (fnQ "_law_stretch" "_law_stretch" aS kV14 dc14 pm14 an14 cd14 ct14), sl14⟩) (c14 : codeIn K cd14 "_law_stretch" = true) (k14 : keepIn K (.ref f14) = true)
 (a15 : nsIn K mainGlobals "_law_answers" = some (some (.ref f15)))
 (l15 : K.lookup f15 = some ⟨oc15, od15, .func (fnQ "_law_answers" "_law_answers" aR kV15 dc15 pm15 an15 cd15 ct15), sl15⟩) (c15 : codeIn K cd15 "_law_answers" = true) (k15 : keepIn K (.ref f15) = true)
 (a16 : nsIn K mainGlobals "_law_told" = some (some (.ref f16)))
 (l16 : K.lookup f16 = some ⟨oc16, od16, .func (fnQ "_law_told" "_law_told" bf kV16 dc16 pm16 an16 cd16 ct16), sl16⟩) (c16 : codeIn K cd16 "_law_told" = true) (k16 : keepIn K (.ref f16) = true)
 (a17 : nsIn K mainGlobals "law" = some (some (.ref f17)))
 (l17 : K.lookup f17 = some ⟨oc17, od17, .func (fnQ "law" "law" bn kV17 dc17 pm17 an17 cd17 ct17), sl17⟩) (c17 : codeIn K cd17 "law" = true) (k17 : keepIn K (.ref f17) = true)
 (a18 : findIn K (.ref C0) "__init__" = some (some (.ref f18))) (i18 : isFn K (.ref f18) = true)
 (l18 : K.lookup f18 = some ⟨oc18, od18, .func (fnQ "__init__" "Sums.__init__" aU kV18 dc18 pm18 an18 cd18 ct18), sl18⟩) (c18 : codeIn K cd18 "Sums.__init__" = true) (k18 : keepIn K (.ref f18) = true)
 (a19 : findIn K (.ref C0) "put" = some (some (.ref f19))) (i19 : isFn K (.ref f19) = true)
 (l19 : K.lookup f19 = some ⟨oc19, od19, .func (fnQ "put" "Sums.put" bO kV19 dc19 pm19 an19 cd19 ct19), sl19⟩) (c19 : codeIn K cd19 "Sums.put" = true) (k19 : keepIn K (.ref f19) = true)
 (a20 : findIn K (.ref C0) "months_of" = some (some (.ref f20))) (i20 : isFn K (.ref f20) = true)
 (l20 : K.lookup f20 = some ⟨oc20, od20, .func (fnQ "months_of" "Sums.months_of" aG kV20 dc20 pm20 an20 cd20 ct20), sl20⟩) (c20 : codeIn K cd20 "Sums.months_of" = true) (k20 : keepIn K (.ref f20) = true)
 (a21 : findIn K (.ref C0) "own" = some (some (.ref f21))) (i21 : isFn K (.ref f21) = true)
 (l21 : K.lookup f21 = some ⟨oc21, od21, .func (fnQ "own" "Sums.own" bU kV21 dc21 pm21 an21 cd21 ct21), sl21⟩) (c21 : codeIn K cd21 "Sums.own" = true) (k21 : keepIn K (.ref f21) = true)
 (a22 : findIn K (.ref C0) "standing" = some (some (.ref f22))) (i22 : isFn K (.ref f22) = true)
 (l22 : K.lookup f22 = some ⟨oc22, od22, .func (fnQ "standing" "Sums.standing" aY kV22 dc22 pm22 an22 cd22 ct22), sl22⟩) (c22 : codeIn K cd22 "Sums.standing" = true) (k22 : keepIn K (.ref f22) = true)
 (a23 : findIn K (.ref C0) "currencies" = some (some (.ref f23))) (i23 : isFn K (.ref f23) = true)
 (l23 : K.lookup f23 = some ⟨oc23, od23, .func (fnQ "currencies" "Sums.currencies" aD kV23 dc23 pm23 an23 cd23 ct23), sl23⟩) (c23 : codeIn K cd23 "Sums.currencies" = true) (k23 : keepIn K (.ref f23) = true)
 (pg0 : plainGet K C0 Str.empty = true) (hd0 : hasDictIn K C0 = true) (po0 : plainOver K C0 = true) (sa0 : findIn K (.ref C0) "__setattr__" = some (some (.builtin "object.__setattr__"))) (mk0 : makesIn K C0 = true) (kc0 : keepIn K (.ref C0) = true)
 (na0_0 : findIn K (.ref C0) "by_place" = some none)
 (d0 : nsIn K mainGlobals "LENGTHS" = some (some (.ref D0))) (e0 : K.lookup D0 = some ⟨.type "tuple", dd0, .seq #[.int 31 tk0, .int 28 tk1, .int 31 tk2, .int 30 tk3, .int 31 tk4, .int 30 tk5, .int 31 tk6, .int 31 tk7, .int 30 tk8, .int 31 tk9, .int 30 tk10, .int 31 tk11] dn0, dsl0⟩)
 (z0 : nsIn K mainGlobals "all" = some none)
 (z1 : nsIn K mainGlobals "bool" = some none)
 (z2 : nsIn K mainGlobals "int" = some none)
 (z3 : nsIn K mainGlobals "isinstance" = some none)
 (z4 : nsIn K mainGlobals "len" = some none)
 (z5 : nsIn K mainGlobals "list" = some none)
 (z6 : nsIn K mainGlobals "min" = some none)
 (z7 : nsIn K mainGlobals "range" = some none)
 (z8 : nsIn K mainGlobals "set" = some none)
 (z9 : nsIn K mainGlobals "sorted" = some none)
 (z10 : nsIn K mainGlobals "sum" = some none)
 (z11 : nsIn K mainGlobals "tuple" = some none)
 : ∃ fd : FuncData, (∀ (s : Shared) (v : Value), BindsTo s fd ⟨[v], []⟩ [("_law_script", v)]) ∧ ∀ base : Heap, K.In base → base.Ns mainGlobals mg → b_ l.prog w K mg base (XE l.prog w) 10 fa fd ["_law_script"] (sp_law K) := by
  have e := hfa.symm.trans (mg_of X G a17)
  cases e
  have T : Txt K mg ⟨f0, fnQ "leap_days" "leap_days" bJ kV0 dc0 pm0 an0 cd0 ct0, f1, fnQ "first_day" "first_day" bH kV1 dc1 pm1 an1 cd1 ct1, f2, fnQ "last_day" "last_day" bS kV2 dc2 pm2 an2 cd2 ct2, f3, fnQ "month_of" "month_of" bT kV3 dc3 pm3 an3 cd3 ct3, f4, fnQ "_law_cell_at" "_law_cell_at" be kV4 dc4 pm4 an4 cd4 ct4, f5, fnQ "_law_mixed" "_law_mixed" bq kV5 dc5 pm5 an5 cd5 ct5, f6, fnQ "_law_whole" "_law_whole" br kV6 dc6 pm6 an6 cd6 ct6, f7, fnQ "_law_names" "_law_names" bu kV7 dc7 pm7 an7 cd7 ct7, f8, fnQ "_law_paths" "_law_paths" bv kV8 dc8 pm8 an8 cd8 ct8, f9, fnQ "_law_currencies" "_law_currencies" aJ kV9 dc9 pm9 an9 cd9 ct9, f10, fnQ "_law_first" "_law_first" aW kV10 dc10 pm10 an10 cd10 ct10, f11, fnQ "_law_day" "_law_day" bN kV11 dc11 pm11 an11 cd11 ct11, f12, fnQ "_law_amount" "_law_amount" bd kV12 dc12 pm12 an12 cd12 ct12, f13, fnQ "_law_rows" "_law_rows" bI kV13 dc13 pm13 an13 cd13 ct13, f14, fnQ "_law_stretch" "_law_stretch" aS kV14 dc14 pm14 an14 cd14 ct14, f15, fnQ "_law_answers" "_law_answers" aR kV15 dc15 pm15 an15 cd15 ct15, f16, fnQ "_law_told" "_law_told" bf kV16 dc16 pm16 an16 cd16 ct16, fa, fnQ "law" "law" bn kV17 dc17 pm17 an17 cd17 ct17, f18, fnQ "__init__" "Sums.__init__" aU kV18 dc18 pm18 an18 cd18 ct18, f19, fnQ "put" "Sums.put" bO kV19 dc19 pm19 an19 cd19 ct19, f20, fnQ "months_of" "Sums.months_of" aG kV20 dc20 pm20 an20 cd20 ct20, f21, fnQ "own" "Sums.own" bU kV21 dc21 pm21 an21 cd21 ct21, f22, fnQ "standing" "Sums.standing" aY kV22 dc22 pm22 an22 cd22 ct22, f23, fnQ "currencies" "Sums.currencies" aD kV23 dc23 pm23 an23 cd23 ct23, C0, D0⟩ := ⟨bt (st := bJ) l0 c0 k0, mg_of X G a0, bt (st := bH) l1 c1 k1, mg_of X G a1, bt (st := bS) l2 c2 k2, mg_of X G a2, bt (st := bT) l3 c3 k3, mg_of X G a3, bt (st := be) l4 c4 k4, mg_of X G a4, bt (st := bq) l5 c5 k5, mg_of X G a5, bt (st := br) l6 c6 k6, mg_of X G a6, bt (st := bu) l7 c7 k7, mg_of X G a7, bt (st := bv) l8 c8 k8, mg_of X G a8, bt (st := aJ) l9 c9 k9, mg_of X G a9, bt (st := aW) l10 c10 k10, mg_of X G a10, bt (st := bN) l11 c11 k11, mg_of X G a11, bt (st := bd) l12 c12 k12, mg_of X G a12, bt (st := bI) l13 c13 k13, mg_of X G a13, bt (st := aS) l14 c14 k14, mg_of X G a14, bt (st := aR) l15 c15 k15, mg_of X G a15, bt (st := bf) l16 c16 k16, mg_of X G a16, bt (st := bn) l17 c17 k17, mg_of X G a17, bt (st := aU) l18 c18 k18, ⟨a18, i18, k18⟩, bt (st := bO) l19 c19 k19, ⟨a19, i19, k19⟩, bt (st := aG) l20 c20 k20, ⟨a20, i20, k20⟩, bt (st := bU) l21 c21 k21, ⟨a21, i21, k21⟩, bt (st := aY) l22 c22 k22, ⟨a22, i22, k22⟩, bt (st := aD) l23 c23 k23, ⟨a23, i23, k23⟩, mg_of X G p0, ⟨pg0, hd0, po0, sa0⟩, na0_0, ⟨mk0, a18, i18, kc0⟩, mg_of X G d0, ⟨_, _, _, e0, rfl, rfl, (by show 12 ≤ sizeLine; decide), (.cons ⟨_, rfl⟩ (.cons ⟨_, rfl⟩ (.cons ⟨_, rfl⟩ (.cons ⟨_, rfl⟩ (.cons ⟨_, rfl⟩ (.cons ⟨_, rfl⟩ (.cons ⟨_, rfl⟩ (.cons ⟨_, rfl⟩ (.cons ⟨_, rfl⟩ (.cons ⟨_, rfl⟩ (.cons ⟨_, rfl⟩ (.cons ⟨_, rfl⟩ .nil))))))))))))⟩, mg_none_of X G z0, mg_none_of X G z1, mg_none_of X G z2, mg_none_of X G z3, mg_none_of X G z4, mg_none_of X G z5, mg_none_of X G z6, mg_none_of X G z7, mg_none_of X G z8, mg_none_of X G z9, mg_none_of X G z10, mg_none_of X G z11⟩
  exact ⟨fnQ "law" "law" bn kV17 dc17 pm17 an17 cd17 ct17, fun s v => .of_eq rfl, fun base _ _ => vg T⟩
end K16
open PySem PySem.W PyProof.Rows
set_option maxRecDepth 100000 in
set_option maxHeartbeats 0 in
theorem PySem.Challenge.cw_evenhall_k16_sums_by_months_holds : PySem.Challenge.rw_evenhall_k16_sums_by_months.Holds := by
  w_on; o_law
  refine PySem.W.holds_open (q := K16.vw) (loose := []) (Xt := fun s => PySem.W.xlAt K16.vw [] s && PySem.W.recOk (PySem.W.RowW.records (PySem.W.OpenRow.toRowW (PySem.W.OpenLaw.row PySem.Challenge.rw_evenhall_k16_sums_by_months))) s) (XP := PySem.W.XL K16.vw []) (Yf := PySem.W.Hook.obs (PySem.W.kHook K16.frag K16.adrs K16.adrs_eq)) (Ya := PySem.W.Hook.val (PySem.W.kHook K16.frag K16.adrs K16.adrs_eq)) (YP := PySem.W.Hook.says (PySem.W.kHook K16.frag K16.adrs K16.adrs_eq)) (N := 2182) K16.left (PySem.W.Hook.of (PySem.W.kHook K16.frag K16.adrs K16.adrs_eq)) (PySem.W.Hook.keeps (PySem.W.kHook K16.frag K16.adrs K16.adrs_eq))
    (fun s e => PySem.W.xl_of s (Bool.and_eq_true_iff.mp e).1) PySem.W.XL.keeps (by rfl) (by rfl) (by rfl) (fun s e => PySem.W.recFacts_of (Bool.and_eq_true_iff.mp e).2) (by rfl) (by assumption) (by decide +kernel) ⟨rfl, rfl, rfl, rfl, rfl, by decide +kernel⟩ ?hw ?hc
  (case hw => w_witness2)
  k_fill
  refine L2.qX (l := PySem.Challenge.rw_evenhall_k16_sums_by_months) (n := 63) (k := 10) (x := "_law_script") (sp := K16.sp_law) rfl (by decide) rfl ⟨rfl, by decide, by decide⟩ (fun w h Y => PySem.W.kIn_of Y) ?F ?S
  case F =>
    intro w mg fa h KX G hmg
    refine' K16.all_mk KX G hmg ?_ ?_ ?_ ?_ ?_ ?_ ?_ ?_ ?_ ?_ ?_ ?_ ?_ ?_ ?_ ?_ ?_ ?_ ?_ ?_ ?_ ?_ ?_ ?_ ?_ ?_ ?_ ?_ ?_ ?_ ?_ ?_ ?_ ?_ ?_ ?_ ?_ ?_ ?_ ?_ ?_ ?_ ?_ ?_ ?_ ?_ ?_ ?_ ?_ ?_ ?_ ?_ ?_ ?_ ?_ ?_ ?_ ?_ ?_ ?_ ?_ ?_ ?_ ?_ ?_ ?_ ?_ ?_ ?_ ?_ ?_ ?_ ?_ ?_ ?_ ?_ ?_ ?_ ?_ ?_ ?_ ?_ ?_ ?_ ?_ ?_ ?_ ?_ ?_ ?_ ?_ ?_ ?_ ?_ ?_ ?_ ?_ ?_ ?_ ?_ ?_ ?_ ?_ ?_ ?_ ?_ ?_ ?_ ?_ ?_ ?_ ?_ ?_ ?_ ?_ ?_ ?_ ?_ ?_ ?_ ?_ ?_ ?_ ?_
    all_goals try first | k_is | k_exc
    all_goals try first | k_is | k_exc
  case S => exact fun K H a ns hl hO hS => K16.law_starts hO hS hl