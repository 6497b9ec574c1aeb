import PyProof.Rows.All
import KE.KItem
import KE.KTupSum
import KE.KEqDict
import KE.KFromBytes
import KE.KIntText
import KE.KRevIter
import KE.KDictOf
import KE.LcSums
import KE.KDictSum
import KE.KTryMore
import OpenK.KLine
import OpenK.KOwn
import Wide.Line
import Wide.FinOn
import Lean
import PySem.Challenge.RW_evenhall_k17_statements
set_option Elab.async false
set_option linter.all false
set_option maxRecDepth 100000
namespace L2
open PySem
noncomputable def cZ (s : Stmt) (j : Nat) : Stmt := match s with
  | .ClassDef _ _ _ body _ _ _ _ _ _ _ => body.getD j (.Pass ⟨0, 0, 0, 0⟩)
  | _ => .Pass ⟨0, 0, 0, 0⟩
noncomputable def aA (s : Stmt) : Arguments := match s with
  | .FunctionDef _ a _ _ _ _ _ _ _ _ => a
  | _ => { posonlyargs := [], args := [], vararg := none, kwonlyargs := [], kw_defaults := [], kwarg := none, defaults := [] }
noncomputable def av (s : Stmt) : List Stmt := match s with
  | .FunctionDef _ _ b _ _ _ _ _ _ _ => b
  | _ => []
noncomputable def ag (s : Stmt) : Scope := match s with
  | .FunctionDef _ _ _ _ _ _ sc _ _ _ => sc
  | _ => { kind := .function, names := [], isGenerator := false, isCoroutine := false }
end L2
namespace K17
open PySem L2
noncomputable def top (i : Nat) : Stmt := PySem.Challenge.pw_evenhall_k17_statements.main.body.getD i (.Pass ⟨0, 0, 0, 0⟩)
noncomputable abbrev cD : Stmt := top 16
noncomputable abbrev cA : Stmt := top 17
noncomputable abbrev cf : Stmt := top 18
noncomputable abbrev cS : Stmt := top 19
noncomputable abbrev ce : Stmt := top 21
noncomputable abbrev cV : Stmt := top 22
noncomputable abbrev cC : Stmt := top 23
noncomputable abbrev eB : Stmt := top 24
noncomputable abbrev bT : Stmt := top 25
noncomputable abbrev aT : Stmt := top 27
noncomputable abbrev bF : Stmt := top 28
noncomputable abbrev dE : Stmt := top 30
noncomputable abbrev bv : Stmt := top 32
noncomputable abbrev bA : Stmt := top 40
noncomputable abbrev bM : Stmt := top 41
noncomputable abbrev bN : Stmt := top 42
noncomputable abbrev bO : Stmt := top 43
noncomputable abbrev bQ : Stmt := top 44
noncomputable abbrev bP : Stmt := top 45
noncomputable abbrev aX : Stmt := top 46
noncomputable abbrev bi : Stmt := top 47
noncomputable abbrev cj : Stmt := top 48
noncomputable abbrev bt : Stmt := top 49
noncomputable abbrev bU : Stmt := top 50
noncomputable abbrev bK : Stmt := top 51
noncomputable abbrev bd : Stmt := top 52
noncomputable abbrev bE : Stmt := top 53
noncomputable abbrev aZ : Stmt := top 54
noncomputable abbrev aW : Stmt := top 55
noncomputable abbrev dQ : Stmt := top 56
noncomputable abbrev aR : Stmt := cZ (top 35) 0
noncomputable abbrev aN : Stmt := cZ (top 35) 1
noncomputable abbrev bc : Stmt := cZ (top 36) 0
noncomputable abbrev a_ : Stmt := cZ (top 36) 1
noncomputable abbrev bR : Stmt := cZ (top 36) 2
noncomputable abbrev bS : Stmt := cZ (top 36) 4
noncomputable abbrev ba : Stmt := cZ (top 36) 5
noncomputable abbrev aS : Stmt := cZ (top 38) 0
noncomputable abbrev br : Stmt := cZ (top 38) 1
noncomputable abbrev bW : Stmt := cZ (top 38) 2
noncomputable abbrev bx : Stmt := cZ (top 38) 3
noncomputable abbrev bj : Stmt := cZ (top 38) 4
end K17
set_option Elab.async false
set_option linter.all false
namespace TR
open PySem PySem.W
def go (p : Program) (w : World) (lo : Nat) (an : Option Value) : Nat → SharedT → Thread → Option SharedT
  | 0, _, _ => none
  | k + 1, x, th => match through th with
    | true => some x
    | false => match stepOk lo an th with
      | false => none
      | true => match stepT (denote treeTable) p w x th with
        | none => none
        | some y => go p w lo an k y.1 y.2
theorem nA {p : Program} {w : World} {lo : Nat} {an : Option Value} (k : Nat) : ∀ {x y : SharedT} {th : Thread}, go p w lo an k x th = some y → topRun treeTable p w lo an k x.abs th = some y.abs := by
  induction k with
  | zero => intro x y th e; cases e
  | succ k ih =>
    intro x y th e
    unfold go at e
    unfold topRun
    revert e
    cases through th with
    | true => intro e; cases e; rfl
    | false =>
      cases stepOk lo an th with
      | false => intro e; cases e
      | true =>
        dsimp only
        cases z : stepT (denote treeTable) p w x th with
        | none => intro e; cases e
        | some v =>
          intro e
          obtain ⟨v1, v2⟩ := v
          rw [stepT_spec z]
          exact ih e
noncomputable def look (p : Program) (P : Params) (s : Shared) : Bool := staticsOk (importedModules p.main.body) (boot_heap P) s.heap && namesBound p s.heap && gensDone s && laidKept (boot_heap P) s.heap
theorem left {p q : Program} {ls : List Str} {Xt : Shared → Bool} {β : Type} {Yf : Shared → β} {Ya : World → β} {N lo : Nat} {an : Option Value} {tr : Params → BT}
    (ho : ∀ w : World, (fencedOpening treeTable p w N).map (fun s => (s.heap, s.gens, s.drawn, s.toks)) = some (boot_heap w.params, Array.mk [], boot_drawn, boot_toks))
    (hz : ∀ P : Params, ((boot_heap P).isNs mainGlobals, (boot_heap P).objs.size, (boot_heap P).nsMap mainGlobals "__annotations__") = (true, lo, an))
    (ht : ∀ P : Params, absHeap (tr P) lo (boot_heap P).life = boot_heap P)
    (hr : ∀ w : World, (fun os => (go p w lo an N ⟨tr w.params, lo, (boot_heap w.params).life, Array.mk [], boot_drawn, boot_toks, os⟩ (topStub p)).map fun x => (look p w.params x.abs, openSeen q ls (importedModules p.main.body) Xt true x.abs, Yf x.abs)) = fun _ => some (true, openGood q ls, Ya w)) :
    LeftO p q ls Xt Yf Ya N := by
  intro w
  obtain ⟨⟨h, g, d, k, os⟩, e1, e2⟩ := Option.map_eq_some_iff.mp (ho w)
  simp only [Prod.mk.injEq] at e2
  obtain ⟨rfl, rfl, rfl, rfl⟩ := e2
  have z := hz w.params
  simp only [Prod.mk.injEq] at z
  obtain ⟨z1, z2, z3⟩ := z
  obtain ⟨x, r1, r2⟩ := Option.map_eq_some_iff.mp (congrFun (hr w) os)
  simp only [Prod.mk.injEq] at r2
  obtain ⟨l1, l2, l3⟩ := r2
  have t := nA _ r1
  have ab : SharedT.abs ⟨tr w.params, lo, (boot_heap w.params).life, Array.mk [], boot_drawn, boot_toks, os⟩ = ⟨boot_heap w.params, Array.mk [], boot_drawn, boot_toks, os⟩ := by
    show Shared.mk (absHeap (tr w.params) lo (boot_heap w.params).life) _ _ _ _ = _
    rw [ht]
  rw [ab] at t
  have f : topFrom treeTable p w N ⟨boot_heap w.params, Array.mk [], boot_drawn, boot_toks, os⟩ = some x.abs := by
    unfold topFrom
    dsimp only
    rw [z1, z2, z3, t]
    show (match look p w.params x.abs with | true => some x.abs | false => none) = _
    rw [l1]
  unfold openEnds
  rw [e1]
  show (topFrom treeTable p w N _).map _ = _
  rw [f]
  show some (_, _) = _
  rw [l2, l3]
end TR
namespace K17
open PySem L2
abbrev kS (s : String) : Str := Str.ofString s
abbrev kR (a : Addr) : Value := .ref a
abbrev kY (s : String) : Value := .type s
abbrev kB (s : String) : Value := .builtin s
abbrev kZ (s : Str) (t : Tok) : Value := .str s t
abbrev kN : Value := .none
abbrev kD (h : Int) (k v : Value) : DictEntry := ⟨h, k, v⟩
abbrev kO (c : Value) (d : Option Addr) (t : Data) (s : Array (Option Value)) : Obj := ⟨c, d, t, s⟩
abbrev keyHash := PyData.keyHash
abbrev kE (P : Params) (s : String) (t : Tok) (v : Value) : DictEntry := ⟨keyHash P (kS s), kZ (kS s) t, v⟩
set_option maxRecDepth 100000 in
noncomputable def frag (P : Params) : PySem.W.Frag :=
  (nat_lit 2, (kO kN none (Data.dict #[] 0) #[]))::
  (nat_lit 3, (kO (kY "dict") none (Data.dict #[(kE P "__name__" 165 (kZ (kS "law_evenhall_k17_statements") 857)), (kE P "__doc__" 166 kN), (kE P "__package__" 167 kN), (kE P "__loader__" 168 (kB "__main__.__loader__#opaque")), (kE P "__spec__" 169 kN), (kE P "__annotations__" 170 (kR 6)), (kE P "__builtins__" 171 (kR 4)), (kE P "__file__" 173 (kZ (kS "/claim/cut.py") 172)), (kE P "__cached__" 174 kN), (kE P "_wall" 193 (kR 21)), (kE P "HouseError" 213 (kR 31)), (kE P "BadName" 236 (kR 51)), (kE P "BadDay" 259 (kR 70)), (kE P "BadCurrency" 282 (kR 89)), (kE P "BadPath" 305 (kR 108)), (kE P "BadKind" 328 (kR 127)), (kE P "NoAccount" 351 (kR 146)), (kE P "Twice" 374 (kR 165)), (kE P "NotOpen" 397 (kR 184)), (kE P "NoRate" 420 (kR 203)), (kE P "NoBooking" 443 (kR 222)), (kE P "NoBudget" 466 (kR 241)), (kE P "NoOrder" 489 (kR 260)), (kE P "is_whole" 498 (kR 269)), (kE P "is_among" 507 (kR 276)), (kE P "signs_lie" 513 (kR 281)), (kE P "is_name" 520 (kR 288)), (kE P "are_names" 528 (kR 293)), (kE P "is_path" 535 (kR 300)), (kE P "names_of" 542 (kR 307)), (kE P "above" 548 (kR 312)), (kE P "is_within" 556 (kR 319)), (kE P "amounts_within" 564 (kR 324)), (kE P "statement" 585 (kR 331)), (kE P "is_day" 594 (kR 338)), (kE P "is_currency" 603 (kR 345)), (kE P "KINDS" 611 (kR 346)), (kE P "Account" 662 (kR 377)), (kE P "Chart" 783 (kR 475)), (kE P "Journal" 856 (kR 531)), (kE P "_law_cell_at" 866 (kR 542)), (kE P "_law_mixed" 874 (kR 549)), (kE P "_law_whole" 881 (kR 556)), (kE P "_law_names" 887 (kR 561)), (kE P "_law_paths" 901 (kR 568)), (kE P "_law_chart" 911 (kR 575)), (kE P "_law_currencies" 917 (kR 580)), (kE P "_law_first" 928 (kR 587)), (kE P "_law_day" 936 (kR 594)), (kE P "_law_amount" 944 (kR 601)), (kE P "_law_rows" 958 (kR 608)), (kE P "_law_due" 964 (kR 613)), (kE P "_law_told" 970 (kR 618)), (kE P "_law_asked" 982 (kR 625)), (kE P "_law_no_account" 994 (kR 632)), (kE P "_law_comes_then" 1008 (kR 639)), (kE P "law" 1014 (kR 644))] 57) #[]))::
  (nat_lit 15, (kO (kY "tuple") none (Data.seq #[] 0) #[]))::
  (nat_lit 17, (kO (kY "tuple") none (Data.seq #[(kZ (kS "k") 190)] 0) #[]))::
  (nat_lit 18, (kO (kY "tuple") none (Data.seq #[] 0) #[]))::
  (nat_lit 20, (kO (kY "code") none (Data.fields #[(kZ (kS "_wall") 187), (kZ (kS "_wall") 188), (kZ (kS "/claim/cut.py") 189), (PySem.Value.int (1 : Int) 0), (PySem.Value.int (1 : Int) 0), (PySem.Value.int (0 : Int) 0), (PySem.Value.int (0 : Int) 0), (PySem.Value.int (3 : Int) 0), (kR 15), (PySem.Value.bool true), (PySem.Value.int (181 : Int) 0), (kR 16), kN, (kR 17), (kR 18), (kR 19), (PySem.Value.int (191 : Int) 0), (PySem.Value.int (1 : Int) 0), (kZ (kS "/claim/cut.py") 192)]) #[]))::
  (nat_lit 21, (kO (kY "function") none (Data.func (PySem.FuncData.mk (kS "_wall") (kS "_wall") (PySem.Arguments.mk [] [(PySem.Arg.mk (kS "k") none (PySem.Pos.mk 1 10 1 11))] none [] [] none []) (PySem.FuncBody.stmts [(PySem.Stmt.While (PySem.Expr.Constant (PySem.Const.bool true) 0 (PySem.Pos.mk 2 10 2 14)) [(PySem.Stmt.Pass (PySem.Pos.mk 3 8 3 12))] [] (PySem.Pos.mk 2 4 3 12))]) (PySem.Scope.mk PySem.ScopeKind.function [((kS "k"), PySem.NameKind.local)] false false []) 3 [] kN kN kN (kZ (kS "__main__") 164) none (kR 20) kN 0)) #[]))::
  (nat_lit 22, (kO (kY "tuple") none (Data.seq #[(kY "ValueError")] 0) #[]))::
  (nat_lit 29, (kO (kY "tuple") none (Data.seq #[] 0) #[]))::
  (nat_lit 30, (kO (kY "dict") none (Data.dict #[(kE P "__module__" 203 (kZ (kS "evenhall.errors") 194)), (kE P "__firstlineno__" 207 (PySem.Value.int (5 : Int) 206)), (kE P "__static_attributes__" 208 (kR 29)), (kE P "__weakref__" 210 (kR 32)), (kE P "__doc__" 211 kN)] 3) #[]))::
  (nat_lit 31, (kO (kY "type") none (Data.cls (PySem.ClassData.mk (kS "HouseError") [(kY "ValueError")] [(kR 31), (kY "ValueError"), (kY "Exception"), (kY "BaseException"), (kY "object")] 30 (kS "HouseError") true [] [(kR 51), (kR 70), (kR 89), (kR 108), (kR 127), (kR 146), (kR 165), (kR 184), (kR 203), (kR 222), (kR 241), (kR 260)] false none false)) #[(some (kR 22)), none, (some (kZ (kS "HouseError") 196)), (some (kZ (kS "HouseError") 204)), (some (kB "ValueError.__new__")), (some (PySem.Value.bool true))]))::
  (nat_lit 32, (kO (kY "getset_descriptor") none (Data.fields #[(kZ (kS "__weakref__") 209), (kR 31), (kB "ExceptionGroup.__weakref__"), kN]) #[]))::
  (nat_lit 35, (kO (kY "tuple") none (Data.seq #[(kR 31)] 0) #[]))::
  (nat_lit 42, (kO (kY "tuple") none (Data.seq #[] 0) #[]))::
  (nat_lit 44, (kO (kY "tuple") none (Data.seq #[(kZ (kS "self") 229)] 0) #[]))::
  (nat_lit 45, (kO (kY "tuple") none (Data.seq #[] 0) #[]))::
  (nat_lit 47, (kO (kY "code") none (Data.fields #[(kZ (kS "small_words") 226), (kZ (kS "BadName.small_words") 227), (kZ (kS "/claim/cut.py") 228), (PySem.Value.int (9 : Int) 0), (PySem.Value.int (1 : Int) 0), (PySem.Value.int (0 : Int) 0), (PySem.Value.int (0 : Int) 0), (PySem.Value.int (3 : Int) 0), (kR 42), (PySem.Value.bool true), (PySem.Value.int (181 : Int) 0), (kR 43), kN, (kR 44), (kR 45), (kR 46), (PySem.Value.int (230 : Int) 0), (PySem.Value.int (9 : Int) 0), (kZ (kS "/claim/cut.py") 231)]) #[]))::
  (nat_lit 48, (kO (kY "function") none (Data.func (PySem.FuncData.mk (kS "small_words") (kS "BadName.small_words") (PySem.Arguments.mk [] [(PySem.Arg.mk (kS "self") none (PySem.Pos.mk 9 20 9 24))] none [] [] none []) (PySem.FuncBody.stmts [(PySem.Stmt.Expr (PySem.Expr.Call (PySem.Expr.Name (kS "_wall") (PySem.Pos.mk 10 8 10 13)) [(PySem.Expr.Constant (PySem.Const.int (0 : Int)) 0 (PySem.Pos.mk 10 14 10 15))] [] (PySem.Pos.mk 10 8 10 16)) (PySem.Pos.mk 10 8 10 16))]) (PySem.Scope.mk PySem.ScopeKind.function [((kS "self"), PySem.NameKind.local), ((kS "_wall"), PySem.NameKind.globalImplicit)] false false []) 3 [] kN kN kN (kZ (kS "evenhall.errors") 194) none (kR 47) kN 0)) #[]))::
  (nat_lit 49, (kO (kY "tuple") none (Data.seq #[] 0) #[]))::
  (nat_lit 50, (kO (kY "dict") none (Data.dict #[(kE P "__module__" 221 (kZ (kS "evenhall.errors") 194)), (kE P "__firstlineno__" 225 (PySem.Value.int (7 : Int) 224)), (kE P "small_words" 232 (kR 48)), (kE P "__static_attributes__" 233 (kR 49)), (kE P "__doc__" 234 kN)] 2) #[]))::
  (nat_lit 51, (kO (kY "type") none (Data.cls (PySem.ClassData.mk (kS "BadName") [(kR 31)] [(kR 51), (kR 31), (kY "ValueError"), (kY "Exception"), (kY "BaseException"), (kY "object")] 50 (kS "BadName") true [] [] false none false)) #[(some (kR 35)), none, (some (kZ (kS "BadName") 214)), (some (kZ (kS "BadName") 222)), (some (kB "ValueError.__new__")), (some (PySem.Value.bool true))]))::
  (nat_lit 54, (kO (kY "tuple") none (Data.seq #[(kR 31)] 0) #[]))::
  (nat_lit 61, (kO (kY "tuple") none (Data.seq #[] 0) #[]))::
  (nat_lit 63, (kO (kY "tuple") none (Data.seq #[(kZ (kS "self") 252)] 0) #[]))::
  (nat_lit 64, (kO (kY "tuple") none (Data.seq #[] 0) #[]))::
  (nat_lit 66, (kO (kY "code") none (Data.fields #[(kZ (kS "small_words") 249), (kZ (kS "BadDay.small_words") 250), (kZ (kS "/claim/cut.py") 251), (PySem.Value.int (13 : Int) 0), (PySem.Value.int (1 : Int) 0), (PySem.Value.int (0 : Int) 0), (PySem.Value.int (0 : Int) 0), (PySem.Value.int (3 : Int) 0), (kR 61), (PySem.Value.bool true), (PySem.Value.int (181 : Int) 0), (kR 62), kN, (kR 63), (kR 64), (kR 65), (PySem.Value.int (253 : Int) 0), (PySem.Value.int (13 : Int) 0), (kZ (kS "/claim/cut.py") 254)]) #[]))::
  (nat_lit 67, (kO (kY "function") none (Data.func (PySem.FuncData.mk (kS "small_words") (kS "BadDay.small_words") (PySem.Arguments.mk [] [(PySem.Arg.mk (kS "self") none (PySem.Pos.mk 13 20 13 24))] none [] [] none []) (PySem.FuncBody.stmts [(PySem.Stmt.Expr (PySem.Expr.Call (PySem.Expr.Name (kS "_wall") (PySem.Pos.mk 14 8 14 13)) [(PySem.Expr.Constant (PySem.Const.int (1 : Int)) 0 (PySem.Pos.mk 14 14 14 15))] [] (PySem.Pos.mk 14 8 14 16)) (PySem.Pos.mk 14 8 14 16))]) (PySem.Scope.mk PySem.ScopeKind.function [((kS "self"), PySem.NameKind.local), ((kS "_wall"), PySem.NameKind.globalImplicit)] false false []) 3 [] kN kN kN (kZ (kS "evenhall.errors") 194) none (kR 66) kN 0)) #[]))::
  (nat_lit 68, (kO (kY "tuple") none (Data.seq #[] 0) #[]))::
  (nat_lit 69, (kO (kY "dict") none (Data.dict #[(kE P "__module__" 244 (kZ (kS "evenhall.errors") 194)), (kE P "__firstlineno__" 248 (PySem.Value.int (11 : Int) 247)), (kE P "small_words" 255 (kR 67)), (kE P "__static_attributes__" 256 (kR 68)), (kE P "__doc__" 257 kN)] 2) #[]))::
  (nat_lit 70, (kO (kY "type") none (Data.cls (PySem.ClassData.mk (kS "BadDay") [(kR 31)] [(kR 70), (kR 31), (kY "ValueError"), (kY "Exception"), (kY "BaseException"), (kY "object")] 69 (kS "BadDay") true [] [] false none false)) #[(some (kR 54)), none, (some (kZ (kS "BadDay") 237)), (some (kZ (kS "BadDay") 245)), (some (kB "ValueError.__new__")), (some (PySem.Value.bool true))]))::
  (nat_lit 73, (kO (kY "tuple") none (Data.seq #[(kR 31)] 0) #[]))::
  (nat_lit 80, (kO (kY "tuple") none (Data.seq #[] 0) #[]))::
  (nat_lit 82, (kO (kY "tuple") none (Data.seq #[(kZ (kS "self") 275)] 0) #[]))::
  (nat_lit 83, (kO (kY "tuple") none (Data.seq #[] 0) #[]))::
  (nat_lit 85, (kO (kY "code") none (Data.fields #[(kZ (kS "small_words") 272), (kZ (kS "BadCurrency.small_words") 273), (kZ (kS "/claim/cut.py") 274), (PySem.Value.int (17 : Int) 0), (PySem.Value.int (1 : Int) 0), (PySem.Value.int (0 : Int) 0), (PySem.Value.int (0 : Int) 0), (PySem.Value.int (3 : Int) 0), (kR 80), (PySem.Value.bool true), (PySem.Value.int (181 : Int) 0), (kR 81), kN, (kR 82), (kR 83), (kR 84), (PySem.Value.int (276 : Int) 0), (PySem.Value.int (17 : Int) 0), (kZ (kS "/claim/cut.py") 277)]) #[]))::
  (nat_lit 86, (kO (kY "function") none (Data.func (PySem.FuncData.mk (kS "small_words") (kS "BadCurrency.small_words") (PySem.Arguments.mk [] [(PySem.Arg.mk (kS "self") none (PySem.Pos.mk 17 20 17 24))] none [] [] none []) (PySem.FuncBody.stmts [(PySem.Stmt.Expr (PySem.Expr.Call (PySem.Expr.Name (kS "_wall") (PySem.Pos.mk 18 8 18 13)) [(PySem.Expr.Constant (PySem.Const.int (2 : Int)) 0 (PySem.Pos.mk 18 14 18 15))] [] (PySem.Pos.mk 18 8 18 16)) (PySem.Pos.mk 18 8 18 16))]) (PySem.Scope.mk PySem.ScopeKind.function [((kS "self"), PySem.NameKind.local), ((kS "_wall"), PySem.NameKind.globalImplicit)] false false []) 3 [] kN kN kN (kZ (kS "evenhall.errors") 194) none (kR 85) kN 0)) #[]))::
  (nat_lit 87, (kO (kY "tuple") none (Data.seq #[] 0) #[]))::
  (nat_lit 88, (kO (kY "dict") none (Data.dict #[(kE P "__module__" 267 (kZ (kS "evenhall.errors") 194)), (kE P "__firstlineno__" 271 (PySem.Value.int (15 : Int) 270)), (kE P "small_words" 278 (kR 86)), (kE P "__static_attributes__" 279 (kR 87)), (kE P "__doc__" 280 kN)] 2) #[]))::
  (nat_lit 89, (kO (kY "type") none (Data.cls (PySem.ClassData.mk (kS "BadCurrency") [(kR 31)] [(kR 89), (kR 31), (kY "ValueError"), (kY "Exception"), (kY "BaseException"), (kY "object")] 88 (kS "BadCurrency") true [] [] false none false)) #[(some (kR 73)), none, (some (kZ (kS "BadCurrency") 260)), (some (kZ (kS "BadCurrency") 268)), (some (kB "ValueError.__new__")), (some (PySem.Value.bool true))]))::
  (nat_lit 92, (kO (kY "tuple") none (Data.seq #[(kR 31)] 0) #[]))::
  (nat_lit 99, (kO (kY "tuple") none (Data.seq #[] 0) #[]))::
  (nat_lit 101, (kO (kY "tuple") none (Data.seq #[(kZ (kS "self") 298)] 0) #[]))::
  (nat_lit 102, (kO (kY "tuple") none (Data.seq #[] 0) #[]))::
  (nat_lit 104, (kO (kY "code") none (Data.fields #[(kZ (kS "small_words") 295), (kZ (kS "BadPath.small_words") 296), (kZ (kS "/claim/cut.py") 297), (PySem.Value.int (21 : Int) 0), (PySem.Value.int (1 : Int) 0), (PySem.Value.int (0 : Int) 0), (PySem.Value.int (0 : Int) 0), (PySem.Value.int (3 : Int) 0), (kR 99), (PySem.Value.bool true), (PySem.Value.int (181 : Int) 0), (kR 100), kN, (kR 101), (kR 102), (kR 103), (PySem.Value.int (299 : Int) 0), (PySem.Value.int (21 : Int) 0), (kZ (kS "/claim/cut.py") 300)]) #[]))::
  (nat_lit 105, (kO (kY "function") none (Data.func (PySem.FuncData.mk (kS "small_words") (kS "BadPath.small_words") (PySem.Arguments.mk [] [(PySem.Arg.mk (kS "self") none (PySem.Pos.mk 21 20 21 24))] none [] [] none []) (PySem.FuncBody.stmts [(PySem.Stmt.Expr (PySem.Expr.Call (PySem.Expr.Name (kS "_wall") (PySem.Pos.mk 22 8 22 13)) [(PySem.Expr.Constant (PySem.Const.int (3 : Int)) 0 (PySem.Pos.mk 22 14 22 15))] [] (PySem.Pos.mk 22 8 22 16)) (PySem.Pos.mk 22 8 22 16))]) (PySem.Scope.mk PySem.ScopeKind.function [((kS "self"), PySem.NameKind.local), ((kS "_wall"), PySem.NameKind.globalImplicit)] false false []) 3 [] kN kN kN (kZ (kS "evenhall.errors") 194) none (kR 104) kN 0)) #[]))::
  (nat_lit 106, (kO (kY "tuple") none (Data.seq #[] 0) #[]))::
  (nat_lit 107, (kO (kY "dict") none (Data.dict #[(kE P "__module__" 290 (kZ (kS "evenhall.errors") 194)), (kE P "__firstlineno__" 294 (PySem.Value.int (19 : Int) 293)), (kE P "small_words" 301 (kR 105)), (kE P "__static_attributes__" 302 (kR 106)), (kE P "__doc__" 303 kN)] 2) #[]))::
  (nat_lit 108, (kO (kY "type") none (Data.cls (PySem.ClassData.mk (kS "BadPath") [(kR 31)] [(kR 108), (kR 31), (kY "ValueError"), (kY "Exception"), (kY "BaseException"), (kY "object")] 107 (kS "BadPath") true [] [] false none false)) #[(some (kR 92)), none, (some (kZ (kS "BadPath") 283)), (some (kZ (kS "BadPath") 291)), (some (kB "ValueError.__new__")), (some (PySem.Value.bool true))]))::
  (nat_lit 111, (kO (kY "tuple") none (Data.seq #[(kR 31)] 0) #[]))::
  (nat_lit 118, (kO (kY "tuple") none (Data.seq #[] 0) #[]))::
  (nat_lit 120, (kO (kY "tuple") none (Data.seq #[(kZ (kS "self") 321)] 0) #[]))::
  (nat_lit 121, (kO (kY "tuple") none (Data.seq #[] 0) #[]))::
  (nat_lit 123, (kO (kY "code") none (Data.fields #[(kZ (kS "small_words") 318), (kZ (kS "BadKind.small_words") 319), (kZ (kS "/claim/cut.py") 320), (PySem.Value.int (25 : Int) 0), (PySem.Value.int (1 : Int) 0), (PySem.Value.int (0 : Int) 0), (PySem.Value.int (0 : Int) 0), (PySem.Value.int (3 : Int) 0), (kR 118), (PySem.Value.bool true), (PySem.Value.int (181 : Int) 0), (kR 119), kN, (kR 120), (kR 121), (kR 122), (PySem.Value.int (322 : Int) 0), (PySem.Value.int (25 : Int) 0), (kZ (kS "/claim/cut.py") 323)]) #[]))::
  (nat_lit 124, (kO (kY "function") none (Data.func (PySem.FuncData.mk (kS "small_words") (kS "BadKind.small_words") (PySem.Arguments.mk [] [(PySem.Arg.mk (kS "self") none (PySem.Pos.mk 25 20 25 24))] none [] [] none []) (PySem.FuncBody.stmts [(PySem.Stmt.Expr (PySem.Expr.Call (PySem.Expr.Name (kS "_wall") (PySem.Pos.mk 26 8 26 13)) [(PySem.Expr.Constant (PySem.Const.int (4 : Int)) 0 (PySem.Pos.mk 26 14 26 15))] [] (PySem.Pos.mk 26 8 26 16)) (PySem.Pos.mk 26 8 26 16))]) (PySem.Scope.mk PySem.ScopeKind.function [((kS "self"), PySem.NameKind.local), ((kS "_wall"), PySem.NameKind.globalImplicit)] false false []) 3 [] kN kN kN (kZ (kS "evenhall.errors") 194) none (kR 123) kN 0)) #[]))::
  (nat_lit 125, (kO (kY "tuple") none (Data.seq #[] 0) #[]))::
  (nat_lit 126, (kO (kY "dict") none (Data.dict #[(kE P "__module__" 313 (kZ (kS "evenhall.errors") 194)), (kE P "__firstlineno__" 317 (PySem.Value.int (23 : Int) 316)), (kE P "small_words" 324 (kR 124)), (kE P "__static_attributes__" 325 (kR 125)), (kE P "__doc__" 326 kN)] 2) #[]))::
  (nat_lit 127, (kO (kY "type") none (Data.cls (PySem.ClassData.mk (kS "BadKind") [(kR 31)] [(kR 127), (kR 31), (kY "ValueError"), (kY "Exception"), (kY "BaseException"), (kY "object")] 126 (kS "BadKind") true [] [] false none false)) #[(some (kR 111)), none, (some (kZ (kS "BadKind") 306)), (some (kZ (kS "BadKind") 314)), (some (kB "ValueError.__new__")), (some (PySem.Value.bool true))]))::
  (nat_lit 130, (kO (kY "tuple") none (Data.seq #[(kR 31)] 0) #[]))::
  (nat_lit 137, (kO (kY "tuple") none (Data.seq #[] 0) #[]))::
  (nat_lit 139, (kO (kY "tuple") none (Data.seq #[(kZ (kS "self") 344)] 0) #[]))::
  (nat_lit 140, (kO (kY "tuple") none (Data.seq #[] 0) #[]))::
  (nat_lit 142, (kO (kY "code") none (Data.fields #[(kZ (kS "small_words") 341), (kZ (kS "NoAccount.small_words") 342), (kZ (kS "/claim/cut.py") 343), (PySem.Value.int (29 : Int) 0), (PySem.Value.int (1 : Int) 0), (PySem.Value.int (0 : Int) 0), (PySem.Value.int (0 : Int) 0), (PySem.Value.int (3 : Int) 0), (kR 137), (PySem.Value.bool true), (PySem.Value.int (181 : Int) 0), (kR 138), kN, (kR 139), (kR 140), (kR 141), (PySem.Value.int (345 : Int) 0), (PySem.Value.int (29 : Int) 0), (kZ (kS "/claim/cut.py") 346)]) #[]))::
  (nat_lit 143, (kO (kY "function") none (Data.func (PySem.FuncData.mk (kS "small_words") (kS "NoAccount.small_words") (PySem.Arguments.mk [] [(PySem.Arg.mk (kS "self") none (PySem.Pos.mk 29 20 29 24))] none [] [] none []) (PySem.FuncBody.stmts [(PySem.Stmt.Expr (PySem.Expr.Call (PySem.Expr.Name (kS "_wall") (PySem.Pos.mk 30 8 30 13)) [(PySem.Expr.Constant (PySem.Const.int (5 : Int)) 0 (PySem.Pos.mk 30 14 30 15))] [] (PySem.Pos.mk 30 8 30 16)) (PySem.Pos.mk 30 8 30 16))]) (PySem.Scope.mk PySem.ScopeKind.function [((kS "self"), PySem.NameKind.local), ((kS "_wall"), PySem.NameKind.globalImplicit)] false false []) 3 [] kN kN kN (kZ (kS "evenhall.errors") 194) none (kR 142) kN 0)) #[]))::
  (nat_lit 144, (kO (kY "tuple") none (Data.seq #[] 0) #[]))::
  (nat_lit 145, (kO (kY "dict") none (Data.dict #[(kE P "__module__" 336 (kZ (kS "evenhall.errors") 194)), (kE P "__firstlineno__" 340 (PySem.Value.int (27 : Int) 339)), (kE P "small_words" 347 (kR 143)), (kE P "__static_attributes__" 348 (kR 144)), (kE P "__doc__" 349 kN)] 2) #[]))::
  (nat_lit 146, (kO (kY "type") none (Data.cls (PySem.ClassData.mk (kS "NoAccount") [(kR 31)] [(kR 146), (kR 31), (kY "ValueError"), (kY "Exception"), (kY "BaseException"), (kY "object")] 145 (kS "NoAccount") true [] [] false none false)) #[(some (kR 130)), none, (some (kZ (kS "NoAccount") 329)), (some (kZ (kS "NoAccount") 337)), (some (kB "ValueError.__new__")), (some (PySem.Value.bool true))]))::
  (nat_lit 149, (kO (kY "tuple") none (Data.seq #[(kR 31)] 0) #[]))::
  (nat_lit 156, (kO (kY "tuple") none (Data.seq #[] 0) #[]))::
  (nat_lit 158, (kO (kY "tuple") none (Data.seq #[(kZ (kS "self") 367)] 0) #[]))::
  (nat_lit 159, (kO (kY "tuple") none (Data.seq #[] 0) #[]))::
  (nat_lit 161, (kO (kY "code") none (Data.fields #[(kZ (kS "small_words") 364), (kZ (kS "Twice.small_words") 365), (kZ (kS "/claim/cut.py") 366), (PySem.Value.int (33 : Int) 0), (PySem.Value.int (1 : Int) 0), (PySem.Value.int (0 : Int) 0), (PySem.Value.int (0 : Int) 0), (PySem.Value.int (3 : Int) 0), (kR 156), (PySem.Value.bool true), (PySem.Value.int (181 : Int) 0), (kR 157), kN, (kR 158), (kR 159), (kR 160), (PySem.Value.int (368 : Int) 0), (PySem.Value.int (33 : Int) 0), (kZ (kS "/claim/cut.py") 369)]) #[]))::
  (nat_lit 162, (kO (kY "function") none (Data.func (PySem.FuncData.mk (kS "small_words") (kS "Twice.small_words") (PySem.Arguments.mk [] [(PySem.Arg.mk (kS "self") none (PySem.Pos.mk 33 20 33 24))] none [] [] none []) (PySem.FuncBody.stmts [(PySem.Stmt.Expr (PySem.Expr.Call (PySem.Expr.Name (kS "_wall") (PySem.Pos.mk 34 8 34 13)) [(PySem.Expr.Constant (PySem.Const.int (6 : Int)) 0 (PySem.Pos.mk 34 14 34 15))] [] (PySem.Pos.mk 34 8 34 16)) (PySem.Pos.mk 34 8 34 16))]) (PySem.Scope.mk PySem.ScopeKind.function [((kS "self"), PySem.NameKind.local), ((kS "_wall"), PySem.NameKind.globalImplicit)] false false []) 3 [] kN kN kN (kZ (kS "evenhall.errors") 194) none (kR 161) kN 0)) #[]))::
  (nat_lit 163, (kO (kY "tuple") none (Data.seq #[] 0) #[]))::
  (nat_lit 164, (kO (kY "dict") none (Data.dict #[(kE P "__module__" 359 (kZ (kS "evenhall.errors") 194)), (kE P "__firstlineno__" 363 (PySem.Value.int (31 : Int) 362)), (kE P "small_words" 370 (kR 162)), (kE P "__static_attributes__" 371 (kR 163)), (kE P "__doc__" 372 kN)] 2) #[]))::
  (nat_lit 165, (kO (kY "type") none (Data.cls (PySem.ClassData.mk (kS "Twice") [(kR 31)] [(kR 165), (kR 31), (kY "ValueError"), (kY "Exception"), (kY "BaseException"), (kY "object")] 164 (kS "Twice") true [] [] false none false)) #[(some (kR 149)), none, (some (kZ (kS "Twice") 352)), (some (kZ (kS "Twice") 360)), (some (kB "ValueError.__new__")), (some (PySem.Value.bool true))]))::
  (nat_lit 168, (kO (kY "tuple") none (Data.seq #[(kR 31)] 0) #[]))::
  (nat_lit 175, (kO (kY "tuple") none (Data.seq #[] 0) #[]))::
  (nat_lit 177, (kO (kY "tuple") none (Data.seq #[(kZ (kS "self") 390)] 0) #[]))::
  (nat_lit 178, (kO (kY "tuple") none (Data.seq #[] 0) #[]))::
  (nat_lit 180, (kO (kY "code") none (Data.fields #[(kZ (kS "small_words") 387), (kZ (kS "NotOpen.small_words") 388), (kZ (kS "/claim/cut.py") 389), (PySem.Value.int (37 : Int) 0), (PySem.Value.int (1 : Int) 0), (PySem.Value.int (0 : Int) 0), (PySem.Value.int (0 : Int) 0), (PySem.Value.int (3 : Int) 0), (kR 175), (PySem.Value.bool true), (PySem.Value.int (181 : Int) 0), (kR 176), kN, (kR 177), (kR 178), (kR 179), (PySem.Value.int (391 : Int) 0), (PySem.Value.int (37 : Int) 0), (kZ (kS "/claim/cut.py") 392)]) #[]))::
  (nat_lit 181, (kO (kY "function") none (Data.func (PySem.FuncData.mk (kS "small_words") (kS "NotOpen.small_words") (PySem.Arguments.mk [] [(PySem.Arg.mk (kS "self") none (PySem.Pos.mk 37 20 37 24))] none [] [] none []) (PySem.FuncBody.stmts [(PySem.Stmt.Expr (PySem.Expr.Call (PySem.Expr.Name (kS "_wall") (PySem.Pos.mk 38 8 38 13)) [(PySem.Expr.Constant (PySem.Const.int (7 : Int)) 0 (PySem.Pos.mk 38 14 38 15))] [] (PySem.Pos.mk 38 8 38 16)) (PySem.Pos.mk 38 8 38 16))]) (PySem.Scope.mk PySem.ScopeKind.function [((kS "self"), PySem.NameKind.local), ((kS "_wall"), PySem.NameKind.globalImplicit)] false false []) 3 [] kN kN kN (kZ (kS "evenhall.errors") 194) none (kR 180) kN 0)) #[]))::
  (nat_lit 182, (kO (kY "tuple") none (Data.seq #[] 0) #[]))::
  (nat_lit 183, (kO (kY "dict") none (Data.dict #[(kE P "__module__" 382 (kZ (kS "evenhall.errors") 194)), (kE P "__firstlineno__" 386 (PySem.Value.int (35 : Int) 385)), (kE P "small_words" 393 (kR 181)), (kE P "__static_attributes__" 394 (kR 182)), (kE P "__doc__" 395 kN)] 2) #[]))::
  (nat_lit 184, (kO (kY "type") none (Data.cls (PySem.ClassData.mk (kS "NotOpen") [(kR 31)] [(kR 184), (kR 31), (kY "ValueError"), (kY "Exception"), (kY "BaseException"), (kY "object")] 183 (kS "NotOpen") true [] [] false none false)) #[(some (kR 168)), none, (some (kZ (kS "NotOpen") 375)), (some (kZ (kS "NotOpen") 383)), (some (kB "ValueError.__new__")), (some (PySem.Value.bool true))]))::
  (nat_lit 187, (kO (kY "tuple") none (Data.seq #[(kR 31)] 0) #[]))::
  (nat_lit 194, (kO (kY "tuple") none (Data.seq #[] 0) #[]))::
  (nat_lit 196, (kO (kY "tuple") none (Data.seq #[(kZ (kS "self") 413)] 0) #[]))::
  (nat_lit 197, (kO (kY "tuple") none (Data.seq #[] 0) #[]))::
  (nat_lit 199, (kO (kY "code") none (Data.fields #[(kZ (kS "small_words") 410), (kZ (kS "NoRate.small_words") 411), (kZ (kS "/claim/cut.py") 412), (PySem.Value.int (41 : Int) 0), (PySem.Value.int (1 : Int) 0), (PySem.Value.int (0 : Int) 0), (PySem.Value.int (0 : Int) 0), (PySem.Value.int (3 : Int) 0), (kR 194), (PySem.Value.bool true), (PySem.Value.int (181 : Int) 0), (kR 195), kN, (kR 196), (kR 197), (kR 198), (PySem.Value.int (414 : Int) 0), (PySem.Value.int (41 : Int) 0), (kZ (kS "/claim/cut.py") 415)]) #[]))::
  (nat_lit 200, (kO (kY "function") none (Data.func (PySem.FuncData.mk (kS "small_words") (kS "NoRate.small_words") (PySem.Arguments.mk [] [(PySem.Arg.mk (kS "self") none (PySem.Pos.mk 41 20 41 24))] none [] [] none []) (PySem.FuncBody.stmts [(PySem.Stmt.Expr (PySem.Expr.Call (PySem.Expr.Name (kS "_wall") (PySem.Pos.mk 42 8 42 13)) [(PySem.Expr.Constant (PySem.Const.int (8 : Int)) 0 (PySem.Pos.mk 42 14 42 15))] [] (PySem.Pos.mk 42 8 42 16)) (PySem.Pos.mk 42 8 42 16))]) (PySem.Scope.mk PySem.ScopeKind.function [((kS "self"), PySem.NameKind.local), ((kS "_wall"), PySem.NameKind.globalImplicit)] false false []) 3 [] kN kN kN (kZ (kS "evenhall.errors") 194) none (kR 199) kN 0)) #[]))::
  (nat_lit 201, (kO (kY "tuple") none (Data.seq #[] 0) #[]))::
  (nat_lit 202, (kO (kY "dict") none (Data.dict #[(kE P "__module__" 405 (kZ (kS "evenhall.errors") 194)), (kE P "__firstlineno__" 409 (PySem.Value.int (39 : Int) 408)), (kE P "small_words" 416 (kR 200)), (kE P "__static_attributes__" 417 (kR 201)), (kE P "__doc__" 418 kN)] 2) #[]))::
  (nat_lit 203, (kO (kY "type") none (Data.cls (PySem.ClassData.mk (kS "NoRate") [(kR 31)] [(kR 203), (kR 31), (kY "ValueError"), (kY "Exception"), (kY "BaseException"), (kY "object")] 202 (kS "NoRate") true [] [] false none false)) #[(some (kR 187)), none, (some (kZ (kS "NoRate") 398)), (some (kZ (kS "NoRate") 406)), (some (kB "ValueError.__new__")), (some (PySem.Value.bool true))]))::
  (nat_lit 206, (kO (kY "tuple") none (Data.seq #[(kR 31)] 0) #[]))::
  (nat_lit 213, (kO (kY "tuple") none (Data.seq #[] 0) #[]))::
  (nat_lit 215, (kO (kY "tuple") none (Data.seq #[(kZ (kS "self") 436)] 0) #[]))::
  (nat_lit 216, (kO (kY "tuple") none (Data.seq #[] 0) #[]))::
  (nat_lit 218, (kO (kY "code") none (Data.fields #[(kZ (kS "small_words") 433), (kZ (kS "NoBooking.small_words") 434), (kZ (kS "/claim/cut.py") 435), (PySem.Value.int (45 : Int) 0), (PySem.Value.int (1 : Int) 0), (PySem.Value.int (0 : Int) 0), (PySem.Value.int (0 : Int) 0), (PySem.Value.int (3 : Int) 0), (kR 213), (PySem.Value.bool true), (PySem.Value.int (181 : Int) 0), (kR 214), kN, (kR 215), (kR 216), (kR 217), (PySem.Value.int (437 : Int) 0), (PySem.Value.int (45 : Int) 0), (kZ (kS "/claim/cut.py") 438)]) #[]))::
  (nat_lit 219, (kO (kY "function") none (Data.func (PySem.FuncData.mk (kS "small_words") (kS "NoBooking.small_words") (PySem.Arguments.mk [] [(PySem.Arg.mk (kS "self") none (PySem.Pos.mk 45 20 45 24))] none [] [] none []) (PySem.FuncBody.stmts [(PySem.Stmt.Expr (PySem.Expr.Call (PySem.Expr.Name (kS "_wall") (PySem.Pos.mk 46 8 46 13)) [(PySem.Expr.Constant (PySem.Const.int (9 : Int)) 0 (PySem.Pos.mk 46 14 46 15))] [] (PySem.Pos.mk 46 8 46 16)) (PySem.Pos.mk 46 8 46 16))]) (PySem.Scope.mk PySem.ScopeKind.function [((kS "self"), PySem.NameKind.local), ((kS "_wall"), PySem.NameKind.globalImplicit)] false false []) 3 [] kN kN kN (kZ (kS "evenhall.errors") 194) none (kR 218) kN 0)) #[]))::
  (nat_lit 220, (kO (kY "tuple") none (Data.seq #[] 0) #[]))::
  (nat_lit 221, (kO (kY "dict") none (Data.dict #[(kE P "__module__" 428 (kZ (kS "evenhall.errors") 194)), (kE P "__firstlineno__" 432 (PySem.Value.int (43 : Int) 431)), (kE P "small_words" 439 (kR 219)), (kE P "__static_attributes__" 440 (kR 220)), (kE P "__doc__" 441 kN)] 2) #[]))::
  (nat_lit 222, (kO (kY "type") none (Data.cls (PySem.ClassData.mk (kS "NoBooking") [(kR 31)] [(kR 222), (kR 31), (kY "ValueError"), (kY "Exception"), (kY "BaseException"), (kY "object")] 221 (kS "NoBooking") true [] [] false none false)) #[(some (kR 206)), none, (some (kZ (kS "NoBooking") 421)), (some (kZ (kS "NoBooking") 429)), (some (kB "ValueError.__new__")), (some (PySem.Value.bool true))]))::
  (nat_lit 225, (kO (kY "tuple") none (Data.seq #[(kR 31)] 0) #[]))::
  (nat_lit 232, (kO (kY "tuple") none (Data.seq #[] 0) #[]))::
  (nat_lit 234, (kO (kY "tuple") none (Data.seq #[(kZ (kS "self") 459)] 0) #[]))::
  (nat_lit 235, (kO (kY "tuple") none (Data.seq #[] 0) #[]))::
  (nat_lit 237, (kO (kY "code") none (Data.fields #[(kZ (kS "small_words") 456), (kZ (kS "NoBudget.small_words") 457), (kZ (kS "/claim/cut.py") 458), (PySem.Value.int (49 : Int) 0), (PySem.Value.int (1 : Int) 0), (PySem.Value.int (0 : Int) 0), (PySem.Value.int (0 : Int) 0), (PySem.Value.int (3 : Int) 0), (kR 232), (PySem.Value.bool true), (PySem.Value.int (181 : Int) 0), (kR 233), kN, (kR 234), (kR 235), (kR 236), (PySem.Value.int (460 : Int) 0), (PySem.Value.int (49 : Int) 0), (kZ (kS "/claim/cut.py") 461)]) #[]))::
  (nat_lit 238, (kO (kY "function") none (Data.func (PySem.FuncData.mk (kS "small_words") (kS "NoBudget.small_words") (PySem.Arguments.mk [] [(PySem.Arg.mk (kS "self") none (PySem.Pos.mk 49 20 49 24))] none [] [] none []) (PySem.FuncBody.stmts [(PySem.Stmt.Expr (PySem.Expr.Call (PySem.Expr.Name (kS "_wall") (PySem.Pos.mk 50 8 50 13)) [(PySem.Expr.Constant (PySem.Const.int (10 : Int)) 0 (PySem.Pos.mk 50 14 50 16))] [] (PySem.Pos.mk 50 8 50 17)) (PySem.Pos.mk 50 8 50 17))]) (PySem.Scope.mk PySem.ScopeKind.function [((kS "self"), PySem.NameKind.local), ((kS "_wall"), PySem.NameKind.globalImplicit)] false false []) 3 [] kN kN kN (kZ (kS "evenhall.errors") 194) none (kR 237) kN 0)) #[]))::
  (nat_lit 239, (kO (kY "tuple") none (Data.seq #[] 0) #[]))::
  (nat_lit 240, (kO (kY "dict") none (Data.dict #[(kE P "__module__" 451 (kZ (kS "evenhall.errors") 194)), (kE P "__firstlineno__" 455 (PySem.Value.int (47 : Int) 454)), (kE P "small_words" 462 (kR 238)), (kE P "__static_attributes__" 463 (kR 239)), (kE P "__doc__" 464 kN)] 2) #[]))::
  (nat_lit 241, (kO (kY "type") none (Data.cls (PySem.ClassData.mk (kS "NoBudget") [(kR 31)] [(kR 241), (kR 31), (kY "ValueError"), (kY "Exception"), (kY "BaseException"), (kY "object")] 240 (kS "NoBudget") true [] [] false none false)) #[(some (kR 225)), none, (some (kZ (kS "NoBudget") 444)), (some (kZ (kS "NoBudget") 452)), (some (kB "ValueError.__new__")), (some (PySem.Value.bool true))]))::
  (nat_lit 244, (kO (kY "tuple") none (Data.seq #[(kR 31)] 0) #[]))::
  (nat_lit 251, (kO (kY "tuple") none (Data.seq #[] 0) #[]))::
  (nat_lit 253, (kO (kY "tuple") none (Data.seq #[(kZ (kS "self") 482)] 0) #[]))::
  (nat_lit 254, (kO (kY "tuple") none (Data.seq #[] 0) #[]))::
  (nat_lit 256, (kO (kY "code") none (Data.fields #[(kZ (kS "small_words") 479), (kZ (kS "NoOrder.small_words") 480), (kZ (kS "/claim/cut.py") 481), (PySem.Value.int (53 : Int) 0), (PySem.Value.int (1 : Int) 0), (PySem.Value.int (0 : Int) 0), (PySem.Value.int (0 : Int) 0), (PySem.Value.int (3 : Int) 0), (kR 251), (PySem.Value.bool true), (PySem.Value.int (181 : Int) 0), (kR 252), kN, (kR 253), (kR 254), (kR 255), (PySem.Value.int (483 : Int) 0), (PySem.Value.int (53 : Int) 0), (kZ (kS "/claim/cut.py") 484)]) #[]))::
  (nat_lit 257, (kO (kY "function") none (Data.func (PySem.FuncData.mk (kS "small_words") (kS "NoOrder.small_words") (PySem.Arguments.mk [] [(PySem.Arg.mk (kS "self") none (PySem.Pos.mk 53 20 53 24))] none [] [] none []) (PySem.FuncBody.stmts [(PySem.Stmt.Expr (PySem.Expr.Call (PySem.Expr.Name (kS "_wall") (PySem.Pos.mk 54 8 54 13)) [(PySem.Expr.Constant (PySem.Const.int (11 : Int)) 0 (PySem.Pos.mk 54 14 54 16))] [] (PySem.Pos.mk 54 8 54 17)) (PySem.Pos.mk 54 8 54 17))]) (PySem.Scope.mk PySem.ScopeKind.function [((kS "self"), PySem.NameKind.local), ((kS "_wall"), PySem.NameKind.globalImplicit)] false false []) 3 [] kN kN kN (kZ (kS "evenhall.errors") 194) none (kR 256) kN 0)) #[]))::
  (nat_lit 258, (kO (kY "tuple") none (Data.seq #[] 0) #[]))::
  (nat_lit 259, (kO (kY "dict") none (Data.dict #[(kE P "__module__" 474 (kZ (kS "evenhall.errors") 194)), (kE P "__firstlineno__" 478 (PySem.Value.int (51 : Int) 477)), (kE P "small_words" 485 (kR 257)), (kE P "__static_attributes__" 486 (kR 258)), (kE P "__doc__" 487 kN)] 2) #[]))::
  (nat_lit 260, (kO (kY "type") none (Data.cls (PySem.ClassData.mk (kS "NoOrder") [(kR 31)] [(kR 260), (kR 31), (kY "ValueError"), (kY "Exception"), (kY "BaseException"), (kY "object")] 259 (kS "NoOrder") true [] [] false none false)) #[(some (kR 244)), none, (some (kZ (kS "NoOrder") 467)), (some (kZ (kS "NoOrder") 475)), (some (kB "ValueError.__new__")), (some (PySem.Value.bool true))]))::
  (nat_lit 263, (kO (kY "tuple") none (Data.seq #[] 0) #[]))::
  (nat_lit 265, (kO (kY "tuple") none (Data.seq #[(kZ (kS "thing") 495)] 0) #[]))::
  (nat_lit 266, (kO (kY "tuple") none (Data.seq #[] 0) #[]))::
  (nat_lit 268, (kO (kY "code") none (Data.fields #[(kZ (kS "is_whole") 492), (kZ (kS "is_whole") 493), (kZ (kS "/claim/cut.py") 494), (PySem.Value.int (56 : Int) 0), (PySem.Value.int (1 : Int) 0), (PySem.Value.int (0 : Int) 0), (PySem.Value.int (0 : Int) 0), (PySem.Value.int (3 : Int) 0), (kR 263), (PySem.Value.bool true), (PySem.Value.int (181 : Int) 0), (kR 264), kN, (kR 265), (kR 266), (kR 267), (PySem.Value.int (496 : Int) 0), (PySem.Value.int (56 : Int) 0), (kZ (kS "/claim/cut.py") 497)]) #[]))::
  (nat_lit 269, (kO (kY "function") none (Data.func (PySem.W.fnOf (kS "is_whole") (kS "is_whole") (aA cD) (av cD) (ag cD) kN kN kN (kZ (kS "evenhall.words") 490) none (kR 268) kN)) #[]))::
  (nat_lit 270, (kO (kY "tuple") none (Data.seq #[] 0) #[]))::
  (nat_lit 272, (kO (kY "tuple") none (Data.seq #[(kZ (kS "thing") 502), (kZ (kS "least") 503), (kZ (kS "most") 504)] 0) #[]))::
  (nat_lit 273, (kO (kY "tuple") none (Data.seq #[] 0) #[]))::
  (nat_lit 275, (kO (kY "code") none (Data.fields #[(kZ (kS "is_among") 499), (kZ (kS "is_among") 500), (kZ (kS "/claim/cut.py") 501), (PySem.Value.int (58 : Int) 0), (PySem.Value.int (3 : Int) 0), (PySem.Value.int (0 : Int) 0), (PySem.Value.int (0 : Int) 0), (PySem.Value.int (3 : Int) 0), (kR 270), (PySem.Value.bool true), (PySem.Value.int (181 : Int) 0), (kR 271), kN, (kR 272), (kR 273), (kR 274), (PySem.Value.int (505 : Int) 0), (PySem.Value.int (58 : Int) 0), (kZ (kS "/claim/cut.py") 506)]) #[]))::
  (nat_lit 276, (kO (kY "function") none (Data.func (PySem.W.fnOf (kS "is_among") (kS "is_among") (aA cA) (av cA) (ag cA) kN kN kN (kZ (kS "evenhall.words") 490) none (kR 275) kN)) #[]))::
  (nat_lit 277, (kO (kY "tuple") none (Data.seq #[] 0) #[]))::
  (nat_lit 280, (kO (kY "code") none (Data.fields #[(kZ (kS "signs_lie") 508), (kZ (kS "signs_lie") 509), (kZ (kS "/claim/cut.py") 510), (PySem.Value.int (60 : Int) 0), (PySem.Value.int (3 : Int) 0), (PySem.Value.int (0 : Int) 0), (PySem.Value.int (0 : Int) 0), (PySem.Value.int (3 : Int) 0), (kR 277), (PySem.Value.bool true), (PySem.Value.int (181 : Int) 0), (kR 278), kN, kN, kN, (kR 279), (PySem.Value.int (511 : Int) 0), (PySem.Value.int (60 : Int) 0), (kZ (kS "/claim/cut.py") 512)]) #[]))::
  (nat_lit 281, (kO (kY "function") none (Data.func (PySem.W.fnOf (kS "signs_lie") (kS "signs_lie") (aA cf) (av cf) (ag cf) kN kN kN (kZ (kS "evenhall.words") 490) none (kR 280) kN)) #[]))::
  (nat_lit 282, (kO (kY "tuple") none (Data.seq #[] 0) #[]))::
  (nat_lit 284, (kO (kY "tuple") none (Data.seq #[(kZ (kS "thing") 517)] 0) #[]))::
  (nat_lit 285, (kO (kY "tuple") none (Data.seq #[] 0) #[]))::
  (nat_lit 287, (kO (kY "code") none (Data.fields #[(kZ (kS "is_name") 514), (kZ (kS "is_name") 515), (kZ (kS "/claim/cut.py") 516), (PySem.Value.int (62 : Int) 0), (PySem.Value.int (1 : Int) 0), (PySem.Value.int (0 : Int) 0), (PySem.Value.int (0 : Int) 0), (PySem.Value.int (3 : Int) 0), (kR 282), (PySem.Value.bool true), (PySem.Value.int (181 : Int) 0), (kR 283), kN, (kR 284), (kR 285), (kR 286), (PySem.Value.int (518 : Int) 0), (PySem.Value.int (62 : Int) 0), (kZ (kS "/claim/cut.py") 519)]) #[]))::
  (nat_lit 288, (kO (kY "function") none (Data.func (PySem.W.fnOf (kS "is_name") (kS "is_name") (aA cS) (av cS) (ag cS) kN kN kN (kZ (kS "evenhall.words") 490) none (kR 287) kN)) #[]))::
  (nat_lit 289, (kO (kY "tuple") none (Data.seq #[] 0) #[]))::
  (nat_lit 292, (kO (kY "code") none (Data.fields #[(kZ (kS "are_names") 523), (kZ (kS "are_names") 524), (kZ (kS "/claim/cut.py") 525), (PySem.Value.int (65 : Int) 0), (PySem.Value.int (1 : Int) 0), (PySem.Value.int (0 : Int) 0), (PySem.Value.int (0 : Int) 0), (PySem.Value.int (3 : Int) 0), (kR 289), (PySem.Value.bool true), (PySem.Value.int (181 : Int) 0), (kR 290), kN, kN, kN, (kR 291), (PySem.Value.int (526 : Int) 0), (PySem.Value.int (65 : Int) 0), (kZ (kS "/claim/cut.py") 527)]) #[]))::
  (nat_lit 293, (kO (kY "function") none (Data.func (PySem.W.fnOf (kS "are_names") (kS "are_names") (aA ce) (av ce) (ag ce) kN kN kN (kZ (kS "evenhall.paths") 521) none (kR 292) kN)) #[]))::
  (nat_lit 294, (kO (kY "tuple") none (Data.seq #[] 0) #[]))::
  (nat_lit 296, (kO (kY "tuple") none (Data.seq #[(kZ (kS "thing") 532)] 0) #[]))::
  (nat_lit 297, (kO (kY "tuple") none (Data.seq #[] 0) #[]))::
  (nat_lit 299, (kO (kY "code") none (Data.fields #[(kZ (kS "is_path") 529), (kZ (kS "is_path") 530), (kZ (kS "/claim/cut.py") 531), (PySem.Value.int (67 : Int) 0), (PySem.Value.int (1 : Int) 0), (PySem.Value.int (0 : Int) 0), (PySem.Value.int (0 : Int) 0), (PySem.Value.int (3 : Int) 0), (kR 294), (PySem.Value.bool true), (PySem.Value.int (181 : Int) 0), (kR 295), kN, (kR 296), (kR 297), (kR 298), (PySem.Value.int (533 : Int) 0), (PySem.Value.int (67 : Int) 0), (kZ (kS "/claim/cut.py") 534)]) #[]))::
  (nat_lit 300, (kO (kY "function") none (Data.func (PySem.W.fnOf (kS "is_path") (kS "is_path") (aA cV) (av cV) (ag cV) kN kN kN (kZ (kS "evenhall.paths") 521) none (kR 299) kN)) #[]))::
  (nat_lit 301, (kO (kY "tuple") none (Data.seq #[] 0) #[]))::
  (nat_lit 303, (kO (kY "tuple") none (Data.seq #[(kZ (kS "path") 539)] 0) #[]))::
  (nat_lit 304, (kO (kY "tuple") none (Data.seq #[] 0) #[]))::
  (nat_lit 306, (kO (kY "code") none (Data.fields #[(kZ (kS "names_of") 536), (kZ (kS "names_of") 537), (kZ (kS "/claim/cut.py") 538), (PySem.Value.int (69 : Int) 0), (PySem.Value.int (1 : Int) 0), (PySem.Value.int (0 : Int) 0), (PySem.Value.int (0 : Int) 0), (PySem.Value.int (3 : Int) 0), (kR 301), (PySem.Value.bool true), (PySem.Value.int (181 : Int) 0), (kR 302), kN, (kR 303), (kR 304), (kR 305), (PySem.Value.int (540 : Int) 0), (PySem.Value.int (69 : Int) 0), (kZ (kS "/claim/cut.py") 541)]) #[]))::
  (nat_lit 307, (kO (kY "function") none (Data.func (PySem.W.fnOf (kS "names_of") (kS "names_of") (aA cC) (av cC) (ag cC) kN kN kN (kZ (kS "evenhall.paths") 521) none (kR 306) kN)) #[]))::
  (nat_lit 308, (kO (kY "tuple") none (Data.seq #[] 0) #[]))::
  (nat_lit 311, (kO (kY "code") none (Data.fields #[(kZ (kS "above") 543), (kZ (kS "above") 544), (kZ (kS "/claim/cut.py") 545), (PySem.Value.int (73 : Int) 0), (PySem.Value.int (1 : Int) 0), (PySem.Value.int (0 : Int) 0), (PySem.Value.int (0 : Int) 0), (PySem.Value.int (3 : Int) 0), (kR 308), (PySem.Value.bool true), (PySem.Value.int (181 : Int) 0), (kR 309), kN, kN, kN, (kR 310), (PySem.Value.int (546 : Int) 0), (PySem.Value.int (73 : Int) 0), (kZ (kS "/claim/cut.py") 547)]) #[]))::
  (nat_lit 312, (kO (kY "function") none (Data.func (PySem.W.fnOf (kS "above") (kS "above") (aA eB) (av eB) (ag eB) kN kN kN (kZ (kS "evenhall.paths") 521) none (kR 311) kN)) #[]))::
  (nat_lit 313, (kO (kY "tuple") none (Data.seq #[] 0) #[]))::
  (nat_lit 315, (kO (kY "tuple") none (Data.seq #[(kZ (kS "path") 552), (kZ (kS "other") 553)] 0) #[]))::
  (nat_lit 316, (kO (kY "tuple") none (Data.seq #[] 0) #[]))::
  (nat_lit 318, (kO (kY "code") none (Data.fields #[(kZ (kS "is_within") 549), (kZ (kS "is_within") 550), (kZ (kS "/claim/cut.py") 551), (PySem.Value.int (76 : Int) 0), (PySem.Value.int (2 : Int) 0), (PySem.Value.int (0 : Int) 0), (PySem.Value.int (0 : Int) 0), (PySem.Value.int (3 : Int) 0), (kR 313), (PySem.Value.bool true), (PySem.Value.int (181 : Int) 0), (kR 314), kN, (kR 315), (kR 316), (kR 317), (PySem.Value.int (554 : Int) 0), (PySem.Value.int (76 : Int) 0), (kZ (kS "/claim/cut.py") 555)]) #[]))::
  (nat_lit 319, (kO (kY "function") none (Data.func (PySem.W.fnOf (kS "is_within") (kS "is_within") (aA bT) (av bT) (ag bT) kN kN kN (kZ (kS "evenhall.paths") 521) none (kR 318) kN)) #[]))::
  (nat_lit 320, (kO (kY "tuple") none (Data.seq #[] 0) #[]))::
  (nat_lit 323, (kO (kY "code") none (Data.fields #[(kZ (kS "amounts_within") 559), (kZ (kS "amounts_within") 560), (kZ (kS "/claim/cut.py") 561), (PySem.Value.int (79 : Int) 0), (PySem.Value.int (3 : Int) 0), (PySem.Value.int (0 : Int) 0), (PySem.Value.int (0 : Int) 0), (PySem.Value.int (3 : Int) 0), (kR 320), (PySem.Value.bool true), (PySem.Value.int (181 : Int) 0), (kR 321), kN, kN, kN, (kR 322), (PySem.Value.int (562 : Int) 0), (PySem.Value.int (79 : Int) 0), (kZ (kS "/claim/cut.py") 563)]) #[]))::
  (nat_lit 324, (kO (kY "function") none (Data.func (PySem.W.fnOf (kS "amounts_within") (kS "amounts_within") (aA aT) (av aT) (ag aT) kN kN kN (kZ (kS "evenhall.statements") 557) none (kR 323) kN)) #[]))::
  (nat_lit 325, (kO (kY "tuple") none (Data.seq #[] 0) #[]))::
  (nat_lit 327, (kO (kY "tuple") none (Data.seq #[(kZ (kS "chart") 568), (kZ (kS "journal") 569), (kZ (kS "path") 570), (kZ (kS "currency") 571), (kZ (kS "first") 572), (kZ (kS "last") 573), (kZ (kS "opening") 574), (kZ (kS "moves") 575), (kZ (kS "booking") 576), (kZ (kS "amounts") 577), (kZ (kS "lines") 578), (kZ (kS "balance") 579), (kZ (kS "day") 580), (kZ (kS "number") 581), (kZ (kS "amount") 582)] 0) #[]))::
  (nat_lit 328, (kO (kY "tuple") none (Data.seq #[] 0) #[]))::
  (nat_lit 330, (kO (kY "code") none (Data.fields #[(kZ (kS "statement") 565), (kZ (kS "statement") 566), (kZ (kS "/claim/cut.py") 567), (PySem.Value.int (81 : Int) 0), (PySem.Value.int (6 : Int) 0), (PySem.Value.int (0 : Int) 0), (PySem.Value.int (0 : Int) 0), (PySem.Value.int (3 : Int) 0), (kR 325), (PySem.Value.bool true), (PySem.Value.int (181 : Int) 0), (kR 326), kN, (kR 327), (kR 328), (kR 329), (PySem.Value.int (583 : Int) 0), (PySem.Value.int (81 : Int) 0), (kZ (kS "/claim/cut.py") 584)]) #[]))::
  (nat_lit 331, (kO (kY "function") none (Data.func (PySem.W.fnOf (kS "statement") (kS "statement") (aA bF) (av bF) (ag bF) kN kN kN (kZ (kS "evenhall.statements") 557) none (kR 330) kN)) #[]))::
  (nat_lit 332, (kO (kY "tuple") none (Data.seq #[] 0) #[]))::
  (nat_lit 334, (kO (kY "tuple") none (Data.seq #[(kZ (kS "thing") 591)] 0) #[]))::
  (nat_lit 335, (kO (kY "tuple") none (Data.seq #[] 0) #[]))::
  (nat_lit 337, (kO (kY "code") none (Data.fields #[(kZ (kS "is_day") 588), (kZ (kS "is_day") 589), (kZ (kS "/claim/cut.py") 590), (PySem.Value.int (99 : Int) 0), (PySem.Value.int (1 : Int) 0), (PySem.Value.int (0 : Int) 0), (PySem.Value.int (0 : Int) 0), (PySem.Value.int (3 : Int) 0), (kR 332), (PySem.Value.bool true), (PySem.Value.int (181 : Int) 0), (kR 333), kN, (kR 334), (kR 335), (kR 336), (PySem.Value.int (592 : Int) 0), (PySem.Value.int (99 : Int) 0), (kZ (kS "/claim/cut.py") 593)]) #[]))::
  (nat_lit 338, (kO (kY "function") none (Data.func (PySem.W.fnOf (kS "is_day") (kS "is_day") (aA dE) (av dE) (ag dE) kN kN kN (kZ (kS "evenhall.days") 586) none (kR 337) kN)) #[]))::
  (nat_lit 339, (kO (kY "tuple") none (Data.seq #[] 0) #[]))::
  (nat_lit 341, (kO (kY "tuple") none (Data.seq #[(kZ (kS "thing") 600)] 0) #[]))::
  (nat_lit 342, (kO (kY "tuple") none (Data.seq #[] 0) #[]))::
  (nat_lit 344, (kO (kY "code") none (Data.fields #[(kZ (kS "is_currency") 597), (kZ (kS "is_currency") 598), (kZ (kS "/claim/cut.py") 599), (PySem.Value.int (102 : Int) 0), (PySem.Value.int (1 : Int) 0), (PySem.Value.int (0 : Int) 0), (PySem.Value.int (0 : Int) 0), (PySem.Value.int (3 : Int) 0), (kR 339), (PySem.Value.bool true), (PySem.Value.int (181 : Int) 0), (kR 340), kN, (kR 341), (kR 342), (kR 343), (PySem.Value.int (601 : Int) 0), (PySem.Value.int (102 : Int) 0), (kZ (kS "/claim/cut.py") 602)]) #[]))::
  (nat_lit 345, (kO (kY "function") none (Data.func (PySem.W.fnOf (kS "is_currency") (kS "is_currency") (aA bv) (av bv) (ag bv) kN kN kN (kZ (kS "evenhall.money") 595) none (kR 344) kN)) #[]))::
  (nat_lit 346, (kO (kY "tuple") none (Data.seq #[(kZ (kS "have") 606), (kZ (kS "owe") 607), (kZ (kS "own") 608), (kZ (kS "gain") 609), (kZ (kS "cost") 610)] 0) #[]))::
  (nat_lit 354, (kO (kY "tuple") none (Data.seq #[] 0) #[]))::
  (nat_lit 356, (kO (kY "tuple") none (Data.seq #[(kZ (kS "self") 627), (kZ (kS "kind") 628), (kZ (kS "currency") 629), (kZ (kS "first") 630)] 0) #[]))::
  (nat_lit 357, (kO (kY "tuple") none (Data.seq #[] 0) #[]))::
  (nat_lit 359, (kO (kY "code") none (Data.fields #[(kZ (kS "__init__") 624), (kZ (kS "Account.__init__") 625), (kZ (kS "/claim/cut.py") 626), (PySem.Value.int (108 : Int) 0), (PySem.Value.int (4 : Int) 0), (PySem.Value.int (0 : Int) 0), (PySem.Value.int (0 : Int) 0), (PySem.Value.int (3 : Int) 0), (kR 354), (PySem.Value.bool true), (PySem.Value.int (181 : Int) 0), (kR 355), kN, (kR 356), (kR 357), (kR 358), (PySem.Value.int (631 : Int) 0), (PySem.Value.int (108 : Int) 0), (kZ (kS "/claim/cut.py") 632)]) #[]))::
  (nat_lit 360, (kO (kY "function") none (Data.func (PySem.W.fnOf (kS "__init__") (kS "Account.__init__") (aA aR) (av aR) (ag aR) kN kN kN (kZ (kS "evenhall.chart") 604) none (kR 359) kN)) #[]))::
  (nat_lit 361, (kO (kY "tuple") none (Data.seq #[] 0) #[]))::
  (nat_lit 363, (kO (kY "tuple") none (Data.seq #[(kZ (kS "self") 637), (kZ (kS "day") 638)] 0) #[]))::
  (nat_lit 364, (kO (kY "tuple") none (Data.seq #[] 0) #[]))::
  (nat_lit 366, (kO (kY "code") none (Data.fields #[(kZ (kS "stands_on") 634), (kZ (kS "Account.stands_on") 635), (kZ (kS "/claim/cut.py") 636), (PySem.Value.int (115 : Int) 0), (PySem.Value.int (2 : Int) 0), (PySem.Value.int (0 : Int) 0), (PySem.Value.int (0 : Int) 0), (PySem.Value.int (3 : Int) 0), (kR 361), (PySem.Value.bool true), (PySem.Value.int (181 : Int) 0), (kR 362), kN, (kR 363), (kR 364), (kR 365), (PySem.Value.int (639 : Int) 0), (PySem.Value.int (115 : Int) 0), (kZ (kS "/claim/cut.py") 640)]) #[]))::
  (nat_lit 367, (kO (kY "function") none (Data.func (PySem.W.fnOf (kS "stands_on") (kS "Account.stands_on") (aA aN) (av aN) (ag aN) kN kN kN (kZ (kS "evenhall.chart") 604) none (kR 366) kN)) #[]))::
  (nat_lit 368, (kO (kY "tuple") none (Data.seq #[] 0) #[]))::
  (nat_lit 370, (kO (kY "tuple") none (Data.seq #[(kZ (kS "self") 645), (kZ (kS "day") 646)] 0) #[]))::
  (nat_lit 371, (kO (kY "tuple") none (Data.seq #[] 0) #[]))::
  (nat_lit 373, (kO (kY "code") none (Data.fields #[(kZ (kS "stands_later") 642), (kZ (kS "Account.stands_later") 643), (kZ (kS "/claim/cut.py") 644), (PySem.Value.int (118 : Int) 0), (PySem.Value.int (2 : Int) 0), (PySem.Value.int (0 : Int) 0), (PySem.Value.int (0 : Int) 0), (PySem.Value.int (3 : Int) 0), (kR 368), (PySem.Value.bool true), (PySem.Value.int (181 : Int) 0), (kR 369), kN, (kR 370), (kR 371), (kR 372), (PySem.Value.int (647 : Int) 0), (PySem.Value.int (118 : Int) 0), (kZ (kS "/claim/cut.py") 648)]) #[]))::
  (nat_lit 374, (kO (kY "function") none (Data.func (PySem.FuncData.mk (kS "stands_later") (kS "Account.stands_later") (PySem.Arguments.mk [] [(PySem.Arg.mk (kS "self") none (PySem.Pos.mk 118 21 118 25)), (PySem.Arg.mk (kS "day") none (PySem.Pos.mk 118 27 118 30))] none [] [] none []) (PySem.FuncBody.stmts [(PySem.Stmt.Expr (PySem.Expr.Call (PySem.Expr.Name (kS "_wall") (PySem.Pos.mk 119 8 119 13)) [(PySem.Expr.Constant (PySem.Const.int (12 : Int)) 0 (PySem.Pos.mk 119 14 119 16))] [] (PySem.Pos.mk 119 8 119 17)) (PySem.Pos.mk 119 8 119 17))]) (PySem.Scope.mk PySem.ScopeKind.function [((kS "self"), PySem.NameKind.local), ((kS "day"), PySem.NameKind.local), ((kS "_wall"), PySem.NameKind.globalImplicit)] false false []) 3 [] kN kN kN (kZ (kS "evenhall.chart") 604) none (kR 373) kN 0)) #[]))::
  (nat_lit 375, (kO (kY "tuple") none (Data.seq #[(kZ (kS "below") 650), (kZ (kS "currency") 651), (kZ (kS "first") 652), (kZ (kS "kind") 653), (kZ (kS "until") 654)] 0) #[]))::
  (nat_lit 376, (kO (kY "dict") none (Data.dict #[(kE P "__module__" 619 (kZ (kS "evenhall.chart") 604)), (kE P "__firstlineno__" 623 (PySem.Value.int (106 : Int) 622)), (kE P "__init__" 633 (kR 360)), (kE P "stands_on" 641 (kR 367)), (kE P "stands_later" 649 (kR 374)), (kE P "__static_attributes__" 655 (kR 375)), (kE P "__dict__" 657 (kR 378)), (kE P "__weakref__" 659 (kR 379)), (kE P "__doc__" 660 kN)] 4) #[]))::
  (nat_lit 377, (kO (kY "type") none (Data.cls (PySem.ClassData.mk (kS "Account") [(kY "object")] [(kR 377), (kY "object")] 376 (kS "Account") true [] [] false none false)) #[none, none, (some (kZ (kS "Account") 612)), (some (kZ (kS "Account") 620)), (some (kB "object.__new__")), (some (PySem.Value.bool true))]))::
  (nat_lit 378, (kO (kY "getset_descriptor") none (Data.fields #[(kZ (kS "__dict__") 656), (kR 377), (kB "function.__dict__"), (kB "function.__dict__#set")]) #[]))::
  (nat_lit 379, (kO (kY "getset_descriptor") none (Data.fields #[(kZ (kS "__weakref__") 658), (kR 377), (kB "ExceptionGroup.__weakref__"), kN]) #[]))::
  (nat_lit 389, (kO (kY "tuple") none (Data.seq #[] 0) #[]))::
  (nat_lit 391, (kO (kY "tuple") none (Data.seq #[(kZ (kS "self") 678)] 0) #[]))::
  (nat_lit 392, (kO (kY "tuple") none (Data.seq #[] 0) #[]))::
  (nat_lit 394, (kO (kY "code") none (Data.fields #[(kZ (kS "__init__") 675), (kZ (kS "Chart.__init__") 676), (kZ (kS "/claim/cut.py") 677), (PySem.Value.int (122 : Int) 0), (PySem.Value.int (1 : Int) 0), (PySem.Value.int (0 : Int) 0), (PySem.Value.int (0 : Int) 0), (PySem.Value.int (3 : Int) 0), (kR 389), (PySem.Value.bool true), (PySem.Value.int (181 : Int) 0), (kR 390), kN, (kR 391), (kR 392), (kR 393), (PySem.Value.int (679 : Int) 0), (PySem.Value.int (122 : Int) 0), (kZ (kS "/claim/cut.py") 680)]) #[]))::
  (nat_lit 395, (kO (kY "function") none (Data.func (PySem.W.fnOf (kS "__init__") (kS "Chart.__init__") (aA bc) (av bc) (ag bc) kN kN kN (kZ (kS "evenhall.chart") 604) none (kR 394) kN)) #[]))::
  (nat_lit 396, (kO (kY "tuple") none (Data.seq #[] 0) #[]))::
  (nat_lit 398, (kO (kY "tuple") none (Data.seq #[(kZ (kS "self") 685), (kZ (kS "name") 686), (kZ (kS "kind") 687)] 0) #[]))::
  (nat_lit 399, (kO (kY "tuple") none (Data.seq #[] 0) #[]))::
  (nat_lit 401, (kO (kY "code") none (Data.fields #[(kZ (kS "add_top") 682), (kZ (kS "Chart.add_top") 683), (kZ (kS "/claim/cut.py") 684), (PySem.Value.int (125 : Int) 0), (PySem.Value.int (3 : Int) 0), (PySem.Value.int (0 : Int) 0), (PySem.Value.int (0 : Int) 0), (PySem.Value.int (3 : Int) 0), (kR 396), (PySem.Value.bool true), (PySem.Value.int (181 : Int) 0), (kR 397), kN, (kR 398), (kR 399), (kR 400), (PySem.Value.int (688 : Int) 0), (PySem.Value.int (125 : Int) 0), (kZ (kS "/claim/cut.py") 689)]) #[]))::
  (nat_lit 402, (kO (kY "function") none (Data.func (PySem.W.fnOf (kS "add_top") (kS "Chart.add_top") (aA a_) (av a_) (ag a_) kN kN kN (kZ (kS "evenhall.chart") 604) none (kR 401) kN)) #[]))::
  (nat_lit 403, (kO (kY "tuple") none (Data.seq #[] 0) #[]))::
  (nat_lit 405, (kO (kY "tuple") none (Data.seq #[(kZ (kS "self") 694), (kZ (kS "path") 695), (kZ (kS "currency") 696), (kZ (kS "day") 697), (kZ (kS "upper") 698)] 0) #[]))::
  (nat_lit 406, (kO (kY "tuple") none (Data.seq #[] 0) #[]))::
  (nat_lit 408, (kO (kY "code") none (Data.fields #[(kZ (kS "add") 691), (kZ (kS "Chart.add") 692), (kZ (kS "/claim/cut.py") 693), (PySem.Value.int (134 : Int) 0), (PySem.Value.int (4 : Int) 0), (PySem.Value.int (0 : Int) 0), (PySem.Value.int (0 : Int) 0), (PySem.Value.int (3 : Int) 0), (kR 403), (PySem.Value.bool true), (PySem.Value.int (181 : Int) 0), (kR 404), kN, (kR 405), (kR 406), (kR 407), (PySem.Value.int (699 : Int) 0), (PySem.Value.int (134 : Int) 0), (kZ (kS "/claim/cut.py") 700)]) #[]))::
  (nat_lit 409, (kO (kY "function") none (Data.func (PySem.W.fnOf (kS "add") (kS "Chart.add") (aA bR) (av bR) (ag bR) kN kN kN (kZ (kS "evenhall.chart") 604) none (kR 408) kN)) #[]))::
  (nat_lit 410, (kO (kY "tuple") none (Data.seq #[] 0) #[]))::
  (nat_lit 412, (kO (kY "tuple") none (Data.seq #[(kZ (kS "self") 705), (kZ (kS "path") 706), (kZ (kS "day") 707)] 0) #[]))::
  (nat_lit 413, (kO (kY "tuple") none (Data.seq #[] 0) #[]))::
  (nat_lit 415, (kO (kY "code") none (Data.fields #[(kZ (kS "shut") 702), (kZ (kS "Chart.shut") 703), (kZ (kS "/claim/cut.py") 704), (PySem.Value.int (149 : Int) 0), (PySem.Value.int (3 : Int) 0), (PySem.Value.int (0 : Int) 0), (PySem.Value.int (0 : Int) 0), (PySem.Value.int (3 : Int) 0), (kR 410), (PySem.Value.bool true), (PySem.Value.int (181 : Int) 0), (kR 411), kN, (kR 412), (kR 413), (kR 414), (PySem.Value.int (708 : Int) 0), (PySem.Value.int (149 : Int) 0), (kZ (kS "/claim/cut.py") 709)]) #[]))::
  (nat_lit 416, (kO (kY "function") none (Data.func (PySem.FuncData.mk (kS "shut") (kS "Chart.shut") (PySem.Arguments.mk [] [(PySem.Arg.mk (kS "self") none (PySem.Pos.mk 149 13 149 17)), (PySem.Arg.mk (kS "path") none (PySem.Pos.mk 149 19 149 23)), (PySem.Arg.mk (kS "day") none (PySem.Pos.mk 149 25 149 28))] none [] [] none []) (PySem.FuncBody.stmts [(PySem.Stmt.Expr (PySem.Expr.Call (PySem.Expr.Name (kS "_wall") (PySem.Pos.mk 150 8 150 13)) [(PySem.Expr.Constant (PySem.Const.int (13 : Int)) 0 (PySem.Pos.mk 150 14 150 16))] [] (PySem.Pos.mk 150 8 150 17)) (PySem.Pos.mk 150 8 150 17))]) (PySem.Scope.mk PySem.ScopeKind.function [((kS "self"), PySem.NameKind.local), ((kS "path"), PySem.NameKind.local), ((kS "day"), PySem.NameKind.local), ((kS "_wall"), PySem.NameKind.globalImplicit)] false false []) 3 [] kN kN kN (kZ (kS "evenhall.chart") 604) none (kR 415) kN 0)) #[]))::
  (nat_lit 417, (kO (kY "tuple") none (Data.seq #[] 0) #[]))::
  (nat_lit 419, (kO (kY "tuple") none (Data.seq #[(kZ (kS "self") 714), (kZ (kS "path") 715)] 0) #[]))::
  (nat_lit 420, (kO (kY "tuple") none (Data.seq #[] 0) #[]))::
  (nat_lit 422, (kO (kY "code") none (Data.fields #[(kZ (kS "has") 711), (kZ (kS "Chart.has") 712), (kZ (kS "/claim/cut.py") 713), (PySem.Value.int (152 : Int) 0), (PySem.Value.int (2 : Int) 0), (PySem.Value.int (0 : Int) 0), (PySem.Value.int (0 : Int) 0), (PySem.Value.int (3 : Int) 0), (kR 417), (PySem.Value.bool true), (PySem.Value.int (181 : Int) 0), (kR 418), kN, (kR 419), (kR 420), (kR 421), (PySem.Value.int (716 : Int) 0), (PySem.Value.int (152 : Int) 0), (kZ (kS "/claim/cut.py") 717)]) #[]))::
  (nat_lit 423, (kO (kY "function") none (Data.func (PySem.W.fnOf (kS "has") (kS "Chart.has") (aA bS) (av bS) (ag bS) kN kN kN (kZ (kS "evenhall.chart") 604) none (kR 422) kN)) #[]))::
  (nat_lit 424, (kO (kY "tuple") none (Data.seq #[] 0) #[]))::
  (nat_lit 426, (kO (kY "tuple") none (Data.seq #[(kZ (kS "self") 722), (kZ (kS "path") 723)] 0) #[]))::
  (nat_lit 427, (kO (kY "tuple") none (Data.seq #[] 0) #[]))::
  (nat_lit 429, (kO (kY "code") none (Data.fields #[(kZ (kS "account") 719), (kZ (kS "Chart.account") 720), (kZ (kS "/claim/cut.py") 721), (PySem.Value.int (155 : Int) 0), (PySem.Value.int (2 : Int) 0), (PySem.Value.int (0 : Int) 0), (PySem.Value.int (0 : Int) 0), (PySem.Value.int (3 : Int) 0), (kR 424), (PySem.Value.bool true), (PySem.Value.int (181 : Int) 0), (kR 425), kN, (kR 426), (kR 427), (kR 428), (PySem.Value.int (724 : Int) 0), (PySem.Value.int (155 : Int) 0), (kZ (kS "/claim/cut.py") 725)]) #[]))::
  (nat_lit 430, (kO (kY "function") none (Data.func (PySem.W.fnOf (kS "account") (kS "Chart.account") (aA ba) (av ba) (ag ba) kN kN kN (kZ (kS "evenhall.chart") 604) none (kR 429) kN)) #[]))::
  (nat_lit 431, (kO (kY "tuple") none (Data.seq #[] 0) #[]))::
  (nat_lit 433, (kO (kY "tuple") none (Data.seq #[(kZ (kS "self") 730), (kZ (kS "path") 731)] 0) #[]))::
  (nat_lit 434, (kO (kY "tuple") none (Data.seq #[] 0) #[]))::
  (nat_lit 436, (kO (kY "code") none (Data.fields #[(kZ (kS "kind_of") 727), (kZ (kS "Chart.kind_of") 728), (kZ (kS "/claim/cut.py") 729), (PySem.Value.int (160 : Int) 0), (PySem.Value.int (2 : Int) 0), (PySem.Value.int (0 : Int) 0), (PySem.Value.int (0 : Int) 0), (PySem.Value.int (3 : Int) 0), (kR 431), (PySem.Value.bool true), (PySem.Value.int (181 : Int) 0), (kR 432), kN, (kR 433), (kR 434), (kR 435), (PySem.Value.int (732 : Int) 0), (PySem.Value.int (160 : Int) 0), (kZ (kS "/claim/cut.py") 733)]) #[]))::
  (nat_lit 437, (kO (kY "function") none (Data.func (PySem.FuncData.mk (kS "kind_of") (kS "Chart.kind_of") (PySem.Arguments.mk [] [(PySem.Arg.mk (kS "self") none (PySem.Pos.mk 160 16 160 20)), (PySem.Arg.mk (kS "path") none (PySem.Pos.mk 160 22 160 26))] none [] [] none []) (PySem.FuncBody.stmts [(PySem.Stmt.Expr (PySem.Expr.Call (PySem.Expr.Name (kS "_wall") (PySem.Pos.mk 161 8 161 13)) [(PySem.Expr.Constant (PySem.Const.int (14 : Int)) 0 (PySem.Pos.mk 161 14 161 16))] [] (PySem.Pos.mk 161 8 161 17)) (PySem.Pos.mk 161 8 161 17))]) (PySem.Scope.mk PySem.ScopeKind.function [((kS "self"), PySem.NameKind.local), ((kS "path"), PySem.NameKind.local), ((kS "_wall"), PySem.NameKind.globalImplicit)] false false []) 3 [] kN kN kN (kZ (kS "evenhall.chart") 604) none (kR 436) kN 0)) #[]))::
  (nat_lit 438, (kO (kY "tuple") none (Data.seq #[] 0) #[]))::
  (nat_lit 440, (kO (kY "tuple") none (Data.seq #[(kZ (kS "self") 738), (kZ (kS "path") 739)] 0) #[]))::
  (nat_lit 441, (kO (kY "tuple") none (Data.seq #[] 0) #[]))::
  (nat_lit 443, (kO (kY "code") none (Data.fields #[(kZ (kS "currency_of") 735), (kZ (kS "Chart.currency_of") 736), (kZ (kS "/claim/cut.py") 737), (PySem.Value.int (163 : Int) 0), (PySem.Value.int (2 : Int) 0), (PySem.Value.int (0 : Int) 0), (PySem.Value.int (0 : Int) 0), (PySem.Value.int (3 : Int) 0), (kR 438), (PySem.Value.bool true), (PySem.Value.int (181 : Int) 0), (kR 439), kN, (kR 440), (kR 441), (kR 442), (PySem.Value.int (740 : Int) 0), (PySem.Value.int (163 : Int) 0), (kZ (kS "/claim/cut.py") 741)]) #[]))::
  (nat_lit 444, (kO (kY "function") none (Data.func (PySem.FuncData.mk (kS "currency_of") (kS "Chart.currency_of") (PySem.Arguments.mk [] [(PySem.Arg.mk (kS "self") none (PySem.Pos.mk 163 20 163 24)), (PySem.Arg.mk (kS "path") none (PySem.Pos.mk 163 26 163 30))] none [] [] none []) (PySem.FuncBody.stmts [(PySem.Stmt.Expr (PySem.Expr.Call (PySem.Expr.Name (kS "_wall") (PySem.Pos.mk 164 8 164 13)) [(PySem.Expr.Constant (PySem.Const.int (15 : Int)) 0 (PySem.Pos.mk 164 14 164 16))] [] (PySem.Pos.mk 164 8 164 17)) (PySem.Pos.mk 164 8 164 17))]) (PySem.Scope.mk PySem.ScopeKind.function [((kS "self"), PySem.NameKind.local), ((kS "path"), PySem.NameKind.local), ((kS "_wall"), PySem.NameKind.globalImplicit)] false false []) 3 [] kN kN kN (kZ (kS "evenhall.chart") 604) none (kR 443) kN 0)) #[]))::
  (nat_lit 445, (kO (kY "tuple") none (Data.seq #[] 0) #[]))::
  (nat_lit 447, (kO (kY "tuple") none (Data.seq #[(kZ (kS "self") 746), (kZ (kS "path") 747)] 0) #[]))::
  (nat_lit 448, (kO (kY "tuple") none (Data.seq #[] 0) #[]))::
  (nat_lit 450, (kO (kY "code") none (Data.fields #[(kZ (kS "span_of") 743), (kZ (kS "Chart.span_of") 744), (kZ (kS "/claim/cut.py") 745), (PySem.Value.int (166 : Int) 0), (PySem.Value.int (2 : Int) 0), (PySem.Value.int (0 : Int) 0), (PySem.Value.int (0 : Int) 0), (PySem.Value.int (3 : Int) 0), (kR 445), (PySem.Value.bool true), (PySem.Value.int (181 : Int) 0), (kR 446), kN, (kR 447), (kR 448), (kR 449), (PySem.Value.int (748 : Int) 0), (PySem.Value.int (166 : Int) 0), (kZ (kS "/claim/cut.py") 749)]) #[]))::
  (nat_lit 451, (kO (kY "function") none (Data.func (PySem.FuncData.mk (kS "span_of") (kS "Chart.span_of") (PySem.Arguments.mk [] [(PySem.Arg.mk (kS "self") none (PySem.Pos.mk 166 16 166 20)), (PySem.Arg.mk (kS "path") none (PySem.Pos.mk 166 22 166 26))] none [] [] none []) (PySem.FuncBody.stmts [(PySem.Stmt.Expr (PySem.Expr.Call (PySem.Expr.Name (kS "_wall") (PySem.Pos.mk 167 8 167 13)) [(PySem.Expr.Constant (PySem.Const.int (16 : Int)) 0 (PySem.Pos.mk 167 14 167 16))] [] (PySem.Pos.mk 167 8 167 17)) (PySem.Pos.mk 167 8 167 17))]) (PySem.Scope.mk PySem.ScopeKind.function [((kS "self"), PySem.NameKind.local), ((kS "path"), PySem.NameKind.local), ((kS "_wall"), PySem.NameKind.globalImplicit)] false false []) 3 [] kN kN kN (kZ (kS "evenhall.chart") 604) none (kR 450) kN 0)) #[]))::
  (nat_lit 452, (kO (kY "tuple") none (Data.seq #[] 0) #[]))::
  (nat_lit 454, (kO (kY "tuple") none (Data.seq #[(kZ (kS "self") 754), (kZ (kS "path") 755), (kZ (kS "day") 756)] 0) #[]))::
  (nat_lit 455, (kO (kY "tuple") none (Data.seq #[] 0) #[]))::
  (nat_lit 457, (kO (kY "code") none (Data.fields #[(kZ (kS "is_open") 751), (kZ (kS "Chart.is_open") 752), (kZ (kS "/claim/cut.py") 753), (PySem.Value.int (169 : Int) 0), (PySem.Value.int (3 : Int) 0), (PySem.Value.int (0 : Int) 0), (PySem.Value.int (0 : Int) 0), (PySem.Value.int (3 : Int) 0), (kR 452), (PySem.Value.bool true), (PySem.Value.int (181 : Int) 0), (kR 453), kN, (kR 454), (kR 455), (kR 456), (PySem.Value.int (757 : Int) 0), (PySem.Value.int (169 : Int) 0), (kZ (kS "/claim/cut.py") 758)]) #[]))::
  (nat_lit 458, (kO (kY "function") none (Data.func (PySem.FuncData.mk (kS "is_open") (kS "Chart.is_open") (PySem.Arguments.mk [] [(PySem.Arg.mk (kS "self") none (PySem.Pos.mk 169 16 169 20)), (PySem.Arg.mk (kS "path") none (PySem.Pos.mk 169 22 169 26)), (PySem.Arg.mk (kS "day") none (PySem.Pos.mk 169 28 169 31))] none [] [] none []) (PySem.FuncBody.stmts [(PySem.Stmt.Expr (PySem.Expr.Call (PySem.Expr.Name (kS "_wall") (PySem.Pos.mk 170 8 170 13)) [(PySem.Expr.Constant (PySem.Const.int (17 : Int)) 0 (PySem.Pos.mk 170 14 170 16))] [] (PySem.Pos.mk 170 8 170 17)) (PySem.Pos.mk 170 8 170 17))]) (PySem.Scope.mk PySem.ScopeKind.function [((kS "self"), PySem.NameKind.local), ((kS "path"), PySem.NameKind.local), ((kS "day"), PySem.NameKind.local), ((kS "_wall"), PySem.NameKind.globalImplicit)] false false []) 3 [] kN kN kN (kZ (kS "evenhall.chart") 604) none (kR 457) kN 0)) #[]))::
  (nat_lit 459, (kO (kY "tuple") none (Data.seq #[] 0) #[]))::
  (nat_lit 461, (kO (kY "tuple") none (Data.seq #[(kZ (kS "self") 763), (kZ (kS "path") 764)] 0) #[]))::
  (nat_lit 462, (kO (kY "tuple") none (Data.seq #[] 0) #[]))::
  (nat_lit 464, (kO (kY "code") none (Data.fields #[(kZ (kS "beneath") 760), (kZ (kS "Chart.beneath") 761), (kZ (kS "/claim/cut.py") 762), (PySem.Value.int (172 : Int) 0), (PySem.Value.int (2 : Int) 0), (PySem.Value.int (0 : Int) 0), (PySem.Value.int (0 : Int) 0), (PySem.Value.int (3 : Int) 0), (kR 459), (PySem.Value.bool true), (PySem.Value.int (181 : Int) 0), (kR 460), kN, (kR 461), (kR 462), (kR 463), (PySem.Value.int (765 : Int) 0), (PySem.Value.int (172 : Int) 0), (kZ (kS "/claim/cut.py") 766)]) #[]))::
  (nat_lit 465, (kO (kY "function") none (Data.func (PySem.FuncData.mk (kS "beneath") (kS "Chart.beneath") (PySem.Arguments.mk [] [(PySem.Arg.mk (kS "self") none (PySem.Pos.mk 172 16 172 20)), (PySem.Arg.mk (kS "path") none (PySem.Pos.mk 172 22 172 26))] none [] [] none []) (PySem.FuncBody.stmts [(PySem.Stmt.Expr (PySem.Expr.Call (PySem.Expr.Name (kS "_wall") (PySem.Pos.mk 173 8 173 13)) [(PySem.Expr.Constant (PySem.Const.int (18 : Int)) 0 (PySem.Pos.mk 173 14 173 16))] [] (PySem.Pos.mk 173 8 173 17)) (PySem.Pos.mk 173 8 173 17))]) (PySem.Scope.mk PySem.ScopeKind.function [((kS "self"), PySem.NameKind.local), ((kS "path"), PySem.NameKind.local), ((kS "_wall"), PySem.NameKind.globalImplicit)] false false []) 3 [] kN kN kN (kZ (kS "evenhall.chart") 604) none (kR 464) kN 0)) #[]))::
  (nat_lit 466, (kO (kY "tuple") none (Data.seq #[] 0) #[]))::
  (nat_lit 468, (kO (kY "tuple") none (Data.seq #[(kZ (kS "self") 771)] 0) #[]))::
  (nat_lit 469, (kO (kY "tuple") none (Data.seq #[] 0) #[]))::
  (nat_lit 471, (kO (kY "code") none (Data.fields #[(kZ (kS "accounts") 768), (kZ (kS "Chart.accounts") 769), (kZ (kS "/claim/cut.py") 770), (PySem.Value.int (175 : Int) 0), (PySem.Value.int (1 : Int) 0), (PySem.Value.int (0 : Int) 0), (PySem.Value.int (0 : Int) 0), (PySem.Value.int (3 : Int) 0), (kR 466), (PySem.Value.bool true), (PySem.Value.int (181 : Int) 0), (kR 467), kN, (kR 468), (kR 469), (kR 470), (PySem.Value.int (772 : Int) 0), (PySem.Value.int (175 : Int) 0), (kZ (kS "/claim/cut.py") 773)]) #[]))::
  (nat_lit 472, (kO (kY "function") none (Data.func (PySem.FuncData.mk (kS "accounts") (kS "Chart.accounts") (PySem.Arguments.mk [] [(PySem.Arg.mk (kS "self") none (PySem.Pos.mk 175 17 175 21))] none [] [] none []) (PySem.FuncBody.stmts [(PySem.Stmt.Expr (PySem.Expr.Call (PySem.Expr.Name (kS "_wall") (PySem.Pos.mk 176 8 176 13)) [(PySem.Expr.Constant (PySem.Const.int (19 : Int)) 0 (PySem.Pos.mk 176 14 176 16))] [] (PySem.Pos.mk 176 8 176 17)) (PySem.Pos.mk 176 8 176 17))]) (PySem.Scope.mk PySem.ScopeKind.function [((kS "self"), PySem.NameKind.local), ((kS "_wall"), PySem.NameKind.globalImplicit)] false false []) 3 [] kN kN kN (kZ (kS "evenhall.chart") 604) none (kR 471) kN 0)) #[]))::
  (nat_lit 473, (kO (kY "tuple") none (Data.seq #[(kZ (kS "by_path") 775)] 0) #[]))::
  (nat_lit 474, (kO (kY "dict") none (Data.dict #[(kE P "__module__" 670 (kZ (kS "evenhall.chart") 604)), (kE P "__firstlineno__" 674 (PySem.Value.int (120 : Int) 673)), (kE P "__init__" 681 (kR 395)), (kE P "add_top" 690 (kR 402)), (kE P "add" 701 (kR 409)), (kE P "shut" 710 (kR 416)), (kE P "has" 718 (kR 423)), (kE P "account" 726 (kR 430)), (kE P "kind_of" 734 (kR 437)), (kE P "currency_of" 742 (kR 444)), (kE P "span_of" 750 (kR 451)), (kE P "is_open" 759 (kR 458)), (kE P "beneath" 767 (kR 465)), (kE P "accounts" 774 (kR 472)), (kE P "__static_attributes__" 776 (kR 473)), (kE P "__dict__" 778 (kR 476)), (kE P "__weakref__" 780 (kR 477)), (kE P "__doc__" 781 kN)] 4) #[]))::
  (nat_lit 475, (kO (kY "type") none (Data.cls (PySem.ClassData.mk (kS "Chart") [(kY "object")] [(kR 475), (kY "object")] 474 (kS "Chart") true [] [] false none false)) #[none, none, (some (kZ (kS "Chart") 663)), (some (kZ (kS "Chart") 671)), (some (kB "object.__new__")), (some (PySem.Value.bool true))]))::
  (nat_lit 476, (kO (kY "getset_descriptor") none (Data.fields #[(kZ (kS "__dict__") 777), (kR 475), (kB "function.__dict__"), (kB "function.__dict__#set")]) #[]))::
  (nat_lit 477, (kO (kY "getset_descriptor") none (Data.fields #[(kZ (kS "__weakref__") 779), (kR 475), (kB "ExceptionGroup.__weakref__"), kN]) #[]))::
  (nat_lit 487, (kO (kY "tuple") none (Data.seq #[] 0) #[]))::
  (nat_lit 489, (kO (kY "tuple") none (Data.seq #[(kZ (kS "self") 801)] 0) #[]))::
  (nat_lit 490, (kO (kY "tuple") none (Data.seq #[] 0) #[]))::
  (nat_lit 492, (kO (kY "code") none (Data.fields #[(kZ (kS "__init__") 798), (kZ (kS "Journal.__init__") 799), (kZ (kS "/claim/cut.py") 800), (PySem.Value.int (180 : Int) 0), (PySem.Value.int (1 : Int) 0), (PySem.Value.int (0 : Int) 0), (PySem.Value.int (0 : Int) 0), (PySem.Value.int (3 : Int) 0), (kR 487), (PySem.Value.bool true), (PySem.Value.int (181 : Int) 0), (kR 488), kN, (kR 489), (kR 490), (kR 491), (PySem.Value.int (802 : Int) 0), (PySem.Value.int (180 : Int) 0), (kZ (kS "/claim/cut.py") 803)]) #[]))::
  (nat_lit 493, (kO (kY "function") none (Data.func (PySem.W.fnOf (kS "__init__") (kS "Journal.__init__") (aA aS) (av aS) (ag aS) kN kN kN (kZ (kS "evenhall.journal") 784) none (kR 492) kN)) #[]))::
  (nat_lit 494, (kO (kY "tuple") none (Data.seq #[] 0) #[]))::
  (nat_lit 496, (kO (kY "tuple") none (Data.seq #[(kZ (kS "self") 808), (kZ (kS "day") 809), (kZ (kS "note") 810), (kZ (kS "rows") 811), (kZ (kS "undoes") 812), (kZ (kS "number") 813)] 0) #[]))::
  (nat_lit 497, (kO (kY "tuple") none (Data.seq #[] 0) #[]))::
  (nat_lit 499, (kO (kY "code") none (Data.fields #[(kZ (kS "put") 805), (kZ (kS "Journal.put") 806), (kZ (kS "/claim/cut.py") 807), (PySem.Value.int (184 : Int) 0), (PySem.Value.int (5 : Int) 0), (PySem.Value.int (0 : Int) 0), (PySem.Value.int (0 : Int) 0), (PySem.Value.int (3 : Int) 0), (kR 494), (PySem.Value.bool true), (PySem.Value.int (181 : Int) 0), (kR 495), kN, (kR 496), (kR 497), (kR 498), (PySem.Value.int (814 : Int) 0), (PySem.Value.int (184 : Int) 0), (kZ (kS "/claim/cut.py") 815)]) #[]))::
  (nat_lit 500, (kO (kY "function") none (Data.func (PySem.W.fnOf (kS "put") (kS "Journal.put") (aA br) (av br) (ag br) kN kN kN (kZ (kS "evenhall.journal") 784) none (kR 499) kN)) #[]))::
  (nat_lit 501, (kO (kY "tuple") none (Data.seq #[] 0) #[]))::
  (nat_lit 503, (kO (kY "tuple") none (Data.seq #[(kZ (kS "self") 820)] 0) #[]))::
  (nat_lit 504, (kO (kY "tuple") none (Data.seq #[] 0) #[]))::
  (nat_lit 506, (kO (kY "code") none (Data.fields #[(kZ (kS "many") 817), (kZ (kS "Journal.many") 818), (kZ (kS "/claim/cut.py") 819), (PySem.Value.int (191 : Int) 0), (PySem.Value.int (1 : Int) 0), (PySem.Value.int (0 : Int) 0), (PySem.Value.int (0 : Int) 0), (PySem.Value.int (3 : Int) 0), (kR 501), (PySem.Value.bool true), (PySem.Value.int (181 : Int) 0), (kR 502), kN, (kR 503), (kR 504), (kR 505), (PySem.Value.int (821 : Int) 0), (PySem.Value.int (191 : Int) 0), (kZ (kS "/claim/cut.py") 822)]) #[]))::
  (nat_lit 507, (kO (kY "function") none (Data.func (PySem.W.fnOf (kS "many") (kS "Journal.many") (aA bW) (av bW) (ag bW) kN kN kN (kZ (kS "evenhall.journal") 784) none (kR 506) kN)) #[]))::
  (nat_lit 508, (kO (kY "tuple") none (Data.seq #[] 0) #[]))::
  (nat_lit 510, (kO (kY "tuple") none (Data.seq #[(kZ (kS "self") 827), (kZ (kS "number") 828)] 0) #[]))::
  (nat_lit 511, (kO (kY "tuple") none (Data.seq #[] 0) #[]))::
  (nat_lit 513, (kO (kY "code") none (Data.fields #[(kZ (kS "booking") 824), (kZ (kS "Journal.booking") 825), (kZ (kS "/claim/cut.py") 826), (PySem.Value.int (194 : Int) 0), (PySem.Value.int (2 : Int) 0), (PySem.Value.int (0 : Int) 0), (PySem.Value.int (0 : Int) 0), (PySem.Value.int (3 : Int) 0), (kR 508), (PySem.Value.bool true), (PySem.Value.int (181 : Int) 0), (kR 509), kN, (kR 510), (kR 511), (kR 512), (PySem.Value.int (829 : Int) 0), (PySem.Value.int (194 : Int) 0), (kZ (kS "/claim/cut.py") 830)]) #[]))::
  (nat_lit 514, (kO (kY "function") none (Data.func (PySem.W.fnOf (kS "booking") (kS "Journal.booking") (aA bx) (av bx) (ag bx) kN kN kN (kZ (kS "evenhall.journal") 784) none (kR 513) kN)) #[]))::
  (nat_lit 515, (kO (kY "tuple") none (Data.seq #[] 0) #[]))::
  (nat_lit 517, (kO (kY "tuple") none (Data.seq #[(kZ (kS "self") 835)] 0) #[]))::
  (nat_lit 518, (kO (kY "tuple") none (Data.seq #[] 0) #[]))::
  (nat_lit 520, (kO (kY "code") none (Data.fields #[(kZ (kS "every") 832), (kZ (kS "Journal.every") 833), (kZ (kS "/claim/cut.py") 834), (PySem.Value.int (199 : Int) 0), (PySem.Value.int (1 : Int) 0), (PySem.Value.int (0 : Int) 0), (PySem.Value.int (0 : Int) 0), (PySem.Value.int (3 : Int) 0), (kR 515), (PySem.Value.bool true), (PySem.Value.int (181 : Int) 0), (kR 516), kN, (kR 517), (kR 518), (kR 519), (PySem.Value.int (836 : Int) 0), (PySem.Value.int (199 : Int) 0), (kZ (kS "/claim/cut.py") 837)]) #[]))::
  (nat_lit 521, (kO (kY "function") none (Data.func (PySem.W.fnOf (kS "every") (kS "Journal.every") (aA bj) (av bj) (ag bj) kN kN kN (kZ (kS "evenhall.journal") 784) none (kR 520) kN)) #[]))::
  (nat_lit 522, (kO (kY "tuple") none (Data.seq #[] 0) #[]))::
  (nat_lit 524, (kO (kY "tuple") none (Data.seq #[(kZ (kS "self") 842), (kZ (kS "number") 843)] 0) #[]))::
  (nat_lit 525, (kO (kY "tuple") none (Data.seq #[] 0) #[]))::
  (nat_lit 527, (kO (kY "code") none (Data.fields #[(kZ (kS "undone_by") 839), (kZ (kS "Journal.undone_by") 840), (kZ (kS "/claim/cut.py") 841), (PySem.Value.int (202 : Int) 0), (PySem.Value.int (2 : Int) 0), (PySem.Value.int (0 : Int) 0), (PySem.Value.int (0 : Int) 0), (PySem.Value.int (3 : Int) 0), (kR 522), (PySem.Value.bool true), (PySem.Value.int (181 : Int) 0), (kR 523), kN, (kR 524), (kR 525), (kR 526), (PySem.Value.int (844 : Int) 0), (PySem.Value.int (202 : Int) 0), (kZ (kS "/claim/cut.py") 845)]) #[]))::
  (nat_lit 528, (kO (kY "function") none (Data.func (PySem.FuncData.mk (kS "undone_by") (kS "Journal.undone_by") (PySem.Arguments.mk [] [(PySem.Arg.mk (kS "self") none (PySem.Pos.mk 202 18 202 22)), (PySem.Arg.mk (kS "number") none (PySem.Pos.mk 202 24 202 30))] none [] [] none []) (PySem.FuncBody.stmts [(PySem.Stmt.Expr (PySem.Expr.Call (PySem.Expr.Name (kS "_wall") (PySem.Pos.mk 203 8 203 13)) [(PySem.Expr.Constant (PySem.Const.int (20 : Int)) 0 (PySem.Pos.mk 203 14 203 16))] [] (PySem.Pos.mk 203 8 203 17)) (PySem.Pos.mk 203 8 203 17))]) (PySem.Scope.mk PySem.ScopeKind.function [((kS "self"), PySem.NameKind.local), ((kS "number"), PySem.NameKind.local), ((kS "_wall"), PySem.NameKind.globalImplicit)] false false []) 3 [] kN kN kN (kZ (kS "evenhall.journal") 784) none (kR 527) kN 0)) #[]))::
  (nat_lit 529, (kO (kY "tuple") none (Data.seq #[(kZ (kS "bookings") 847), (kZ (kS "undoings") 848)] 0) #[]))::
  (nat_lit 530, (kO (kY "dict") none (Data.dict #[(kE P "__module__" 793 (kZ (kS "evenhall.journal") 784)), (kE P "__firstlineno__" 797 (PySem.Value.int (178 : Int) 796)), (kE P "__init__" 804 (kR 493)), (kE P "put" 816 (kR 500)), (kE P "many" 823 (kR 507)), (kE P "booking" 831 (kR 514)), (kE P "every" 838 (kR 521)), (kE P "undone_by" 846 (kR 528)), (kE P "__static_attributes__" 849 (kR 529)), (kE P "__dict__" 851 (kR 532)), (kE P "__weakref__" 853 (kR 533)), (kE P "__doc__" 854 kN)] 4) #[]))::
  (nat_lit 531, (kO (kY "type") none (Data.cls (PySem.ClassData.mk (kS "Journal") [(kY "object")] [(kR 531), (kY "object")] 530 (kS "Journal") true [] [] false none false)) #[none, none, (some (kZ (kS "Journal") 786)), (some (kZ (kS "Journal") 794)), (some (kB "object.__new__")), (some (PySem.Value.bool true))]))::
  (nat_lit 532, (kO (kY "getset_descriptor") none (Data.fields #[(kZ (kS "__dict__") 850), (kR 531), (kB "function.__dict__"), (kB "function.__dict__#set")]) #[]))::
  (nat_lit 533, (kO (kY "getset_descriptor") none (Data.fields #[(kZ (kS "__weakref__") 852), (kR 531), (kB "ExceptionGroup.__weakref__"), kN]) #[]))::
  (nat_lit 536, (kO (kY "tuple") none (Data.seq #[] 0) #[]))::
  (nat_lit 538, (kO (kY "tuple") none (Data.seq #[(kZ (kS "_law_script") 862), (kZ (kS "_law_k") 863)] 0) #[]))::
  (nat_lit 539, (kO (kY "tuple") none (Data.seq #[] 0) #[]))::
  (nat_lit 541, (kO (kY "code") none (Data.fields #[(kZ (kS "_law_cell_at") 859), (kZ (kS "_law_cell_at") 860), (kZ (kS "/claim/cut.py") 861), (PySem.Value.int (205 : Int) 0), (PySem.Value.int (2 : Int) 0), (PySem.Value.int (0 : Int) 0), (PySem.Value.int (0 : Int) 0), (PySem.Value.int (3 : Int) 0), (kR 536), (PySem.Value.bool true), (PySem.Value.int (181 : Int) 0), (kR 537), kN, (kR 538), (kR 539), (kR 540), (PySem.Value.int (864 : Int) 0), (PySem.Value.int (205 : Int) 0), (kZ (kS "/claim/cut.py") 865)]) #[]))::
  (nat_lit 542, (kO (kY "function") none (Data.func (PySem.W.fnOf (kS "_law_cell_at") (kS "_law_cell_at") (aA bA) (av bA) (ag bA) kN kN kN (kZ (kS "law_evenhall_k17_statements") 857) none (kR 541) kN)) #[]))::
  (nat_lit 543, (kO (kY "tuple") none (Data.seq #[] 0) #[]))::
  (nat_lit 545, (kO (kY "tuple") none (Data.seq #[(kZ (kS "_law_cell") 870), (kZ (kS "_law_k") 871)] 0) #[]))::
  (nat_lit 546, (kO (kY "tuple") none (Data.seq #[] 0) #[]))::
  (nat_lit 548, (kO (kY "code") none (Data.fields #[(kZ (kS "_law_mixed") 867), (kZ (kS "_law_mixed") 868), (kZ (kS "/claim/cut.py") 869), (PySem.Value.int (209 : Int) 0), (PySem.Value.int (2 : Int) 0), (PySem.Value.int (0 : Int) 0), (PySem.Value.int (0 : Int) 0), (PySem.Value.int (3 : Int) 0), (kR 543), (PySem.Value.bool true), (PySem.Value.int (181 : Int) 0), (kR 544), kN, (kR 545), (kR 546), (kR 547), (PySem.Value.int (872 : Int) 0), (PySem.Value.int (209 : Int) 0), (kZ (kS "/claim/cut.py") 873)]) #[]))::
  (nat_lit 549, (kO (kY "function") none (Data.func (PySem.W.fnOf (kS "_law_mixed") (kS "_law_mixed") (aA bM) (av bM) (ag bM) kN kN kN (kZ (kS "law_evenhall_k17_statements") 857) none (kR 548) kN)) #[]))::
  (nat_lit 550, (kO (kY "tuple") none (Data.seq #[] 0) #[]))::
  (nat_lit 552, (kO (kY "tuple") none (Data.seq #[(kZ (kS "_law_found") 878)] 0) #[]))::
  (nat_lit 553, (kO (kY "tuple") none (Data.seq #[] 0) #[]))::
  (nat_lit 555, (kO (kY "code") none (Data.fields #[(kZ (kS "_law_whole") 875), (kZ (kS "_law_whole") 876), (kZ (kS "/claim/cut.py") 877), (PySem.Value.int (211 : Int) 0), (PySem.Value.int (1 : Int) 0), (PySem.Value.int (0 : Int) 0), (PySem.Value.int (0 : Int) 0), (PySem.Value.int (3 : Int) 0), (kR 550), (PySem.Value.bool true), (PySem.Value.int (181 : Int) 0), (kR 551), kN, (kR 552), (kR 553), (kR 554), (PySem.Value.int (879 : Int) 0), (PySem.Value.int (211 : Int) 0), (kZ (kS "/claim/cut.py") 880)]) #[]))::
  (nat_lit 556, (kO (kY "function") none (Data.func (PySem.W.fnOf (kS "_law_whole") (kS "_law_whole") (aA bN) (av bN) (ag bN) kN kN kN (kZ (kS "law_evenhall_k17_statements") 857) none (kR 555) kN)) #[]))::
  (nat_lit 557, (kO (kY "tuple") none (Data.seq #[] 0) #[]))::
  (nat_lit 560, (kO (kY "code") none (Data.fields #[(kZ (kS "_law_names") 882), (kZ (kS "_law_names") 883), (kZ (kS "/claim/cut.py") 884), (PySem.Value.int (213 : Int) 0), (PySem.Value.int (1 : Int) 0), (PySem.Value.int (0 : Int) 0), (PySem.Value.int (0 : Int) 0), (PySem.Value.int (3 : Int) 0), (kR 557), (PySem.Value.bool true), (PySem.Value.int (181 : Int) 0), (kR 558), kN, kN, kN, (kR 559), (PySem.Value.int (885 : Int) 0), (PySem.Value.int (213 : Int) 0), (kZ (kS "/claim/cut.py") 886)]) #[]))::
  (nat_lit 561, (kO (kY "function") none (Data.func (PySem.W.fnOf (kS "_law_names") (kS "_law_names") (aA bO) (av bO) (ag bO) kN kN kN (kZ (kS "law_evenhall_k17_statements") 857) none (kR 560) kN)) #[]))::
  (nat_lit 562, (kO (kY "tuple") none (Data.seq #[] 0) #[]))::
  (nat_lit 564, (kO (kY "tuple") none (Data.seq #[(kZ (kS "_law_script") 891), (kZ (kS "_law_many") 892), (kZ (kS "_law_names_here") 893), (kZ (kS "_law_paths_here") 894), (kZ (kS "_law_k") 895), (kZ (kS "_law_cell") 896), (kZ (kS "_law_ahead") 897), (kZ (kS "_law_path") 898)] 0) #[]))::
  (nat_lit 565, (kO (kY "tuple") none (Data.seq #[] 0) #[]))::
  (nat_lit 567, (kO (kY "code") none (Data.fields #[(kZ (kS "_law_paths") 888), (kZ (kS "_law_paths") 889), (kZ (kS "/claim/cut.py") 890), (PySem.Value.int (224 : Int) 0), (PySem.Value.int (2 : Int) 0), (PySem.Value.int (0 : Int) 0), (PySem.Value.int (0 : Int) 0), (PySem.Value.int (3 : Int) 0), (kR 562), (PySem.Value.bool true), (PySem.Value.int (181 : Int) 0), (kR 563), kN, (kR 564), (kR 565), (kR 566), (PySem.Value.int (899 : Int) 0), (PySem.Value.int (224 : Int) 0), (kZ (kS "/claim/cut.py") 900)]) #[]))::
  (nat_lit 568, (kO (kY "function") none (Data.func (PySem.W.fnOf (kS "_law_paths") (kS "_law_paths") (aA bQ) (av bQ) (ag bQ) kN kN kN (kZ (kS "law_evenhall_k17_statements") 857) none (kR 567) kN)) #[]))::
  (nat_lit 569, (kO (kY "tuple") none (Data.seq #[] 0) #[]))::
  (nat_lit 571, (kO (kY "tuple") none (Data.seq #[(kZ (kS "_law_paths_here") 905), (kZ (kS "_law_chart_here") 906), (kZ (kS "_law_k") 907), (kZ (kS "_law_path") 908)] 0) #[]))::
  (nat_lit 572, (kO (kY "tuple") none (Data.seq #[] 0) #[]))::
  (nat_lit 574, (kO (kY "code") none (Data.fields #[(kZ (kS "_law_chart") 902), (kZ (kS "_law_chart") 903), (kZ (kS "/claim/cut.py") 904), (PySem.Value.int (234 : Int) 0), (PySem.Value.int (1 : Int) 0), (PySem.Value.int (0 : Int) 0), (PySem.Value.int (0 : Int) 0), (PySem.Value.int (3 : Int) 0), (kR 569), (PySem.Value.bool true), (PySem.Value.int (181 : Int) 0), (kR 570), kN, (kR 571), (kR 572), (kR 573), (PySem.Value.int (909 : Int) 0), (PySem.Value.int (234 : Int) 0), (kZ (kS "/claim/cut.py") 910)]) #[]))::
  (nat_lit 575, (kO (kY "function") none (Data.func (PySem.W.fnOf (kS "_law_chart") (kS "_law_chart") (aA bP) (av bP) (ag bP) kN kN kN (kZ (kS "law_evenhall_k17_statements") 857) none (kR 574) kN)) #[]))::
  (nat_lit 576, (kO (kY "tuple") none (Data.seq #[] 0) #[]))::
  (nat_lit 579, (kO (kY "code") none (Data.fields #[(kZ (kS "_law_currencies") 912), (kZ (kS "_law_currencies") 913), (kZ (kS "/claim/cut.py") 914), (PySem.Value.int (242 : Int) 0), (PySem.Value.int (1 : Int) 0), (PySem.Value.int (0 : Int) 0), (PySem.Value.int (0 : Int) 0), (PySem.Value.int (3 : Int) 0), (kR 576), (PySem.Value.bool true), (PySem.Value.int (181 : Int) 0), (kR 577), kN, kN, kN, (kR 578), (PySem.Value.int (915 : Int) 0), (PySem.Value.int (242 : Int) 0), (kZ (kS "/claim/cut.py") 916)]) #[]))::
  (nat_lit 580, (kO (kY "function") none (Data.func (PySem.W.fnOf (kS "_law_currencies") (kS "_law_currencies") (aA aX) (av aX) (ag aX) kN kN kN (kZ (kS "law_evenhall_k17_statements") 857) none (kR 579) kN)) #[]))::
  (nat_lit 581, (kO (kY "tuple") none (Data.seq #[] 0) #[]))::
  (nat_lit 583, (kO (kY "tuple") none (Data.seq #[(kZ (kS "_law_month") 921), (kZ (kS "_law_year") 922), (kZ (kS "_law_day_here") 923), (kZ (kS "_law_long_year") 924), (kZ (kS "_law_place") 925)] 0) #[]))::
  (nat_lit 584, (kO (kY "tuple") none (Data.seq #[] 0) #[]))::
  (nat_lit 586, (kO (kY "code") none (Data.fields #[(kZ (kS "_law_first") 918), (kZ (kS "_law_first") 919), (kZ (kS "/claim/cut.py") 920), (PySem.Value.int (247 : Int) 0), (PySem.Value.int (1 : Int) 0), (PySem.Value.int (0 : Int) 0), (PySem.Value.int (0 : Int) 0), (PySem.Value.int (3 : Int) 0), (kR 581), (PySem.Value.bool true), (PySem.Value.int (181 : Int) 0), (kR 582), kN, (kR 583), (kR 584), (kR 585), (PySem.Value.int (926 : Int) 0), (PySem.Value.int (247 : Int) 0), (kZ (kS "/claim/cut.py") 927)]) #[]))::
  (nat_lit 587, (kO (kY "function") none (Data.func (PySem.W.fnOf (kS "_law_first") (kS "_law_first") (aA bi) (av bi) (ag bi) kN kN kN (kZ (kS "law_evenhall_k17_statements") 857) none (kR 586) kN)) #[]))::
  (nat_lit 588, (kO (kY "tuple") none (Data.seq #[] 0) #[]))::
  (nat_lit 590, (kO (kY "tuple") none (Data.seq #[(kZ (kS "_law_cell") 932), (kZ (kS "_law_month") 933)] 0) #[]))::
  (nat_lit 591, (kO (kY "tuple") none (Data.seq #[] 0) #[]))::
  (nat_lit 593, (kO (kY "code") none (Data.fields #[(kZ (kS "_law_day") 929), (kZ (kS "_law_day") 930), (kZ (kS "/claim/cut.py") 931), (PySem.Value.int (254 : Int) 0), (PySem.Value.int (2 : Int) 0), (PySem.Value.int (0 : Int) 0), (PySem.Value.int (0 : Int) 0), (PySem.Value.int (3 : Int) 0), (kR 588), (PySem.Value.bool true), (PySem.Value.int (181 : Int) 0), (kR 589), kN, (kR 590), (kR 591), (kR 592), (PySem.Value.int (934 : Int) 0), (PySem.Value.int (254 : Int) 0), (kZ (kS "/claim/cut.py") 935)]) #[]))::
  (nat_lit 594, (kO (kY "function") none (Data.func (PySem.W.fnOf (kS "_law_day") (kS "_law_day") (aA cj) (av cj) (ag cj) kN kN kN (kZ (kS "law_evenhall_k17_statements") 857) none (kR 593) kN)) #[]))::
  (nat_lit 595, (kO (kY "tuple") none (Data.seq #[] 0) #[]))::
  (nat_lit 597, (kO (kY "tuple") none (Data.seq #[(kZ (kS "_law_cell") 940), (kZ (kS "_law_some") 941)] 0) #[]))::
  (nat_lit 598, (kO (kY "tuple") none (Data.seq #[] 0) #[]))::
  (nat_lit 600, (kO (kY "code") none (Data.fields #[(kZ (kS "_law_amount") 937), (kZ (kS "_law_amount") 938), (kZ (kS "/claim/cut.py") 939), (PySem.Value.int (260 : Int) 0), (PySem.Value.int (1 : Int) 0), (PySem.Value.int (0 : Int) 0), (PySem.Value.int (0 : Int) 0), (PySem.Value.int (3 : Int) 0), (kR 595), (PySem.Value.bool true), (PySem.Value.int (181 : Int) 0), (kR 596), kN, (kR 597), (kR 598), (kR 599), (PySem.Value.int (942 : Int) 0), (PySem.Value.int (260 : Int) 0), (kZ (kS "/claim/cut.py") 943)]) #[]))::
  (nat_lit 601, (kO (kY "function") none (Data.func (PySem.W.fnOf (kS "_law_amount") (kS "_law_amount") (aA bt) (av bt) (ag bt) kN kN kN (kZ (kS "law_evenhall_k17_statements") 857) none (kR 600) kN)) #[]))::
  (nat_lit 602, (kO (kY "tuple") none (Data.seq #[] 0) #[]))::
  (nat_lit 604, (kO (kY "tuple") none (Data.seq #[(kZ (kS "_law_cell") 948), (kZ (kS "_law_paths_here") 949), (kZ (kS "_law_currencies_here") 950), (kZ (kS "_law_rows_here") 951), (kZ (kS "_law_k") 952), (kZ (kS "_law_path") 953), (kZ (kS "_law_currency") 954), (kZ (kS "_law_amount_here") 955)] 0) #[]))::
  (nat_lit 605, (kO (kY "tuple") none (Data.seq #[] 0) #[]))::
  (nat_lit 607, (kO (kY "code") none (Data.fields #[(kZ (kS "_law_rows") 945), (kZ (kS "_law_rows") 946), (kZ (kS "/claim/cut.py") 947), (PySem.Value.int (267 : Int) 0), (PySem.Value.int (3 : Int) 0), (PySem.Value.int (0 : Int) 0), (PySem.Value.int (0 : Int) 0), (PySem.Value.int (3 : Int) 0), (kR 602), (PySem.Value.bool true), (PySem.Value.int (181 : Int) 0), (kR 603), kN, (kR 604), (kR 605), (kR 606), (PySem.Value.int (956 : Int) 0), (PySem.Value.int (267 : Int) 0), (kZ (kS "/claim/cut.py") 957)]) #[]))::
  (nat_lit 608, (kO (kY "function") none (Data.func (PySem.W.fnOf (kS "_law_rows") (kS "_law_rows") (aA bU) (av bU) (ag bU) kN kN kN (kZ (kS "law_evenhall_k17_statements") 857) none (kR 607) kN)) #[]))::
  (nat_lit 609, (kO (kY "tuple") none (Data.seq #[] 0) #[]))::
  (nat_lit 612, (kO (kY "code") none (Data.fields #[(kZ (kS "_law_due") 959), (kZ (kS "_law_due") 960), (kZ (kS "/claim/cut.py") 961), (PySem.Value.int (278 : Int) 0), (PySem.Value.int (5 : Int) 0), (PySem.Value.int (0 : Int) 0), (PySem.Value.int (0 : Int) 0), (PySem.Value.int (3 : Int) 0), (kR 609), (PySem.Value.bool true), (PySem.Value.int (181 : Int) 0), (kR 610), kN, kN, kN, (kR 611), (PySem.Value.int (962 : Int) 0), (PySem.Value.int (278 : Int) 0), (kZ (kS "/claim/cut.py") 963)]) #[]))::
  (nat_lit 613, (kO (kY "function") none (Data.func (PySem.W.fnOf (kS "_law_due") (kS "_law_due") (aA bK) (av bK) (ag bK) kN kN kN (kZ (kS "law_evenhall_k17_statements") 857) none (kR 612) kN)) #[]))::
  (nat_lit 614, (kO (kY "tuple") none (Data.seq #[] 0) #[]))::
  (nat_lit 617, (kO (kY "code") none (Data.fields #[(kZ (kS "_law_told") 965), (kZ (kS "_law_told") 966), (kZ (kS "/claim/cut.py") 967), (PySem.Value.int (293 : Int) 0), (PySem.Value.int (5 : Int) 0), (PySem.Value.int (0 : Int) 0), (PySem.Value.int (0 : Int) 0), (PySem.Value.int (3 : Int) 0), (kR 614), (PySem.Value.bool true), (PySem.Value.int (181 : Int) 0), (kR 615), kN, kN, kN, (kR 616), (PySem.Value.int (968 : Int) 0), (PySem.Value.int (293 : Int) 0), (kZ (kS "/claim/cut.py") 969)]) #[]))::
  (nat_lit 618, (kO (kY "function") none (Data.func (PySem.W.fnOf (kS "_law_told") (kS "_law_told") (aA bd) (av bd) (ag bd) kN kN kN (kZ (kS "law_evenhall_k17_statements") 857) none (kR 617) kN)) #[]))::
  (nat_lit 619, (kO (kY "tuple") none (Data.seq #[] 0) #[]))::
  (nat_lit 621, (kO (kY "tuple") none (Data.seq #[(kZ (kS "_law_cell") 974), (kZ (kS "_law_base") 975), (kZ (kS "_law_paths_here") 976), (kZ (kS "_law_currencies_here") 977), (kZ (kS "_law_first_here") 978), (kZ (kS "_law_last") 979)] 0) #[]))::
  (nat_lit 622, (kO (kY "tuple") none (Data.seq #[] 0) #[]))::
  (nat_lit 624, (kO (kY "code") none (Data.fields #[(kZ (kS "_law_asked") 971), (kZ (kS "_law_asked") 972), (kZ (kS "/claim/cut.py") 973), (PySem.Value.int (307 : Int) 0), (PySem.Value.int (4 : Int) 0), (PySem.Value.int (0 : Int) 0), (PySem.Value.int (0 : Int) 0), (PySem.Value.int (3 : Int) 0), (kR 619), (PySem.Value.bool true), (PySem.Value.int (181 : Int) 0), (kR 620), kN, (kR 621), (kR 622), (kR 623), (PySem.Value.int (980 : Int) 0), (PySem.Value.int (307 : Int) 0), (kZ (kS "/claim/cut.py") 981)]) #[]))::
  (nat_lit 625, (kO (kY "function") none (Data.func (PySem.W.fnOf (kS "_law_asked") (kS "_law_asked") (aA bE) (av bE) (ag bE) kN kN kN (kZ (kS "law_evenhall_k17_statements") 857) none (kR 624) kN)) #[]))::
  (nat_lit 626, (kO (kY "tuple") none (Data.seq #[] 0) #[]))::
  (nat_lit 628, (kO (kY "tuple") none (Data.seq #[(kZ (kS "_law_chart_here") 986), (kZ (kS "_law_journal") 987), (kZ (kS "_law_path") 988), (kZ (kS "_law_currency") 989), (kZ (kS "e") 990), (kZ (kS "_law_others") 991)] 0) #[]))::
  (nat_lit 629, (kO (kY "tuple") none (Data.seq #[] 0) #[]))::
  (nat_lit 631, (kO (kY "code") none (Data.fields #[(kZ (kS "_law_no_account") 983), (kZ (kS "_law_no_account") 984), (kZ (kS "/claim/cut.py") 985), (PySem.Value.int (314 : Int) 0), (PySem.Value.int (4 : Int) 0), (PySem.Value.int (0 : Int) 0), (PySem.Value.int (0 : Int) 0), (PySem.Value.int (3 : Int) 0), (kR 626), (PySem.Value.bool true), (PySem.Value.int (181 : Int) 0), (kR 627), kN, (kR 628), (kR 629), (kR 630), (PySem.Value.int (992 : Int) 0), (PySem.Value.int (314 : Int) 0), (kZ (kS "/claim/cut.py") 993)]) #[]))::
  (nat_lit 632, (kO (kY "function") none (Data.func (PySem.W.fnOf (kS "_law_no_account") (kS "_law_no_account") (aA aZ) (av aZ) (ag aZ) kN kN kN (kZ (kS "law_evenhall_k17_statements") 857) none (kR 631) kN)) #[]))::
  (nat_lit 633, (kO (kY "tuple") none (Data.seq #[] 0) #[]))::
  (nat_lit 635, (kO (kY "tuple") none (Data.seq #[(kZ (kS "_law_chart_here") 998), (kZ (kS "_law_journal") 999), (kZ (kS "_law_booked") 1000), (kZ (kS "_law_odd") 1001), (kZ (kS "_law_paths_here") 1002), (kZ (kS "_law_currency") 1003), (kZ (kS "_law_held") 1004), (kZ (kS "_law_fresh") 1005)] 0) #[]))::
  (nat_lit 636, (kO (kY "tuple") none (Data.seq #[] 0) #[]))::
  (nat_lit 638, (kO (kY "code") none (Data.fields #[(kZ (kS "_law_comes_then") 995), (kZ (kS "_law_comes_then") 996), (kZ (kS "/claim/cut.py") 997), (PySem.Value.int (321 : Int) 0), (PySem.Value.int (7 : Int) 0), (PySem.Value.int (0 : Int) 0), (PySem.Value.int (0 : Int) 0), (PySem.Value.int (3 : Int) 0), (kR 633), (PySem.Value.bool true), (PySem.Value.int (181 : Int) 0), (kR 634), kN, (kR 635), (kR 636), (kR 637), (PySem.Value.int (1006 : Int) 0), (PySem.Value.int (321 : Int) 0), (kZ (kS "/claim/cut.py") 1007)]) #[]))::
  (nat_lit 639, (kO (kY "function") none (Data.func (PySem.W.fnOf (kS "_law_comes_then") (kS "_law_comes_then") (aA aW) (av aW) (ag aW) kN kN kN (kZ (kS "law_evenhall_k17_statements") 857) none (kR 638) kN)) #[]))::
  (nat_lit 640, (kO (kY "tuple") none (Data.seq #[] 0) #[]))::
  (nat_lit 643, (kO (kY "code") none (Data.fields #[(kZ (kS "law") 1009), (kZ (kS "law") 1010), (kZ (kS "/claim/cut.py") 1011), (PySem.Value.int (329 : Int) 0), (PySem.Value.int (1 : Int) 0), (PySem.Value.int (0 : Int) 0), (PySem.Value.int (0 : Int) 0), (PySem.Value.int (3 : Int) 0), (kR 640), (PySem.Value.bool true), (PySem.Value.int (181 : Int) 0), (kR 641), kN, kN, kN, (kR 642), (PySem.Value.int (1012 : Int) 0), (PySem.Value.int (329 : Int) 0), (kZ (kS "/claim/cut.py") 1013)]) #[]))::
  (nat_lit 644, (kO (kY "function") none (Data.func (PySem.W.fnOf (kS "law") (kS "law") (aA dQ) (av dQ) (ag dQ) kN kN kN (kZ (kS "law_evenhall_k17_statements") 857) none (kR 643) kN)) #[])) :: []
def adrs : List Addr := [nat_lit 2, nat_lit 3, nat_lit 15, nat_lit 17, nat_lit 18, nat_lit 20, nat_lit 21, nat_lit 22, nat_lit 29, nat_lit 30, nat_lit 31, nat_lit 32, nat_lit 35, nat_lit 42, nat_lit 44, nat_lit 45, nat_lit 47, nat_lit 48, nat_lit 49, nat_lit 50, nat_lit 51, nat_lit 54, nat_lit 61, nat_lit 63, nat_lit 64, nat_lit 66, nat_lit 67, nat_lit 68, nat_lit 69, nat_lit 70, nat_lit 73, nat_lit 80, nat_lit 82, nat_lit 83, nat_lit 85, nat_lit 86, nat_lit 87, nat_lit 88, nat_lit 89, nat_lit 92, nat_lit 99, nat_lit 101, nat_lit 102, nat_lit 104, nat_lit 105, nat_lit 106, nat_lit 107, nat_lit 108, nat_lit 111, nat_lit 118, nat_lit 120, nat_lit 121, nat_lit 123, nat_lit 124, nat_lit 125, nat_lit 126, nat_lit 127, nat_lit 130, nat_lit 137, nat_lit 139, nat_lit 140, nat_lit 142, nat_lit 143, nat_lit 144, nat_lit 145, nat_lit 146, nat_lit 149, nat_lit 156, nat_lit 158, nat_lit 159, nat_lit 161, nat_lit 162, nat_lit 163, nat_lit 164, nat_lit 165, nat_lit 168, nat_lit 175, nat_lit 177, nat_lit 178, nat_lit 180, nat_lit 181, nat_lit 182, nat_lit 183, nat_lit 184, nat_lit 187, nat_lit 194, nat_lit 196, nat_lit 197, nat_lit 199, nat_lit 200, nat_lit 201, nat_lit 202, nat_lit 203, nat_lit 206, nat_lit 213, nat_lit 215, nat_lit 216, nat_lit 218, nat_lit 219, nat_lit 220, nat_lit 221, nat_lit 222, nat_lit 225, nat_lit 232, nat_lit 234, nat_lit 235, nat_lit 237, nat_lit 238, nat_lit 239, nat_lit 240, nat_lit 241, nat_lit 244, nat_lit 251, nat_lit 253, nat_lit 254, nat_lit 256, nat_lit 257, nat_lit 258, nat_lit 259, nat_lit 260, nat_lit 263, nat_lit 265, nat_lit 266, nat_lit 268, nat_lit 269, nat_lit 270, nat_lit 272, nat_lit 273, nat_lit 275, nat_lit 276, nat_lit 277, nat_lit 280, nat_lit 281, nat_lit 282, nat_lit 284, nat_lit 285, nat_lit 287, nat_lit 288, nat_lit 289, nat_lit 292, nat_lit 293, nat_lit 294, nat_lit 296, nat_lit 297, nat_lit 299, nat_lit 300, nat_lit 301, nat_lit 303, nat_lit 304, nat_lit 306, nat_lit 307, nat_lit 308, nat_lit 311, nat_lit 312, nat_lit 313, nat_lit 315, nat_lit 316, nat_lit 318, nat_lit 319, nat_lit 320, nat_lit 323, nat_lit 324, nat_lit 325, nat_lit 327, nat_lit 328, nat_lit 330, nat_lit 331, nat_lit 332, nat_lit 334, nat_lit 335, nat_lit 337, nat_lit 338, nat_lit 339, nat_lit 341, nat_lit 342, nat_lit 344, nat_lit 345, nat_lit 346, nat_lit 354, nat_lit 356, nat_lit 357, nat_lit 359, nat_lit 360, nat_lit 361, nat_lit 363, nat_lit 364, nat_lit 366, nat_lit 367, nat_lit 368, nat_lit 370, nat_lit 371, nat_lit 373, nat_lit 374, nat_lit 375, nat_lit 376, nat_lit 377, nat_lit 378, nat_lit 379, nat_lit 389, nat_lit 391, nat_lit 392, nat_lit 394, nat_lit 395, nat_lit 396, nat_lit 398, nat_lit 399, nat_lit 401, nat_lit 402, nat_lit 403, nat_lit 405, nat_lit 406, nat_lit 408, nat_lit 409, nat_lit 410, nat_lit 412, nat_lit 413, nat_lit 415, nat_lit 416, nat_lit 417, nat_lit 419, nat_lit 420, nat_lit 422, nat_lit 423, nat_lit 424, nat_lit 426, nat_lit 427, nat_lit 429, nat_lit 430, nat_lit 431, nat_lit 433, nat_lit 434, nat_lit 436, nat_lit 437, nat_lit 438, nat_lit 440, nat_lit 441, nat_lit 443, nat_lit 444, nat_lit 445, nat_lit 447, nat_lit 448, nat_lit 450, nat_lit 451, nat_lit 452, nat_lit 454, nat_lit 455, nat_lit 457, nat_lit 458, nat_lit 459, nat_lit 461, nat_lit 462, nat_lit 464, nat_lit 465, nat_lit 466, nat_lit 468, nat_lit 469, nat_lit 471, nat_lit 472, nat_lit 473, nat_lit 474, nat_lit 475, nat_lit 476, nat_lit 477, nat_lit 487, nat_lit 489, nat_lit 490, nat_lit 492, nat_lit 493, nat_lit 494, nat_lit 496, nat_lit 497, nat_lit 499, nat_lit 500, nat_lit 501, nat_lit 503, nat_lit 504, nat_lit 506, nat_lit 507, nat_lit 508, nat_lit 510, nat_lit 511, nat_lit 513, nat_lit 514, nat_lit 515, nat_lit 517, nat_lit 518, nat_lit 520, nat_lit 521, nat_lit 522, nat_lit 524, nat_lit 525, nat_lit 527, nat_lit 528, nat_lit 529, nat_lit 530, nat_lit 531, nat_lit 532, nat_lit 533, nat_lit 536, nat_lit 538, nat_lit 539, nat_lit 541, nat_lit 542, nat_lit 543, nat_lit 545, nat_lit 546, nat_lit 548, nat_lit 549, nat_lit 550, nat_lit 552, nat_lit 553, nat_lit 555, nat_lit 556, nat_lit 557, nat_lit 560, nat_lit 561, nat_lit 562, nat_lit 564, nat_lit 565, nat_lit 567, nat_lit 568, nat_lit 569, nat_lit 571, nat_lit 572, nat_lit 574, nat_lit 575, nat_lit 576, nat_lit 579, nat_lit 580, nat_lit 581, nat_lit 583, nat_lit 584, nat_lit 586, nat_lit 587, nat_lit 588, nat_lit 590, nat_lit 591, nat_lit 593, nat_lit 594, nat_lit 595, nat_lit 597, nat_lit 598, nat_lit 600, nat_lit 601, nat_lit 602, nat_lit 604, nat_lit 605, nat_lit 607, nat_lit 608, nat_lit 609, nat_lit 612, nat_lit 613, nat_lit 614, nat_lit 617, nat_lit 618, nat_lit 619, nat_lit 621, nat_lit 622, nat_lit 624, nat_lit 625, nat_lit 626, nat_lit 628, nat_lit 629, nat_lit 631, nat_lit 632, nat_lit 633, nat_lit 635, nat_lit 636, nat_lit 638, nat_lit 639, nat_lit 640, nat_lit 643, nat_lit 644]
theorem adrs_eq (P : Params) : adrs = (frag P).map (·.1) := by kernel_rfl
def vw : Program := PySem.W.view PySem.Challenge.pw_evenhall_k17_statements [0, 2, 3, 4, 5, 6, 7, 8, 9, 10, 11, 12, 13, 14, 16, 17, 18, 19, 21, 22, 23, 24, 25, 27, 28, 30, 32, 34, 35, 36, 38, 40, 41, 42, 43, 44, 45, 46, 47, 48, 49, 50, 51, 52, 53, 54, 55, 56]
open PySem.W in
noncomputable def tree0 (P : Params) : BT := (.node (boot_o_0 P) (.node (boot_o_1 P) (.node (boot_o_3 P) (.node (boot_o_7 P) .nil .nil) .nil) (.node (boot_o_5 P) (.node (boot_o_9 P) .nil .nil) .nil)) (.node (boot_o_2 P) (.node (boot_o_4 P) (.node (boot_o_8 P) .nil .nil) .nil) (.node (boot_o_6 P) (.node (boot_o_10 P) .nil .nil) .nil)))
open PySem.W PyProof.Rows in
noncomputable def run (w : World) (os : OsState) := (TR.go PySem.Challenge.pw_evenhall_k17_statements w 11 (some (.ref 6)) 10892 ⟨tree0 w.params, 11, (boot_heap w.params).life, Array.mk [], boot_drawn, boot_toks, os⟩ (topStub PySem.Challenge.pw_evenhall_k17_statements)).map fun x => (TR.look PySem.Challenge.pw_evenhall_k17_statements w.params x.abs, openSeen vw [] (importedModules PySem.Challenge.pw_evenhall_k17_statements.main.body) (fun s => PySem.W.xlAt vw [] s && PySem.W.recOk (PySem.W.RowW.records (PySem.W.OpenRow.toRowW (PySem.W.OpenLaw.row PySem.Challenge.rw_evenhall_k17_statements))) s) true x.abs, adrs.map x.abs.heap.get?)
noncomputable def good (x : List (Option Obj)) (_ : OsState) := some (true, PySem.W.openGood vw [], x)
set_option maxRecDepth 100000 in
set_option maxHeartbeats 0 in
lay_quick K17.run
set_option maxRecDepth 100000 in
set_option maxHeartbeats 0 in
lay_quick K17.good
set_option maxRecDepth 100000 in
set_option maxHeartbeats 0 in
theorem left : PySem.W.LeftO PySem.Challenge.pw_evenhall_k17_statements vw [] (fun s => PySem.W.xlAt vw [] s && PySem.W.recOk (PySem.W.RowW.records (PySem.W.OpenRow.toRowW (PySem.W.OpenLaw.row PySem.Challenge.rw_evenhall_k17_statements))) s) (PySem.W.kHook frag adrs adrs_eq).obs (PySem.W.kHook frag adrs adrs_eq).val 10892 :=
  TR.left (lo := 11) (an := some (.ref 6)) (tr := tree0) (PySem.W.boot_open (by kernel_rfl) (by decide) (fun s => by kernel_rfl)) (fun P => by kernel_rfl) (fun P => by kernel_rfl) fun w =>
    (congrFun PySem.W.Fast.te7953965698728372907 w).trans ((show PySem.W.Fast.tw7953965698728372907 w = PySem.W.Fast.tw13941785742285067565 ((frag w.params).map fun p => some p.2) by kernel_rfl).trans (congrFun PySem.W.Fast.te13941785742285067565 _).symm)
end K17
set_option Elab.async false
set_option linter.all false
set_option maxRecDepth 100000
namespace L2
open PySem PySem.Spec PyProof.Rows
abbrev Key := Sum Int Str
def oM : Key → Value → Bool
  | .inl k, v => Value.isInt k v
  | .inr x, v => Value.isStrOf x v
def CL (w : World) : Key → Int
  | .inl k => hashInt k
  | .inr x => hashStr w x
theorem b_ : ∀ {k : Key} {v : Value}, oM k v = true → (∃ i t, k = Sum.inl i ∧ v = Value.int i t) ∨ (∃ x t, k = Sum.inr x ∧ v = Value.str x t)
  | .inl i, v, h => by
    obtain ⟨t, e⟩ := Value.isInt_shape (k := i) (v := v) h
    exact .inl ⟨i, t, rfl, e⟩
  | .inr x, v, h => by
    obtain ⟨t, e⟩ := Value.isStrOf_shape (x := x) (v := v) h
    exact .inr ⟨x, t, rfl, e⟩
theorem wc (i : Int) (t : Tok) : oM (.inl i) (.int i t) = true := by simp [oM, Value.isInt]
theorem vD (x : Str) (t : Tok) : oM (.inr x) (.str x t) = true := by simp [oM, Value.isStrOf]
theorem AA (a b : Int) : decide ((Sum.inl a : Key) = Sum.inl b) = (a == b) := by
  by_cases e : a = b
  · subst e; simp
  · have h : ¬ (Sum.inl a : Key) = Sum.inl b := fun q => e (Sum.inl.inj q)
    rw [decide_eq_false h]
    exact (beq_eq_false_iff_ne.mpr e).symm
theorem Aq (a b : Str) : decide ((Sum.inr a : Key) = Sum.inr b) = decide (a = b) := by
  by_cases e : a = b
  · subst e; simp
  · have h : ¬ (Sum.inr a : Key) = Sum.inr b := fun q => e (Sum.inr.inj q)
    rw [decide_eq_false h, decide_eq_false e]
theorem AR (a : Int) (b : Str) : decide ((Sum.inl a : Key) = Sum.inr b) = false := decide_eq_false (fun q => nomatch q)
theorem Ap (a : Str) (b : Int) : decide ((Sum.inr a : Key) = Sum.inl b) = false := decide_eq_false (fun q => nomatch q)
def cJ (prog : Program) (w : World) : PySem.KeyKind prog w Key where
  is := oM
  hash := CL w
  inj := fun v a b ha hb => by
    rcases b_ ha with ⟨i, t, rfl, rfl⟩ | ⟨x, t, rfl, rfl⟩
    · rcases b_ hb with ⟨j, u, rfl, e⟩ | ⟨y, u, rfl, e⟩
      · injection e with e1 _; rw [e1]
      · exact nomatch e
    · rcases b_ hb with ⟨j, u, rfl, e⟩ | ⟨y, u, rfl, e⟩
      · exact nomatch e
      · injection e with e1 _; rw [e1]
  byValue := fun k v h => by
    rcases b_ h with ⟨i, t, rfl, rfl⟩ | ⟨x, t, rfl, rfl⟩ <;> rfl
  pyHash := fun hv h => by
    rcases b_ hv with ⟨i, t, rfl, rfl⟩ | ⟨x, t, rfl, rfl⟩
    · exact wpAny_pyHash_int h
    · exact wpAny_pyHash_str h
  eqBool := fun hu hv h => by
    rcases b_ hu with ⟨i, t, rfl, rfl⟩ | ⟨x, t, rfl, rfl⟩
    · rcases b_ hv with ⟨j, u, rfl, rfl⟩ | ⟨y, u, rfl, rfl⟩
      · rw [AA] at h; exact wpAny_eqBool_int h
      · rw [AR] at h; exact SeqAt.EqAt.int_str i t y u _ _ _ _ h
    · rcases b_ hv with ⟨j, u, rfl, rfl⟩ | ⟨y, u, rfl, rfl⟩
      · rw [Ap] at h; exact SeqAt.EqAt.str_int x t j u _ _ _ _ h
      · rw [Aq] at h; exact wpAny_eqBool_str h
  «strs» := fun k x t v h => by
    rcases b_ h with ⟨i, u, rfl, e⟩ | ⟨y, u, rfl, e⟩
    · exact nomatch e
    · injection e with e1 _
      subst e1
      cases v <;> rfl
theorem rP (prog : Program) (w : World) (i : Int) (t : Tok) : (cJ prog w).is (.inl i) (.int i t) = true := wc i t
theorem rS (prog : Program) (w : World) (x : Str) (t : Tok) : (cJ prog w).is (.inr x) (.str x t) = true := vD x t
end L2
namespace L2
open PySem PySem.Spec PyProof.Rows
inductive V where
  | non | bl (b : Bool) | int (i : Int) | str (x : Str) | byt (b : Array UInt8) | flt (b : UInt64) | ref (a : Addr) | ty (n : String)
  deriving DecidableEq
def RelV : V → Value → Prop
  | .non, u => u = Value.none
  | .bl b, u => u = Value.bool b
  | .int i, u => ∃ t, u = Value.int i t
  | .str x, u => ∃ t, u = Value.str x t
  | .byt b, u => ∃ t, u = Value.bytes b t
  | .flt b, u => ∃ t, u = Value.float b t
  | .ref a, u => u = Value.ref a
  | .ty n, u => u = Value.type n
abbrev Vals : List V → List Value → Prop := Paired RelV
theorem Vals.length {xs : List V} {us : List Value} (r : Vals xs us) : xs.length = us.length := Paired.length r
theorem Vals.get : ∀ {xs : List V} {us : List Value} {i : Nat} {x : V}, Vals xs us → xs[i]? = some x → ∃ u, us[i]? = some u ∧ RelV x u
  | _, _, _, _, .nil, e => by simp at e
  | _, _, 0, _, .cons r _, e => by simp at e; subst e; exact ⟨_, rfl, r⟩
  | _, _, i + 1, x, .cons _ t, e => by
    obtain ⟨u, h1, h2⟩ := Vals.get (i := i) (x := x) t (by simpa using e)
    exact ⟨u, by simpa using h1, h2⟩
theorem Vals.append : ∀ {xs ys : List V} {us ws : List Value}, Vals xs us → Vals ys ws → Vals (xs ++ ys) (us ++ ws)
  | _, _, _, _, .nil, s => s
  | _, _, _, _, .cons r t, s => .cons r (Vals.append t s)
theorem Vals.take : ∀ {xs : List V} {us : List Value} (n : Nat), Vals xs us → Vals (xs.take n) (us.take n)
  | _, _, 0, _ => .nil
  | _, _, _ + 1, .nil => .nil
  | _, _, n + 1, .cons r t => .cons r (Vals.take n t)
theorem Vals.drop : ∀ {xs : List V} {us : List Value} (n : Nat), Vals xs us → Vals (xs.drop n) (us.drop n)
  | _, _, 0, r => r
  | _, _, _ + 1, .nil => .nil
  | _, _, n + 1, .cons _ t => Vals.drop n t
def RelO : Option V → Option Value → Prop
  | some v, some u => RelV v u
  | none, none => True
  | _, _ => False
def KV {κ : Type} : List (κ × V) → List (κ × Value) → Prop := Paired fun (p : κ × V) (q : κ × Value) => p.1 = q.1 ∧ RelV p.2 q.2
def kV : Key → V
  | .inl i => .int i
  | .inr x => .str x
inductive HO where
  | lst (xs : List V)
  | tup (xs : List V)
  | dK (kvs : List (Key × V)) | dT (kvs : List (List Key × V))
  | set (S : Int → Bool) (n : Nat)
  | ins (C dx : Addr) (fs : List (Str × V))
  | own (x : Addr)
  | xd (fs : List (Str × V))
  | met (f x : Addr)
  | rng (lo hi : Int)
  | frz (o : Obj) (u : HO)
  | tbl (ps : Array Value)
  | ext (φ : Heap → Prop)
abbrev Hp := Addr → Option HO
def upd (H : Hp) (a : Addr) (o : HO) : Hp := fun b => if b = a then some o else H b
theorem ae {H : Hp} {a : Addr} {o : HO} : upd H a o a = some o := by unfold upd; rw [if_pos rfl]
theorem al {H : Hp} {a b : Addr} {o : HO} (h : b ≠ a) : upd H a o b = H b := by unfold upd; rw [if_neg h]
theorem qD {H : Hp} {a : Addr} {o u : HO} : upd (upd H a o) a u = upd H a u := by
  funext b; unfold upd; split <;> rfl
theorem BL {H : Hp} {a b : Addr} {o u : HO} (h : H a = some o) (h' : H b = some u) (d : o ≠ u) : a ≠ b := by
  intro e; subst e; rw [h] at h'; exact d (Option.some.inj h')
theorem aj {H : Hp} {a b : Addr} {o : HO} (h : H a = some o) (h' : H b = none) : a ≠ b := by
  intro e; subst e; rw [h] at h'; cases h'
section
variable (P : Program) (w : World)
def ObjOk (H : Hp) (h : Heap) (a : Addr) : HO → Prop
  | .lst xs => xs.length ≤ sizeLine ∧ ∃ (its : List Value) (n : Nat), Vals xs its ∧ h.get? a = some { cls := .type "list", data := .seq its.toArray n }
  | .tup xs => xs.length ≤ sizeLine ∧ ∃ its : List Value, Vals xs its ∧ IsTup h a its.toArray
  | .dK kvs => kvs.length ≤ sizeLine ∧ (a == sysModules) = false ∧ ∃ vs, KV kvs vs ∧ h.DictOf (cJ P w) a vs
  | .dT kvs => kvs.length ≤ sizeLine ∧ (a == sysModules) = false ∧ ∃ xs : List (List Key × Addr × Value),
      Paired (fun (p : List Key × V) (q : List Key × Addr × Value) => p.1 = q.1 ∧ H q.2.1 = some (.tup (p.1.map kV)) ∧ RelV p.2 q.2.2) kvs xs ∧
      ∃ o es ep, h.get? a = some o ∧ o.ExactDict ∧ o.data = .dict es ep ∧ es.toList = xs.map (entryOfKey (tupleKind (cJ P w))) ∧ (xs.map (·.1)).Nodup
  | .set S n => h.SetOf (intKind P w) a S n
  | .ins C dx fs => H dx = some (.own a) ∧ fs.length ≤ 1000 ∧ dx ≠ a ∧ h.get? a = some (PySem.W.instObj C dx) ∧
      ∃ mA, h.Ns1 dx mA ∧ (∀ f, RelO (fs.lookup f) (mA f)) ∧ PySem.Within mA (fs.map (·.1))
  | .own _ => ∃ o, h.get? a = some o
  | .xd fs => ∃ mA, h.Ns1 a mA ∧ ∀ f, RelO (fs.lookup f) (mA f)
  | .rng lo hi => ∃ t u v, h.get? a = some { cls := .type "range", data := .fields #[.int lo t, .int hi u, .int 1 v] }
  | .frz o u => h.get? a = some o ∧ ObjOk H h a u
  | .tbl ps => h.get? a = some { cls := .none, data := .fields ps }
  | .met f x => h.get? a = some (PySem.W.methodObj (.ref f) (.ref x))
  | .ext φ => φ h ∧ (∃ o, h.get? a = some o) ∧ ∀ h1 h2 : Heap, φ h1 → (∀ o, h1.get? a = some o → h2.get? a = some o) → φ h2
def HOk (H : Hp) (h : Heap) : Prop := ∀ a o, H a = some o → ObjOk P w H h a o
end
section
variable {P : Program} {w : World} {H H' : Hp} {h h' : Heap} {a : Addr} {o : HO}
theorem ObjOk.lt (x : ObjOk P w H h a o) : a < h.objs.size := by
  cases o with
  | lst xs => obtain ⟨_, _, _, _, e⟩ := x; exact Heap.lt_size e
  | tup xs => obtain ⟨_, _, _, p⟩ := x; exact p.lt
  | dK kvs => obtain ⟨_, _, _, _, o, _, _, e, _⟩ := x; exact Heap.lt_size e
  | dT kvs => obtain ⟨_, _, _, _, o, _, _, e, _⟩ := x; exact Heap.lt_size e
  | set S n => obtain ⟨o, _, _, _, e, _⟩ := x; exact Heap.lt_size e
  | ins C dx fs => obtain ⟨_, _, _, e, _⟩ := x; exact Heap.lt_size e
  | own y => obtain ⟨_, e⟩ := x; exact Heap.lt_size e
  | xd fs => obtain ⟨_, ⟨_, _, _, e, _⟩, _⟩ := x; exact Heap.lt_size e
  | rng lo hi => obtain ⟨_, _, _, e⟩ := x; exact Heap.lt_size e
  | frz ob u => obtain ⟨e, _⟩ := x; exact Heap.lt_size e
  | tbl ps => exact Heap.lt_size (show h.get? a = some _ from x)
  | met f y => exact Heap.lt_size (show h.get? a = some _ from x)
  | ext φ => obtain ⟨_, ⟨_, e⟩, _⟩ := x; exact Heap.lt_size e
theorem Paired.mapP {α β : Type} {F G : α → β → Prop} : ∀ {l₁ : List α} {l₂ : List β}, Paired F l₁ l₂ → (∀ a b, F a b → G a b) → Paired G l₁ l₂
  | _, _, .nil, _ => .nil
  | _, _, .cons r t, f => .cons (f _ _ r) (Paired.mapP t f)
theorem ObjOk.stay (x : ObjOk P w H h a o) (k : ∀ b u, (b = a ∨ H b = some (.own a)) → h.get? b = some u → h'.get? b = some u)
    (ho : ∀ b, H b = some (.own a) → H' b = some (.own a)) (ht : ∀ b xs, H b = some (.tup xs) → H' b = some (.tup xs)) : ObjOk P w H' h' a o := by
  induction o with
  | lst xs => obtain ⟨z, its, n, r, e⟩ := x; exact ⟨z, its, n, r, k _ _ (.inl rfl) e⟩
  | tup xs => obtain ⟨z, its, r, ob, e, c⟩ := x; exact ⟨z, its, r, ob, k _ _ (.inl rfl) e, c⟩
  | dK kvs => obtain ⟨z, y, vs, r, ob, es, ep, e, c⟩ := x; exact ⟨z, y, vs, r, ob, es, ep, k _ _ (.inl rfl) e, c⟩
  | dT kvs =>
    obtain ⟨z, y, xs, r, ob, es, ep, e, c⟩ := x
    exact ⟨z, y, xs, Paired.mapP r fun p q z => ⟨z.1, ht _ _ z.2.1, z.2.2⟩, ob, es, ep, k _ _ (.inl rfl) e, c⟩
  | set S n => obtain ⟨ob, es, ep, t, e, c⟩ := x; exact ⟨ob, es, ep, t, k _ _ (.inl rfl) e, c⟩
  | ins C dx fs =>
    obtain ⟨d, z, ne, e, mA, ⟨od, es, ep, e2, c⟩, r⟩ := x
    exact ⟨ho _ d, z, ne, k _ _ (.inl rfl) e, mA, ⟨od, es, ep, k _ _ (.inr d) e2, c⟩, r⟩
  | own y => obtain ⟨ob, e⟩ := x; exact ⟨ob, k _ _ (.inl rfl) e⟩
  | xd fs => obtain ⟨mA, ⟨od, es, ep, e, c⟩, r⟩ := x; exact ⟨mA, ⟨od, es, ep, k _ _ (.inl rfl) e, c⟩, r⟩
  | rng lo hi => obtain ⟨t, u, v, e⟩ := x; exact ⟨t, u, v, k _ _ (.inl rfl) e⟩
  | frz ob u ih => obtain ⟨e, q⟩ := x; exact ⟨k _ _ (.inl rfl) e, ih q⟩
  | tbl ps =>
    have e : h.get? a = some { cls := .none, data := .fields ps } := x
    show h'.get? a = some { cls := .none, data := .fields ps }
    exact k a _ (.inl rfl) e
  | met f y =>
    have e : h.get? a = some (PySem.W.methodObj (.ref f) (.ref y)) := x
    show h'.get? a = some (PySem.W.methodObj (.ref f) (.ref y))
    exact k a _ (.inl rfl) e
  | ext φ => obtain ⟨p, ⟨o, e⟩, st⟩ := x; exact ⟨st _ _ p fun o q => k _ _ (.inl rfl) q, ⟨o, k _ _ (.inl rfl) e⟩, st⟩
theorem HOk.lt (x : HOk P w H h) (e : H a = some o) : a < h.objs.size := (x a o e).lt
theorem HOk.fresh (x : HOk P w H h) (e : h.objs.size ≤ a) : H a = none := by
  cases q : H a with
  | none => rfl
  | some u => exact absurd (Nat.lt_of_lt_of_le (x.lt q) e) (Nat.lt_irrefl _)
theorem HOk.kept (x : HOk P w H h) (k : ∀ b u, h.get? b = some u → h'.get? b = some u) : HOk P w H h' := fun a o e =>
  (x a o e).stay (fun b u _ q => k b u q) (fun _ q => q) fun _ _ q => q
theorem HOk.laid (x : HOk P w H h) (k : ∀ b u, h.get? b = some u → h'.get? b = some u) (hp : h.objs.size ≤ a) (new : ObjOk P w (upd H a o) h' a o) : HOk P w (upd H a o) h' := fun b u e => by
  have hn := x.fresh hp
  by_cases hb : b = a
  · subst hb; rw [ae] at e; cases e; exact new
  · rw [al hb] at e
    exact (x b u e).stay (fun c v _ q => k c v q) (fun c q => by rw [al (aj q hn)]; exact q) fun c xs q => by rw [al (aj q hn)]; exact q
end
def Rd (H : Hp) (a : Addr) (u : HO) : Prop := H a = some u ∨ ∃ o, H a = some (.frz o u)
theorem Rd.ok {P : Program} {w : World} {H : Hp} {h : Heap} {a : Addr} {u : HO} (r : Rd H a u) (x : HOk P w H h) : ObjOk P w H h a u := by
  rcases r with r | ⟨o, r⟩
  · exact x a u r
  · obtain ⟨_, q⟩ := x a _ r
    exact q
def Mut : Option HO → Prop
  | some (.lst _) => True
  | some (.dK _) => True
  | some (.dT _) => True
  | some (.set _ _) => True
  | some (.ins _ _ _) => True
  | some (.ext _) => True
  | _ => False
section
variable {P : Program} {w : World} {H : Hp} {h h' : Heap} {x e : Addr} {o' : HO}
theorem HOk.write (ok : HOk P w H h) (mu : Mut (H x)) (he : e = x ∨ H e = some (.own x)) (k : ∀ b u, b ≠ e → h.get? b = some u → h'.get? b = some u) (heo : ∃ u, h'.get? e = some u)
    (new : ObjOk P w (upd H x o') h' x o') : HOk P w (upd H x o') h' := fun b u q => by
  have nown : ∀ c y, H c = some (.own y) → c ≠ x := fun c y r z => by subst z; rw [r] at mu; exact mu
  have ntup : ∀ c xs, H c = some (.tup xs) → c ≠ x := fun c xs r z => by subst z; rw [r] at mu; exact mu
  by_cases hb : b = x
  · subst hb; rw [ae] at q; cases q; exact new
  · rw [al hb] at q
    by_cases hbe : b = e
    · have q' : H b = some (.own x) := by
        rcases he with z | z
        · exact absurd (hbe.trans z) hb
        · rw [hbe]; exact z
      rw [q] at q'; cases q'
      obtain ⟨v, hv⟩ := heo
      exact ⟨v, by rw [hbe]; exact hv⟩
    · refine (ok b u q).stay (fun c v hc r => k c v ?_ r) (fun c r => by rw [al (nown c b r)]; exact r) fun c xs r => by rw [al (ntup c xs r)]; exact r
      rcases hc with rfl | hc
      · exact hbe
      · rintro rfl
        rcases he with z | z
        · exact nown c b hc z
        · rw [hc] at z; cases z; exact hb rfl
end
structure Un (fs ex : List Addr) (H H' : Hp) (h h' : Heap) : Prop where
  keep : ∀ b o, h.get? b = some o → H b = none → b ∉ fs → b ∉ ex → h'.get? b = some o
  slot : ∀ b o, h.get? b = some o → H b = none → b ∈ fs → b ∉ ex → ∃ sl, h'.get? b = some { o with slots := sl }
  free : ∀ b o, h.get? b = some o → H b = none → b ∉ ex → H' b = none
  there : ∀ b o, h.get? b = some o → b ∉ ex → ∃ o', h'.get? b = some o'
  tups : ∀ b xs, H b = some (.tup xs) → H' b = some (.tup xs)
  frzs : ∀ b o u, H b = some (.frz o u) → H' b = some (.frz o u)
  tbls : ∀ b ps, H b = some (.tbl ps) → ∃ more, H' b = some (.tbl (ps ++ more))
section
variable {fs fs' ex ex' : List Addr} {H H1 H2 : Hp} {h h1 h2 h' : Heap} {a x e : Addr} {o : HO}
theorem Un.any (u : Un fs ex H H1 h h1) {b : Addr} {ob : Obj} (q : h.get? b = some ob) (n : H b = none) (hx : b ∉ ex) : ∃ sl, h1.get? b = some { ob with slots := sl } := by
  by_cases hb : b ∈ fs
  · exact u.slot b ob q n hb hx
  · exact ⟨ob.slots, u.keep b ob q n hb hx⟩
theorem Un.kept (k : ∀ b u, h.get? b = some u → h'.get? b = some u) : Un fs ex H H h h' :=
  ⟨fun b ob q _ _ _ => k b ob q, fun b ob q _ _ _ => ⟨ob.slots, k b ob q⟩, fun _ _ _ n _ => n, fun b ob q _ => ⟨ob, k b ob q⟩, fun _ _ q => q, fun _ _ _ q => q, fun _ ps q => ⟨#[], by rw [q]; simp⟩⟩
theorem Un.refl : Un fs ex H H h h := Un.kept fun _ _ q => q
theorem Un.laid (k : ∀ b u, h.get? b = some u → h'.get? b = some u) (hp : h.objs.size ≤ a) (hn : H a = none) : Un fs ex H (upd H a o) h h' where
  keep := fun b u q _ _ _ => k b u q
  slot := fun b u q _ _ _ => ⟨u.slots, k b u q⟩
  free := fun b u q n _ => by rw [al (Nat.ne_of_lt (Nat.lt_of_lt_of_le (Heap.lt_size q) hp))]; exact n
  there := fun b u q _ => ⟨u, k b u q⟩
  tups := fun b xs q => by rw [al (aj q hn)]; exact q
  frzs := fun b u xs q => by rw [al (aj q hn)]; exact q
  tbls := fun b ps q => ⟨#[], by rw [al (aj q hn), q]; simp⟩
theorem Un.write (mu : Mut (H x)) (he : e = x ∨ H e = some (.own x)) (k : ∀ b u, b ≠ e → h.get? b = some u → h'.get? b = some u) (heo : ∃ u, h'.get? e = some u) : Un fs ex H (upd H x o) h h' := by
  have hx : ∀ b, H b = none → b ≠ x := fun b n z => by subst z; rw [n] at mu; exact mu
  have hb : ∀ b, H b = none → b ≠ e := fun b n z => by
    subst z
    rcases he with r | r
    · exact hx b n r
    · rw [n] at r; cases r
  have hm : ∀ b u, H b = some u → ¬ Mut (some u) → b ≠ x := fun b u q nm z => by subst z; rw [q] at mu; exact nm mu
  refine ⟨fun b u q n _ _ => k b u (hb b n) q, fun b u q n _ _ => ⟨u.slots, k b u (hb b n) q⟩, fun b u q n _ => by rw [al (hx b n)]; exact n, fun b u q _ => ?_,
    fun b xs q => by rw [al (hm b _ q fun z => z)]; exact q, fun b u xs q => by rw [al (hm b _ q fun z => z)]; exact q, fun b ps q => ⟨#[], by rw [al (hm b _ q fun z => z), q]; simp⟩⟩
  by_cases hbe : b = e
  · subst hbe; exact heo
  · exact ⟨u, k b u hbe q⟩
end
def trk (h : Heap) (H : Hp) : List Addr := (List.range h.objs.size).filter fun a => (H a).isSome
def qm (h : Heap) (H : Hp) : Heap := PySem.W.hideAll h (trk h H)
theorem wf (h : Heap) (H : Hp) : (qm h H).objs.size = h.objs.size := PySem.W.hideAll_size _ _
theorem wq {h : Heap} {H : Hp} {b : Addr} {o : Obj} (e : h.get? b = some o) (n : H b = none) : (qm h H).get? b = some o :=
  PySem.W.hideAll_get _ e fun hm => by
    have q : (H b).isSome = true := (List.mem_filter.mp hm).2
    rw [n] at q; simp at q
theorem zH {h : Heap} {H : Hp} {b : Addr} {o : Obj} (e : (qm h H).get? b = some o) : h.get? b = some o ∧ H b = none := by
  have e' : h.get? b = some o := PySem.W.of_hideAll (trk h H) e
  refine ⟨e', ?_⟩
  cases q : H b with
  | none => rfl
  | some x =>
    have hm : b ∈ trk h H := List.mem_filter.mpr ⟨List.mem_range.mpr (Heap.lt_size e'), by simp [q]⟩
    have z : (qm h H).get? b = none := PySem.W.hideAll_none (trk h H) hm
    rw [z] at e; cases e
def yA (g h : Heap) (L : Addr) : List (Addr × Obj) := (List.range h.objs.size).filterMap fun a => if a = L ∨ (g.get? a).isSome = true then none else (h.get? a).map fun o => (a, o)
def rest (g h : Heap) (L d : Addr) : List (Addr × Obj) := (yA g h L).filter fun p => decide (p.1 ≠ d)
end L2
namespace L2
open PySem PySem.Spec PyProof.Rows
structure Mod (K : PySem.W.Frag) (mg : Str → Option Value) (base : Heap) : Prop where
  kin : K.In base
  glob : base.Ns mainGlobals mg
  blt : ∃ mb, base.Ns builtinsNs mb ∧ ∀ x : Str, x ≠ "__name__" → mb x = bootBuiltins x
  nolimit : base.NoLimit
structure Cx where
  prog : Program
  w : World
  K : PySem.W.Frag
  mg : Str → Option Value
  base : Heap
  A : Around
  N : List Str
  s₀ : Shared
  H₀ : Hp
  env : Env
  outer : List Env
  stack : List Env
  ex : List Addr
  fn : Str → Bool
  calm : Bool
  pn : List (Addr × Obj)
  xe : Value → Shared → Prop
def frs (l : List Env) : List Addr := l.filterMap (·.frame)
abbrev Cx.fs (X : Cx) : List Addr := frs X.outer
def Vis (sc : Scope) (x : Str) : Prop := sc.names.lookup x = some .local ∨ sc.names.lookup x = some .cell ∨ sc.names.lookup x = some .free
def Loc (sc : Scope) (x : Str) : Prop := sc.names.lookup x = some .local ∨ sc.names.lookup x = some .cell
def CP (env : Env) (h : Heap) (m : Str → Option Value) (x : Str) (u : Value) : Prop :=
  (env.kindOf x = some .local ∧ m x = some u) ∨ ((env.kindOf x = some .cell ∨ env.kindOf x = some .free) ∧ ∃ c, env.cells.lookup x = some c ∧ h.IsCell c (some u))
structure Cx.Ok (X : Cx) : Prop where
  mod : Mod X.K X.mg X.base
  kind : X.env.scope.kind = .function
  glob : X.env.globals = mainGlobals
  blt : X.env.builtins = builtinsNs
  above : X.s₀.heap.objs.size ≤ X.env.locals
  inj : ∀ x y c, X.env.cells.lookup x = some c → X.env.cells.lookup y = some c → x = y
  has : ∀ x, (X.env.kindOf x = some .cell ∨ X.env.kindOf x = some .free) → ∃ c, X.env.cells.lookup x = some c
  cab : ∀ x c, X.fn x = true → X.env.cells.lookup x = some c → X.s₀.heap.objs.size ≤ c
  hd : X.calm = true → X.A.handled = none
  frames : X.A.frames = some X.stack
  stk : X.stack = X.outer ∨ (X.stack = X.env :: X.outer ∧ X.env.frame = some X.env.locals)
  exf : ∀ b ∈ X.ex, b ≠ X.env.locals ∧ ∀ x c, X.env.cells.lookup x = some c → c ≠ b
  bs : ∀ b o, X.base.get? b = some o → X.s₀.heap.get? b = some o ∧ X.H₀ b = none
  bsz : X.base.objs.size ≤ X.s₀.heap.objs.size
  noex : ∀ b o, X.base.get? b = some o → b ∉ X.ex
  exfs : ∀ b ∈ X.ex, b ∉ X.fs
  funs : X.s₀.heap.FunFrames X.base X.outer
  frf : ∀ b ∈ X.fs, X.H₀ b = none
structure Inv (X : Cx) (pins : List (Addr × Obj)) (σ : List (Option V)) (H : Hp) (s : Shared) : Prop where
  ok : X.Ok
  os : s.os = X.s₀.os
  bare : AllBare s.gens
  base : Un X.fs X.ex X.H₀ H X.s₀.heap s.heap
  loc : ∃ m, s.heap.Ns X.env.locals m ∧ ∀ (i : Nat) (x : Str) (v : V), X.N[i]? = some x → σ[i]? = some (some v) → Vis X.env.scope x → ∃ u, RelV v u ∧ CP X.env s.heap m x u
  cell : ∀ x c, X.env.cells.lookup x = some c → ∃ v, s.heap.IsCell c v
  free : H X.env.locals = none
  freeC : ∀ x c, X.env.cells.lookup x = some c → H c = none
  pin : ∀ p ∈ X.pn ++ pins, s.heap.get? p.1 = some p.2 ∧ H p.1 = none ∧ p.1 ≠ X.env.locals ∧ p.1 ∉ X.fs ∧ ∀ v, p.2.data ≠ .cell v
  hok : HOk X.prog X.w H s.heap
  len : σ.length = X.N.length
section
variable {X : Cx} {pins : List (Addr × Obj)} {σ : List (Option V)} {H H' : Hp} {s : Shared} {h' : Heap}
theorem Cx.Ok.nofr (ok : X.Ok) {b : Addr} {o : Obj} (e : X.base.get? b = some o) : b ∉ X.fs := fun hb => by
  have := (ok.funs.mem hb).1
  rw [e] at this; cases this
theorem Inv.bs (I : Inv X pins σ H s) : ∀ b o, X.base.get? b = some o → s.heap.get? b = some o ∧ H b = none := fun b o e =>
  ⟨I.base.keep b o (I.ok.bs b o e).1 (I.ok.bs b o e).2 (I.ok.nofr e) (I.ok.noex b o e), I.base.free b o (I.ok.bs b o e).1 (I.ok.bs b o e).2 (I.ok.noex b o e)⟩
theorem Inv.bk (I : Inv X pins σ H s) : ∀ b o, X.base.get? b = some o → s.heap.get? b = some o := fun b o e => (I.bs b o e).1
theorem Inv.mod (I : Inv X pins σ H s) : Mod X.K X.mg X.base := I.ok.mod
theorem Inv.kIn (I : Inv X pins σ H s) : X.K.In s.heap := I.ok.mod.kin.keeps I.bk
theorem Inv.lt (I : Inv X pins σ H s) : X.env.locals < s.heap.objs.size := let ⟨_, hn, _⟩ := I.loc; hn.lt
theorem Inv.sz (I : Inv X pins σ H s) : X.s₀.heap.objs.size ≤ s.heap.objs.size := Nat.le_trans I.ok.above (Nat.le_of_lt I.lt)
theorem Inv.nofs (I : Inv X pins σ H s) {a : Addr} (h : s.heap.objs.size ≤ a) : a ∉ X.fs := fun hb => by
  obtain ⟨_, o, ho, _⟩ := I.ok.funs.mem hb
  exact absurd (Nat.lt_of_lt_of_le (Heap.lt_size ho) (Nat.le_trans I.sz h)) (Nat.lt_irrefl _)
theorem Inv.cne (I : Inv X pins σ H s) : ∀ x c, X.env.cells.lookup x = some c → c ≠ X.env.locals := fun x c e z => by
  obtain ⟨v, o, ho, hd⟩ := I.cell x c e
  obtain ⟨m, ⟨o', es, ep, ho', hd', _⟩, _⟩ := I.loc
  rw [z, ho'] at ho; cases ho; rw [hd'] at hd; cases hd
theorem Inv.funs (I : Inv X pins σ H s) : s.heap.FunFrames X.base X.outer := by
  have all : ∀ (l : List Env), (∀ b ∈ frs l, b ∈ X.fs) → X.s₀.heap.FunFrames X.base l → s.heap.FunFrames X.base l := by
    intro l
    induction l with
    | nil => intro _ _; trivial
    | cons env r ih =>
      intro hs hl
      obtain ⟨hk, ⟨L, o, hf, hn, ho, hd⟩, hr⟩ := hl
      have hL : L ∈ X.fs := hs L (by unfold frs; rw [List.filterMap_cons, hf]; exact List.mem_cons_self)
      obtain ⟨sl, e⟩ := I.base.slot L o ho (I.ok.frf L hL) hL fun z => I.ok.exfs L z hL
      exact ⟨hk, ⟨L, _, hf, hn, e, hd⟩, ih (fun b hb => hs b (by unfold frs; rw [List.filterMap_cons, hf]; exact List.mem_cons_of_mem _ hb)) hr⟩
  exact all X.outer (fun _ hb => hb) I.ok.funs
theorem Inv.stack (I : Inv X pins σ H s) : s.heap.FunFrames X.base X.stack := by
  rcases I.ok.stk with e | ⟨e, hf⟩
  · rw [e]; exact I.funs
  · rw [e]
    obtain ⟨m, hn, _⟩ := I.loc
    refine .cons (by rw [I.ok.kind]; decide) hf hn ?_ I.funs
    exact Heap.get?_none_of_le (Nat.le_trans I.ok.bsz I.ok.above)
theorem Inv.stkSub (I : Inv X pins σ H s) : ∀ b ∈ frs X.stack, b ∈ X.env.locals :: X.fs := fun b hb => by
  rcases I.ok.stk with e | ⟨e, hf⟩
  · rw [e] at hb; exact List.mem_cons_of_mem _ hb
  · rw [e] at hb
    unfold frs at hb
    rw [List.filterMap_cons, hf] at hb
    exact hb
theorem Inv.stkFree (I : Inv X pins σ H s) : ∀ b ∈ frs X.stack, H b = none := fun b hb => by
  rcases List.mem_cons.mp (I.stkSub b hb) with e | hb
  · rw [e]; exact I.free
  · obtain ⟨_, o, ho, _⟩ := I.ok.funs.mem hb
    exact I.base.free b o ho (I.ok.frf b hb) fun z => I.ok.exfs b z hb
theorem Inv.step {g' : Array GenState} {t' : Nat} {d' : Drawn} {ch : List Addr} (I : Inv X pins σ H s)
    (hch : ∀ b ∈ ch, (b ∈ X.ex ∨ X.s₀.heap.objs.size ≤ b) ∧ b ≠ X.env.locals ∧ (∀ x c, X.env.cells.lookup x = some c → c ≠ b) ∧ ∀ p ∈ X.pn ++ pins, p.1 ≠ b)
    (keep : ∀ b o, b ≠ X.env.locals → b ∉ X.fs → b ∉ ch → s.heap.get? b = some o → H b = none → h'.get? b = some o)
    (slot : ∀ b o, b ≠ X.env.locals → b ∈ X.fs → b ∉ ch → s.heap.get? b = some o → H b = none → ∃ sl, h'.get? b = some { o with slots := sl }) (free : ∀ b o, b ∉ ch → s.heap.get? b = some o → H b = none → H' b = none)
    (there : ∀ b o, b ∉ ch → s.heap.get? b = some o → ∃ o', h'.get? b = some o')
    (tups : ∀ b xs, H b = some (.tup xs) → H' b = some (.tup xs)) (frzs : ∀ b o u, H b = some (.frz o u) → H' b = some (.frz o u)) (tbls : ∀ b ps, H b = some (.tbl ps) → ∃ more, H' b = some (.tbl (ps ++ more)))
    (ns : ∀ m, s.heap.Ns X.env.locals m → h'.Ns X.env.locals m) (hok : HOk X.prog X.w H' h') (hg : AllBare g') :
    Inv X pins σ H' { s with heap := h', gens := g', drawn := d', toks := t' } := by
  have neL : ∀ b o, X.s₀.heap.get? b = some o → b ≠ X.env.locals := fun b o e => Nat.ne_of_lt (Nat.lt_of_lt_of_le (Heap.lt_size e) I.ok.above)
  have neC : ∀ b o, X.s₀.heap.get? b = some o → b ∉ X.ex → b ∉ ch := fun b o e hx hb => by
    rcases (hch b hb).1 with z | z
    · exact hx z
    · exact absurd (Nat.lt_of_lt_of_le (Heap.lt_size e) z) (Nat.lt_irrefl _)
  have cellK : ∀ x c, X.env.cells.lookup x = some c → ∀ v, s.heap.IsCell c v → h'.IsCell c v := fun x c e v ⟨o, ho, hd⟩ => by
    have nch : c ∉ ch := fun z => (hch c z).2.2.1 x c e rfl
    by_cases hc : c ∈ X.fs
    · obtain ⟨sl, q⟩ := slot c o (I.cne x c e) hc nch ho (I.freeC x c e)
      exact ⟨_, q, hd⟩
    · exact ⟨o, keep c o (I.cne x c e) hc nch ho (I.freeC x c e), hd⟩
  refine ⟨I.ok, I.os, hg, ⟨fun b o e n hb hx => ?_, fun b o e n hb hx => ?_, fun b o e n hx => ?_, fun b o e hx => ?_, fun b xs e => tups b xs (I.base.tups b xs e), fun b o xs e => frzs b o xs (I.base.frzs b o xs e), fun b ps e => ?_⟩, ?_, fun x c e => ?_, ?_, fun x c e => ?_, fun p hp => ?_, hok, I.len⟩
  · exact keep b o (neL b o e) hb (neC b o e hx) (I.base.keep b o e n hb hx) (I.base.free b o e n hx)
  · obtain ⟨sl, e1⟩ := I.base.slot b o e n hb hx
    obtain ⟨sl', e2⟩ := slot b _ (neL b o e) hb (neC b o e hx) e1 (I.base.free b o e n hx)
    exact ⟨sl', e2⟩
  · obtain ⟨o', e1⟩ := I.base.there b o e hx
    exact free b o' (neC b o e hx) e1 (I.base.free b o e n hx)
  · obtain ⟨o', e1⟩ := I.base.there b o e hx
    exact there b o' (neC b o e hx) e1
  · obtain ⟨m1, e1⟩ := I.base.tbls b ps e
    obtain ⟨m2, e2⟩ := tbls b _ e1
    exact ⟨m1 ++ m2, by rw [e2, Array.append_assoc]⟩
  · obtain ⟨m, hn, hl⟩ := I.loc
    refine ⟨m, ns m hn, fun i x v e1 e2 e3 => ?_⟩
    obtain ⟨u, r, l⟩ := hl i x v e1 e2 e3
    refine ⟨u, r, ?_⟩
    rcases l with l | ⟨k, c, e, z⟩
    · exact .inl l
    · exact .inr ⟨k, c, e, cellK x c e _ z⟩
  · obtain ⟨v, z⟩ := I.cell x c e
    exact ⟨v, cellK x c e v z⟩
  · obtain ⟨m, ⟨o, _, _, ho, _⟩, _⟩ := I.loc
    exact free _ o (fun z => (hch _ z).2.1 rfl) ho I.free
  · obtain ⟨v, o, ho, hd⟩ := I.cell x c e
    exact free c o (fun z => (hch c z).2.2.1 x c e rfl) ho (I.freeC x c e)
  · obtain ⟨e, n, ne, nf, d⟩ := I.pin p hp
    have nch : p.1 ∉ ch := fun z => (hch p.1 z).2.2.2 p hp rfl
    exact ⟨keep p.1 p.2 ne nf nch e n, free p.1 p.2 nch e n, ne, nf, d⟩
theorem Inv.un {t' : Nat} (I : Inv X pins σ H s) (u : Un X.fs [] H H' s.heap h') (hok : HOk X.prog X.w H' h') : Inv X pins σ H' { s with heap := h', toks := t' } := by
  obtain ⟨m, ⟨o, es, ep, ho, r⟩, _⟩ := id I.loc
  obtain ⟨sl, hL⟩ := u.any ho I.free (by simp)
  exact I.step (g' := s.gens) (d' := s.drawn) (ch := []) (fun _ z => nomatch z) (fun b o _ hb _ e n => u.keep b o e n hb (by simp)) (fun b o _ hb _ e n => u.slot b o e n hb (by simp)) (fun b o _ e n => u.free b o e n (by simp)) (fun b o _ e => u.there b o e (by simp)) u.tups u.frzs u.tbls (fun m' hm => by
    obtain ⟨o', es', ep', ho', r'⟩ := hm
    rw [ho] at ho'; cases ho'
    exact ⟨_, es', ep', hL, r'⟩) hok I.bare
theorem Inv.call {g' : Array GenState} {t' : Nat} {d' : Drawn} {ch : List Addr} (I : Inv X pins σ H s) (u : Un (frs X.stack) ch H H' s.heap h') (hok : HOk X.prog X.w H' h') (hg : AllBare g')
    (hch : ∀ b ∈ ch, (b ∈ X.ex ∨ X.s₀.heap.objs.size ≤ b) ∧ b ≠ X.env.locals ∧ (∀ x c, X.env.cells.lookup x = some c → c ≠ b) ∧ ∀ p ∈ X.pn ++ pins, p.1 ≠ b) :
    Inv X pins σ H' { s with heap := h', gens := g', drawn := d', toks := t' } := by
  obtain ⟨m, ⟨o, es, ep, ho, r⟩, _⟩ := id I.loc
  obtain ⟨sl, hL⟩ := u.any ho I.free fun z => (hch _ z).2.1 rfl
  exact I.step (ch := ch) hch (fun b o hL hb hc e n => u.keep b o e n (fun z => (List.mem_cons.mp (I.stkSub b z)).elim hL hb) hc) (fun b o _ _ hc e n => u.any e n hc) (fun b o hc e n => u.free b o e n hc) (fun b o hc e => u.there b o e hc) u.tups u.frzs u.tbls (fun m' hm => by
    obtain ⟨o', es', ep', ho', r'⟩ := hm
    rw [ho] at ho'; cases ho'
    exact ⟨_, es', ep', hL, r'⟩) hok hg
theorem Inv.turned {t' : Nat} {it : Addr} (I : Inv X pins σ H s) (k : ∀ b o, b ≠ it → s.heap.get? b = some o → h'.get? b = some o) (hn : H it = none) (hL : it ≠ X.env.locals)
    (h1 : it ∈ X.ex ∨ X.s₀.heap.objs.size ≤ it) (h2 : ∀ x c, X.env.cells.lookup x = some c → c ≠ it) (h3 : ∀ p ∈ X.pn ++ pins, p.1 ≠ it) : Inv X pins σ H { s with heap := h', toks := t' } := by
  have nit : ∀ b u, H b = some u → b ≠ it := fun b u e z => by rw [z, hn] at e; cases e
  refine I.step (g' := s.gens) (d' := s.drawn) (ch := [it]) (fun b hb => ?_) (fun b o _ _ hc e _ => k b o (fun z => hc (by simp [z])) e) (fun b o _ _ hc e _ => ⟨o.slots, k b o (fun z => hc (by simp [z])) e⟩) (fun _ _ _ _ n => n)
    (fun b o hc e => ⟨o, k b o (fun z => hc (by simp [z])) e⟩) (fun _ _ e => e) (fun _ _ _ e => e) (fun b ps e => ⟨#[], by rw [e]; simp⟩) (fun m hm => ?_) (fun b u e => ?_) I.bare
  · have e : b = it := by simpa using hb
    subst e
    exact ⟨h1, hL, h2, h3⟩
  · obtain ⟨o, es, ep, ho, r⟩ := hm
    exact ⟨o, es, ep, k _ o (Ne.symm hL) ho, r⟩
  · refine (I.hok b u e).stay (fun c v hc q => k c v ?_ q) (fun _ q => q) fun _ _ q => q
    rcases hc with z | z
    · rw [z]; exact nit b u e
    · exact nit c _ z
theorem Inv.tok (I : Inv X pins σ H s) (t : Nat) : Inv X pins σ H { s with toks := t } := I.un (h' := s.heap) (t' := t) Un.refl I.hok
theorem Inv.kept {t' : Nat} (I : Inv X pins σ H s) (k : ∀ b u, s.heap.get? b = some u → h'.get? b = some u) : Inv X pins σ H { s with heap := h', toks := t' } := I.un (Un.kept k) (I.hok.kept k)
theorem Inv.laid {a : Addr} {o : HO} {t' : Nat} (I : Inv X pins σ H s) (k : ∀ b u, s.heap.get? b = some u → h'.get? b = some u) (hp : s.heap.objs.size ≤ a) (new : ObjOk X.prog X.w (upd H a o) h' a o) :
    Inv X pins σ (upd H a o) { s with heap := h', toks := t' } := I.un (Un.laid k hp (I.hok.fresh hp)) (I.hok.laid k hp new)
theorem Inv.write {x e : Addr} {o : HO} {t' : Nat} (I : Inv X pins σ H s) (mu : Mut (H x)) (he : e = x ∨ H e = some (.own x)) (k : ∀ b u, b ≠ e → s.heap.get? b = some u → h'.get? b = some u) (heo : ∃ u, h'.get? e = some u)
    (new : ObjOk X.prog X.w (upd H x o) h' x o) : Inv X pins σ (upd H x o) { s with heap := h', toks := t' } := I.un (Un.write mu he k heo) (I.hok.write mu he k heo new)
theorem Inv.pins_of {pins' : List (Addr × Obj)} (I : Inv X pins σ H s) (h : ∀ p ∈ pins', s.heap.get? p.1 = some p.2 ∧ H p.1 = none ∧ p.1 ≠ X.env.locals ∧ p.1 ∉ X.fs ∧ ∀ v, p.2.data ≠ .cell v) : Inv X pins' σ H s :=
  ⟨I.ok, I.os, I.bare, I.base, I.loc, I.cell, I.free, I.freeC, fun p hp => (List.mem_append.mp hp).elim (fun z => I.pin p (List.mem_append_left _ z)) (h p), I.hok, I.len⟩
theorem ng {N : List Str} (hN : N.Nodup) {i j : Nat} {x : Str} (a : N[i]? = some x) (b : N[j]? = some x) : i = j := by
  obtain ⟨h1, e1⟩ := List.getElem?_eq_some_iff.mp a
  obtain ⟨h2, e2⟩ := List.getElem?_eq_some_iff.mp b
  exact (List.getElem_inj hN).mp (e1.trans e2.symm)
theorem oF {M : Model} {A : Around} {E : Value → Shared → Prop} {i : Nat} {x : Str} {v : V} {u : Value} {Q : Unit → Shared → Prop} (I : Inv X pins σ H s) (hN : X.N.Nodup) (hi : X.N[i]? = some x) (hx : Loc X.env.scope x) (r : RelV v u)
    (h : ∀ s', Inv X pins (σ.set i (some v)) H s' → (∃ a, Heap.SameBut a s.heap s'.heap ∧ (a = X.env.locals ∨ X.env.cells.lookup x = some a)) → Q () s') (hf : X.fn x = true ∨ X.env.scope.names.lookup x = some .local := by first | exact .inl rfl | exact .inr rfl | assumption) : wpAny M A (storeName X.env x u) Q E s := by
  obtain ⟨m, hn, hl⟩ := id I.loc
  have hcls : (X.env.scope.kind == .class || (X.env.scope.kind == .module && X.env.locals != X.env.globals)) = false := by rw [I.ok.kind]; rfl
  have hiσ : i < σ.length := by rw [I.len]; exact (List.getElem?_eq_some_iff.mp hi).1
  have cne := I.cne
  have tracked : ∀ {a : Addr} {h' : Heap}, (∃ o, s.heap.get? a = some o ∧ H a = none) → Heap.SameBut a s.heap h' → HOk X.prog X.w H h' := fun {a h'} ha hs b ob e => by
    obtain ⟨_, _, hfree⟩ := ha
    refine (I.hok b ob e).stay (fun c w' hc q => (hs.2 c ?_).trans q) (fun _ q => q) fun _ _ q => q
    rintro rfl
    rcases hc with rfl | hc
    · rw [hfree] at e; cases e
    · rw [hfree] at hc; cases hc
  rcases hx with hk | hk
  · refine wpAny_storeName_local hk hn (fun h' hn' hs => ?_) hcls
    obtain ⟨oL, _, _, hoL, _⟩ := id hn
    refine h _ ⟨I.ok, I.os, I.bare, ⟨fun b o e n hb hx => ?_, fun b o e n hb hx => ?_, I.base.free, fun b o e hx => ?_, I.base.tups, I.base.frzs, I.base.tbls⟩, ⟨_, hn', fun j y v' e1 e2 e3 => ?_⟩, fun y c e => ?_, I.free, I.freeC, fun p hp => ?_, tracked ⟨oL, hoL, I.free⟩ hs, by simpa using I.len⟩ ⟨_, hs, .inl rfl⟩
    · exact (hs.2 b (Nat.ne_of_lt (Nat.lt_of_lt_of_le (Heap.lt_size e) I.ok.above))).trans (I.base.keep b o e n hb hx)
    · obtain ⟨sl, e1⟩ := I.base.slot b o e n hb hx
      exact ⟨sl, (hs.2 b (Nat.ne_of_lt (Nat.lt_of_lt_of_le (Heap.lt_size e) I.ok.above))).trans e1⟩
    · obtain ⟨o', e1⟩ := I.base.there b o e hx
      exact ⟨o', (hs.2 b (Nat.ne_of_lt (Nat.lt_of_lt_of_le (Heap.lt_size e) I.ok.above))).trans e1⟩
    · by_cases hj : j = i
      · subst hj
        rw [hi] at e1; cases e1
        rw [List.getElem?_set_self hiσ] at e2
        cases e2
        exact ⟨u, r, .inl ⟨hk, by simp⟩⟩
      · rw [List.getElem?_set_ne (Ne.symm hj)] at e2
        obtain ⟨u', r', q⟩ := hl j y v' e1 e2 e3
        refine ⟨u', r', ?_⟩
        rcases q with ⟨k, e⟩ | ⟨k, c, e, z⟩
        · refine .inl ⟨k, ?_⟩
          have : y ≠ x := fun e => hj (ng hN e1 (e ▸ hi))
          simp [this, e]
        · exact .inr ⟨k, c, e, z.sameBut hs (cne y c e)⟩
    · obtain ⟨w', z⟩ := I.cell y c e
      exact ⟨w', z.sameBut hs (cne y c e)⟩
    · obtain ⟨e, n, ne, nf, d⟩ := I.pin p hp
      exact ⟨(hs.2 p.1 ne).trans e, n, ne, nf, d⟩
  · have hfn : X.fn x = true := by
      rcases hf with z | z
      · exact z
      · rw [z] at hk; cases hk
    obtain ⟨c, hc⟩ := I.ok.has x (.inl hk)
    obtain ⟨w', z⟩ := I.cell x c hc
    refine wpAny_storeName_cell I.ok.kind hk hc z (fun h' hc' hs => ?_)
    obtain ⟨oc, hoc, hocd⟩ := id z
    refine h { s with heap := h' } ⟨I.ok, I.os, I.bare, ⟨fun b o e n hb hx => ?_, fun b o e n hb hx => ?_, I.base.free, fun b o e hx => ?_, I.base.tups, I.base.frzs, I.base.tbls⟩, ⟨m, hn.sameBut hs (Ne.symm (cne x c hc)), fun j y v' e1 e2 e3 => ?_⟩, fun y c' e => ?_, I.free, I.freeC, fun p hp => ?_, tracked ⟨oc, hoc, I.freeC x c hc⟩ hs, by simpa using I.len⟩ ⟨c, hs, .inr hc⟩
    · exact (hs.2 b (Nat.ne_of_lt (Nat.lt_of_lt_of_le (Heap.lt_size e) (I.ok.cab x c hfn hc)))).trans (I.base.keep b o e n hb hx)
    · obtain ⟨sl, e1⟩ := I.base.slot b o e n hb hx
      exact ⟨sl, (hs.2 b (Nat.ne_of_lt (Nat.lt_of_lt_of_le (Heap.lt_size e) (I.ok.cab x c hfn hc)))).trans e1⟩
    · obtain ⟨o', e1⟩ := I.base.there b o e hx
      exact ⟨o', (hs.2 b (Nat.ne_of_lt (Nat.lt_of_lt_of_le (Heap.lt_size e) (I.ok.cab x c hfn hc)))).trans e1⟩
    · by_cases hj : j = i
      · subst hj
        rw [hi] at e1; cases e1
        rw [List.getElem?_set_self hiσ] at e2
        cases e2
        exact ⟨u, r, .inr ⟨.inl hk, c, hc, hc'⟩⟩
      · rw [List.getElem?_set_ne (Ne.symm hj)] at e2
        obtain ⟨u', r', q⟩ := hl j y v' e1 e2 e3
        refine ⟨u', r', ?_⟩
        rcases q with q | ⟨k, c', e, z'⟩
        · exact .inl q
        · refine .inr ⟨k, c', e, z'.sameBut hs ?_⟩
          rintro rfl
          exact hj (ng hN e1 (I.ok.inj _ _ _ e hc ▸ hi))
    · by_cases hcc : c' = c
      · subst hcc; exact ⟨_, hc'⟩
      · obtain ⟨w2, z2⟩ := I.cell y c' e
        exact ⟨w2, z2.sameBut hs hcc⟩
    · obtain ⟨e, n, ne, nf, d⟩ := I.pin p hp
      refine ⟨(hs.2 p.1 ?_).trans e, n, ne, nf, d⟩
      intro q
      rw [q, hoc] at e
      have q' : oc = p.2 := Option.some.inj e
      exact d w' (by rw [← q']; exact hocd)
theorem mR {M : Model} {A : Around} {E : Value → Shared → Prop} {i : Nat} {x : Str} {v : V} {u : Value} {Q : Unit → Shared → Prop} (I : Inv X pins σ H s) (hN : X.N.Nodup) (hi : X.N[i]? = some x) (hx : Loc X.env.scope x) (r : RelV v u)
    (h : ∀ s', Inv X pins (σ.set i (some v)) H s' → Q () s') (hf : X.fn x = true ∨ X.env.scope.names.lookup x = some .local := by first | exact .inl rfl | exact .inr rfl | assumption) : wpAny M A (storeName X.env x u) Q E s :=
  oF I hN hi hx r (fun s' I' _ => h s' I') hf
theorem Inv.call' {s' : Shared} {ch : List Addr} (I : Inv X pins σ H s) (ho : s'.os = s.os) (u : Un (frs X.stack) ch H H' s.heap s'.heap) (hok : HOk X.prog X.w H' s'.heap) (hg : AllBare s'.gens)
    (hch : ∀ b ∈ ch, (b ∈ X.ex ∨ X.s₀.heap.objs.size ≤ b) ∧ b ≠ X.env.locals ∧ (∀ x c, X.env.cells.lookup x = some c → c ≠ b) ∧ ∀ p ∈ X.pn ++ pins, p.1 ≠ b) : Inv X pins σ H' s' := by
  obtain ⟨h', g', d', t', o'⟩ := s'
  have e : o' = s.os := ho
  subst e
  exact I.call (g' := g') (t' := t') (d' := d') u hok hg hch
end
abbrev XK := Value → Option Addr → Hp → Prop
abbrev St := List (Option V)
abbrev VK := V → Hp → Prop
abbrev TE := St → Hp → VK → Prop
abbrev TT := St → Hp → (Bool → Hp → Prop) → Prop
abbrev TA := St → Hp → (List V → Hp → Prop) → Prop
structure gP where
  nx : St → Hp → Prop
  rt : VK
  bk : St → Hp → Prop := fun _ _ => False
  ct : St → Hp → Prop := fun _ _ => False
abbrev TS := gP → St → Hp → Prop
def EP (X : Cx) (pins : List (Addr × Obj)) (σ : St) (Q : VK) (u : Value) (s' : Shared) : Prop := ∃ v H', Inv X pins σ H' s' ∧ RelV v u ∧ Q v H'
def TP (X : Cx) (pins : List (Addr × Obj)) (σ : St) (Q : Bool → Hp → Prop) (b : Bool) (s' : Shared) : Prop := ∃ H', Inv X pins σ H' s' ∧ Q b H'
def AP (X : Cx) (pins : List (Addr × Obj)) (σ : St) (Q : List V → Hp → Prop) (us : List Value) (s' : Shared) : Prop := ∃ vs H', Inv X pins σ H' s' ∧ Vals vs us ∧ Q vs H'
def SP (X : Cx) (pins : List (Addr × Obj)) (D : gP) (f : Flow) (s' : Shared) : Prop :=
  match f with
  | .next => ∃ σ' H', Inv X pins σ' H' s' ∧ D.nx σ' H'
  | .brk => ∃ σ' H', Inv X pins σ' H' s' ∧ D.bk σ' H'
  | .cont => ∃ σ' H', Inv X pins σ' H' s' ∧ D.ct σ' H'
  | .ret u => ∃ v σ' H', Inv X pins σ' H' s' ∧ RelV v u ∧ D.rt v H'
def PE (X : Cx) (e : Expr) (t : TE) : Prop :=
  ∀ (pins : List (Addr × Obj)) (s : Shared) (σ : St) (H : Hp) (Q : VK), Inv X pins σ H s → t σ H Q → wpAny (model X.prog X.w) X.A (eval e X.env) (EP X pins σ Q) X.xe s
def PT (X : Cx) (e : Expr) (t : TT) : Prop :=
  ∀ (pins : List (Addr × Obj)) (s : Shared) (σ : St) (H : Hp) (Q : Bool → Hp → Prop), Inv X pins σ H s → t σ H Q → wpAny (model X.prog X.w) X.A (isTrue e X.env (eval e X.env)) (TP X pins σ Q) X.xe s
def PW (X : Cx) (e : Expr) (t : TT) : Prop :=
  ∀ (whole : Sem Value) (pins : List (Addr × Obj)) (s : Shared) (σ : St) (H : Hp) (Q : Bool → Hp → Prop), Inv X pins σ H s → t σ H Q → wpAny (model X.prog X.w) X.A (isTrue e X.env whole) (TP X pins σ Q) X.xe s
theorem PW.pt {X : Cx} {e : Expr} {t : TT} (h : PW X e t) : PT X e t := h _
def PA (X : Cx) (es : List Expr) (t : TA) : Prop :=
  ∀ (pos : Pos) (pins : List (Addr × Obj)) (s : Shared) (σ : St) (H : Hp) (Q : List V → Hp → Prop), Inv X pins σ H s → t σ H Q → wpAny (model X.prog X.w) X.A (spliced (backTo pos (starEach es X.env))) (AP X pins σ Q) X.xe s
def PS (X : Cx) (st : Stmt) (t : TS) : Prop :=
  ∀ (pins : List (Addr × Obj)) (s : Shared) (σ : St) (H : Hp) (D : gP), Inv X pins σ H s → t D σ H → wpAny (model X.prog X.w) X.A (exec st X.env) (SP X pins D) X.xe s
def PSs (X : Cx) (st : List Stmt) (t : TS) : Prop :=
  ∀ (pins : List (Addr × Obj)) (s : Shared) (σ : St) (H : Hp) (D : gP), Inv X pins σ H s → t D σ H → wpAny (model X.prog X.w) X.A (execs st X.env) (SP X pins D) X.xe s
theorem thn {α : Type} {t : Sem α} {Q Q' : α → Shared → Prop} {M : Model} {A : Around} {E : Value → Shared → Prop} {s : Shared} (h : wpAny M A t Q E s) (hQ : ∀ a s, Q a s → Q' a s) : wpAny M A t Q' E s := wpAny_mono h hQ fun _ _ x => x
end L2
namespace L2
open PySem PySem.Spec PyProof.Rows
section
variable {X : Cx}
theorem bin {a b : Expr} {ta tb : TE} (ha : PE X a ta) (hb : PE X b tb) {pins : List (Addr × Obj)} {s : Shared} {σ : St} {H : Hp} {R : V → V → Hp → Prop} (I : Inv X pins σ H s) (h : ta σ H fun x H1 => tb σ H1 fun y H2 => R x y H2)
    {α : Type} {Q : α → Shared → Prop} {f : Value → Value → Sem α}
    (hf : ∀ v u s2 x y H2, Inv X pins σ H2 s2 → RelV x v → RelV y u → R x y H2 → wpAny (model X.prog X.w) X.A (f v u) Q X.xe s2) :
    wpAny (model X.prog X.w) X.A (eval a X.env) (fun v s₁ => wpAny (model X.prog X.w) X.A (eval b X.env) (fun u s₂ => wpAny (model X.prog X.w) X.A (f v u) Q X.xe s₂) X.xe s₁) X.xe s := by
  refine thn (ha pins s σ H _ I h) fun v s1 ⟨x, H1, I1, r1, q1⟩ => ?_
  refine thn (hb pins s1 σ H1 _ I1 q1) fun u s2 ⟨y, H2, I2, r2, q2⟩ => ?_
  exact hf v u s2 x y H2 I2 r1 r2 q2
def CA (i : Nat) : TE := fun σ H Q => ∃ v, σ[i]? = some (some v) ∧ Q v H
def tC (v : V) : TE := fun _ H Q => Q v H
theorem A1 {i : Nat} {x : Str} {pos : Pos} (hN : X.N[i]? = some x) (hv : Vis X.env.scope x) (hd : (x == ("__debug__" : Str)) = false := by decide) (hcd : (x == ("__classdict__" : Str)) = false := by decide) : PE X (.Name x pos) (CA i) := by
  intro pins s σ H Q I h
  obtain ⟨v, e, h⟩ := h
  obtain ⟨m, hn, hl⟩ := I.loc
  obtain ⟨u, r, l⟩ := hl i x v hN e hv
  have fin : EP X pins σ Q u s := ⟨v, H, I, r, h⟩
  rcases l with ⟨hk, hm⟩ | ⟨hk, c, hc, hcell⟩
  · exact wpAny_Name (wpAny_loadName_local I.ok.kind hk hn hm fin) hd
  · rcases hk with hk | hk
    · exact wpAny_Name (wpAny_loadName_cell I.ok.kind hk hc hcell fin) hd
    · exact wpAny_Name (wpAny_loadName_free I.ok.kind hk hc hcell fin hcd) hd
theorem ad {i j pos} : PE X (.Constant (.int i) j pos) (tC (.int i)) := fun _ _ _ H _ I h => wpAny_Constant_int ⟨.int i, H, I.tok _, ⟨_, rfl⟩, h⟩
theorem iR {b j pos} : PE X (.Constant (.bool b) j pos) (tC (.bl b)) := fun _ _ _ H _ I h => Constant_bool ⟨.bl b, H, I, rfl, h⟩
theorem i6 {j pos} : PE X (.Constant .none j pos) (tC .non) := fun _ _ _ H _ I h => Constant_none ⟨.non, H, I, rfl, h⟩
theorem Ae {x j pos} : PE X (.Constant (.str x) j pos) (tC (.str x)) := fun _ _ _ H _ I h => Calls.Constant_str ⟨.str x, H, I.tok _, ⟨_, rfl⟩, h⟩
def Gl (X : Cx) (x : Str) : Prop := X.env.kindOf x = some .globalImplicit
theorem iy {E : Value → Shared → Prop} {pins : List (Addr × Obj)} {s : Shared} {σ : St} {H : Hp} {x : Str} {u : Value} {pos : Pos} {Q : Value → Shared → Prop} (I : Inv X pins σ H s) (hg : Gl X x) (hm : X.mg x = some u) (h : Q u s)
    (hd : (x == ("__debug__" : Str)) = false := by decide) : wpAny (model X.prog X.w) X.A (eval (.Name x pos) X.env) Q E s :=
  Calls.Name_function_global I.ok.kind hg (Calls.loadGlobal_global (by rw [I.ok.glob]; exact I.mod.glob.keeps I.bk) hm h) hd
theorem fW {E : Value → Shared → Prop} {pins : List (Addr × Obj)} {s : Shared} {σ : St} {H : Hp} {x : Str} {u : Value} {pos : Pos} {Q : Value → Shared → Prop} (I : Inv X pins σ H s) (hg : Gl X x) (hm : X.mg x = none) (hv : bootBuiltins x = some u) (h : Q u s)
    (hn : x ≠ "__name__" := by decide) (hd : (x == ("__debug__" : Str)) = false := by decide) : wpAny (model X.prog X.w) X.A (eval (.Name x pos) X.env) Q E s := by
  obtain ⟨mb, h1, h2⟩ := I.mod.blt
  exact Calls.Name_function_global I.ok.kind hg (Calls.loadGlobal_builtin (by rw [I.ok.glob]; exact I.mod.glob.keeps I.bk) hm (by rw [I.ok.blt]; exact h1.keeps I.bk) ((h2 x hn).trans hv) h) hd
theorem gC {x : Str} {v : V} {u : Value} {pos : Pos} (hg : Gl X x) (hm : X.mg x = some u) (r : RelV v u) (hd : (x == ("__debug__" : Str)) = false := by decide) : PE X (.Name x pos) (tC v) :=
  fun _ _ _ H _ I h => iy I hg hm ⟨v, H, I, r, h⟩ hd
theorem dN {x : Str} {v : V} {u : Value} {pos : Pos} (hg : Gl X x) (hm : X.mg x = none) (hv : bootBuiltins x = some u) (r : RelV v u) (hn : x ≠ "__name__" := by decide) (hd : (x == ("__debug__" : Str)) = false := by decide) : PE X (.Name x pos) (tC v) :=
  fun _ _ _ H _ I h => fW I hg hm hv ⟨v, H, I, r, h⟩ hn hd
variable {a b : Expr} {ta tb : TE} {pos : Pos}
def PC (X : Cx) (op : CmpOp) (a b : Expr) (t : TE) : Prop :=
  ∀ (pins : List (Addr × Obj)) (s : Shared) (σ : St) (H : Hp) (Q : VK), Inv X pins σ H s → t σ H Q →
    wpAny (model X.prog X.w) X.A (eval a X.env) (fun v s₁ => wpAny (model X.prog X.w) X.A (eval b X.env) (fun u s₂ => wpAny (model X.prog X.w) X.A (compareOp op v u) (EP X pins σ Q) X.xe s₂) X.xe s₁) X.xe s
theorem sJ (b : Expr) {op : CmpOp} (h : op ≠ .In) (h2 : op ≠ .NotIn) : behindInMarks op b = false := by
  have e1 : (op == CmpOp.In) = false := by cases op <;> first | rfl | exact absurd rfl h
  have e2 : (op == CmpOp.NotIn) = false := by cases op <;> first | rfl | exact absurd rfl h2
  cases b <;> simp [behindInMarks, e1, e2]
def B4 (ta : TE) : TE := fun σ H Q => ta σ H fun x H1 => Q (.bl (decide (x = .non))) H1
def z_ (ta : TE) : TE := fun σ H Q => ta σ H fun x H1 => Q (.bl (!decide (x = .non))) H1
theorem RelV.none_iff {x : V} {v : Value} (r : RelV x v) : (v == Value.none) = decide (x = .non) := by
  cases x with
  | non => cases r; rfl
  | bl _ => cases r; rfl
  | int _ => obtain ⟨t, rfl⟩ := r; rfl
  | str _ => obtain ⟨t, rfl⟩ := r; rfl
  | byt _ => obtain ⟨t, rfl⟩ := r; rfl
  | flt _ => obtain ⟨t, rfl⟩ := r; rfl
  | ref _ => cases r; rfl
  | ty _ => cases r; rfl
theorem AE {j pos'} (ha : PE X a ta) : PC X .Is a (.Constant .none j pos') (B4 ta) := by
  intro pins s σ H Q I h
  refine thn (ha pins s σ H _ I h) fun v s1 ⟨x, H1, I1, r1, q1⟩ => ?_
  exact Constant_none (is_none_gen ⟨.bl _, H1, I1, by rw [r1.none_iff]; rfl, q1⟩)
theorem pV {j pos'} (ha : PE X a ta) : PC X .IsNot a (.Constant .none j pos') (z_ ta) := by
  intro pins s σ H Q I h
  refine thn (ha pins s σ H _ I h) fun v s1 ⟨x, H1, I1, r1, q1⟩ => ?_
  exact Constant_none (isnot_none_gen ⟨.bl _, H1, I1, by rw [r1.none_iff]; rfl, q1⟩)
theorem xS {op : CmpOp} {t : TE} (h : PC X op a b t) (h1 : behindInMarks op b = false := by first | exact sJ _ (by decide) (by decide) | rfl) : PE X (.Compare a [op] [b] pos) t := fun pins s σ H Q I hw => wpAny_Compare1 (h pins s σ H Q I hw) h1
variable {tA tB' : TT} {rest : List Expr}
def Cn (t u : TT) : TT := fun σ H Q => t σ H fun c H1 => if c = true then u σ H1 Q else Q false H1
def tOr (t u : TT) : TT := fun σ H Q => t σ H fun c H1 => if c = true then Q true H1 else u σ H1 Q
def B0 (t : TT) : TT := fun σ H Q => t σ H fun c H1 => Q (!c) H1
theorem gj (ha : PT X a tA) : PW X (.BoolOp .And [a] pos) tA := by
  intro wh pins s σ H Q I h
  refine isTrue_and (thn (ha pins s σ H Q I h) fun c s1 e => ?_)
  cases c with
  | true => exact isTrue_and_nil e
  | false => exact e
theorem pw (ha : PT X a tA) : PW X (.BoolOp .Or [a] pos) tA := by
  intro wh pins s σ H Q I h
  refine isTrue_or (thn (ha pins s σ H Q I h) fun c s1 e => ?_)
  cases c with
  | false => exact isTrue_or_nil e
  | true => exact e
theorem jd (ha : PT X a tA) (hb : PW X (.BoolOp .And (b :: rest) pos) tB') : PW X (.BoolOp .And (a :: b :: rest) pos) (Cn tA tB') := by
  intro wh pins s σ H Q I h
  refine isTrue_and (thn (ha pins s σ H _ I h) fun c s1 ⟨H1, I1, q1⟩ => ?_)
  cases c with
  | true => exact hb wh pins s1 σ H1 Q I1 q1
  | false => exact ⟨H1, I1, q1⟩
theorem oG (ha : PT X a tA) (hb : PW X (.BoolOp .Or (b :: rest) pos) tB') : PW X (.BoolOp .Or (a :: b :: rest) pos) (tOr tA tB') := by
  intro wh pins s σ H Q I h
  refine isTrue_or (thn (ha pins s σ H _ I h) fun c s1 ⟨H1, I1, q1⟩ => ?_)
  cases c with
  | true => exact ⟨H1, I1, q1⟩
  | false => exact hb wh pins s1 σ H1 Q I1 q1
theorem cI (ha : PT X a tA) : PT X (.UnaryOp .Not a pos) (B0 tA) := by
  intro pins s σ H Q I h
  exact isTrue_not (ha pins s σ H (fun c H1 => Q (!c) H1) I h)
theorem de {op} {t : TE} (h : PE X a t) : PE X (.BoolOp op [a] pos) t := fun pins s σ H Q I hw => BoolOp_one (h pins s σ H Q I hw)
end
end L2
namespace L2
open PySem PySem.Spec PyProof.Rows
def SqL (K : PySem.W.Frag) (H : Hp) (a : Addr) (xs : List V) : Prop :=
  Rd H a (.lst xs) ∨
    ∃ (o : Obj) (its : Array Value) (n : Nat), K.lookup a = some o ∧ o.cls = .type "list" ∧ o.dict = none ∧ o.data = .seq its n ∧ its.size ≤ sizeLine ∧ Vals xs its.toList
def SqT (K : PySem.W.Frag) (H : Hp) (a : Addr) (xs : List V) : Prop :=
  Rd H a (.tup xs) ∨
    ∃ (o : Obj) (its : Array Value) (n : Nat), K.lookup a = some o ∧ o.cls = .type "tuple" ∧ o.data = .seq its n ∧ its.size ≤ sizeLine ∧ Vals xs its.toList
def CN : Value → Option V
  | .none => some .non
  | .bool b => some (.bl b)
  | .int i _ => some (.int i)
  | .str x _ => some (.str x)
  | .bytes b _ => some (.byt b)
  | .float b _ => some (.flt b)
  | .ref a => some (.ref a)
  | .type n => some (.ty n)
  | _ => none
theorem RelV.abs {x : V} {u : Value} (r : RelV x u) : CN u = some x := by
  cases x with
  | non => cases r; rfl
  | bl _ => cases r; rfl
  | int _ => obtain ⟨t, rfl⟩ := r; rfl
  | str _ => obtain ⟨t, rfl⟩ := r; rfl
  | byt _ => obtain ⟨t, rfl⟩ := r; rfl
  | flt _ => obtain ⟨t, rfl⟩ := r; rfl
  | ref _ => cases r; rfl
  | ty _ => cases r; rfl
theorem RelV.inj {x y : V} {u : Value} (r : RelV x u) (q : RelV y u) : x = y := Option.some.inj (r.abs.symm.trans q.abs)
theorem Vals.inj : ∀ {xs ys : List V} {us : List Value}, Vals xs us → Vals ys us → xs = ys
  | _, _, _, .nil, .nil => rfl
  | _, _, _, .cons r t, .cons r' t' => by rw [r.inj r', Vals.inj t t']
section
variable {X : Cx} {pins : List (Addr × Obj)} {σ : St} {H : Hp} {s : Shared} {a : Addr} {xs ys : List V}
theorem SqL.of {K : PySem.W.Frag} (h : H a = some (.lst xs)) : SqL K H a xs := .inl (.inl h)
theorem SqT.of {K : PySem.W.Frag} (h : H a = some (.tup xs)) : SqT K H a xs := .inl (.inl h)
theorem Inv.list (I : Inv X pins σ H s) (h : SqL X.K H a xs) : ∃ its : List Value, Vals xs its ∧ PlainL s.heap a its.toArray ∧ xs.length ≤ sizeLine := by
  rcases h with h | ⟨o, its, n, hk, hc, hd, hs, hz, r⟩
  · obtain ⟨z, its, n, r, e⟩ := h.ok I.hok
    exact ⟨its, r, ⟨_, n, e, rfl, rfl, rfl⟩, z⟩
  · refine ⟨its.toList, r, ⟨o, n, I.kIn a o hk, hc, hd, by simpa using hs⟩, ?_⟩
    have e := r.length
    simp only [Array.length_toList] at e
    omega
theorem Inv.tuple (I : Inv X pins σ H s) (h : SqT X.K H a xs) : ∃ its : List Value, Vals xs its ∧ IsTup s.heap a its.toArray ∧ xs.length ≤ sizeLine := by
  rcases h with h | ⟨o, its, n, hk, hc, hs, hz, r⟩
  · obtain ⟨z, its, r, p⟩ := h.ok I.hok
    exact ⟨its, r, p, z⟩
  · refine ⟨its.toList, r, ⟨o, I.kIn a o hk, hc, n, by simpa using hs⟩, ?_⟩
    have e := r.length
    simp only [Array.length_toList] at e
    omega
theorem Inv.list_inj (I : Inv X pins σ H s) (h : SqL X.K H a xs) (h' : SqL X.K H a ys) : xs = ys := by
  obtain ⟨its, r, ⟨o, n, e, _, _, d⟩, _⟩ := I.list h
  obtain ⟨its', r', ⟨o', n', e', _, _, d'⟩, _⟩ := I.list h'
  rw [e] at e'; cases e'
  rw [d] at d'
  injection d' with d1 _
  have : its = its' := by simpa using congrArg Array.toList d1
  subst this
  exact r.inj r'
theorem Inv.tuple_inj (I : Inv X pins σ H s) (h : SqT X.K H a xs) (h' : SqT X.K H a ys) : xs = ys := by
  obtain ⟨its, r, ⟨o, e, _, n, d⟩, _⟩ := I.tuple h
  obtain ⟨its', r', ⟨o', e', _, n', d'⟩, _⟩ := I.tuple h'
  rw [e] at e'; cases e'
  rw [d] at d'
  injection d' with d1 _
  have : its = its' := by simpa using congrArg Array.toList d1
  subst this
  exact r.inj r'
end
abbrev Cx.wish (X : Cx) (E : Value → Shared → Prop) : Cx := { X with xe := E }
abbrev Cx.nox (X : Cx) : Cx := X.wish fun _ _ => False
section
variable {X : Cx} {pins : List (Addr × Obj)} {σ : St} {H : Hp} {s : Shared} {E : Value → Shared → Prop}
end
section
variable {X : Cx} {st : Stmt} {rest : List Stmt} {t u : TS} {e : Expr} {te : TE} {pos : Pos}
def zR : TS := fun D σ H => D.nx σ H
def B7 (t u : TS) : TS := fun D σ H => t { D with nx := u D } σ H
theorem aQ : PSs X [] zR := fun _ _ σ H _ I h => wpAny_execs_nil ⟨σ, H, I, h⟩
theorem ah (h1 : PS X st t) (h2 : PSs X rest u) : PSs X (st :: rest) (B7 t u) := by
  intro pins s σ H D I h
  refine wpAny_execs_cons (thn (h1 pins s σ H { D with nx := u D } I h) fun f s1 q => ?_)
  cases f with
  | next =>
    obtain ⟨σ', H', I', q⟩ := q
    exact h2 pins s1 σ' H' D I' q
  | ret v => exact q
  | brk => exact q
  | cont => exact q
theorem ak (h1 : PS X st t) : PSs X [st] t := by
  intro pins s σ H D I h
  refine wpAny_execs_cons (thn (h1 pins s σ H D I h) fun f s1 q => ?_)
  cases f with
  | next => exact wpAny_execs_nil q
  | ret v => exact q
  | brk => exact q
  | cont => exact q
theorem Inv.quiet {pins : List (Addr × Obj)} {σ : St} {H : Hp} {s : Shared} (I : Inv X pins σ H s) : interactive X.env = false := by simp [interactive, I.ok.kind]
def zV (te : TE) : TS := fun D σ H => te σ H fun _ H1 => D.nx σ H1
theorem bY (he : PE X e te) (hs : swapsWith e none pos.line X.env = pure false := by rfl) : PS X (.Expr e pos) (zV te) := by
  intro pins s σ H D I h
  exact wpAny_Expr_any (thn (he pins s σ H _ I h) fun v s1 ⟨x, H1, I1, r1, q1⟩ => ⟨σ, H1, I1, q1⟩) I.quiet hs
def A_ (te : TE) : TS := fun D σ H => te σ H D.rt
theorem aH (he : PE X e te) : PS X (.Return (some e) pos) (A_ te) := by
  intro pins s σ H D I h
  exact wpAny_Return_some (thn (he pins s σ H _ I h) fun v s1 ⟨x, H1, I1, r1, q1⟩ => ⟨x, σ, H1, I1, r1, q1⟩)
def B6 (c : TT) (t u : TS) : TS := fun D σ H => c σ H fun b H1 => if b = true then t D σ H1 else u D σ H1
theorem bG {c : Expr} {a b : List Stmt} {tc : TT} (hc : PT X c tc) (ha : PSs X a t) (hb : PSs X b u) : PS X (.If c a b pos) (B6 tc t u) := by
  intro pins s σ H D I h
  refine wpAny_If (thn (hc pins s σ H _ I h) fun d s1 ⟨H1, I1, q1⟩ => ?_)
  cases d with
  | true => exact ha pins s1 σ H1 D I1 q1
  | false => exact hb pins s1 σ H1 D I1 q1
end
abbrev TG := V → St → Hp → (St → Hp → Prop) → Prop
abbrev TGs := List V → St → Hp → (St → Hp → Prop) → Prop
def PG (X : Cx) (target : Expr) (t : TG) : Prop :=
  ∀ (pins : List (Addr × Obj)) (s : Shared) (σ : St) (H : Hp) (v : V) (u : Value) (Q : St → Hp → Prop), Inv X pins σ H s → RelV v u → t v σ H Q →
    wpAny (model X.prog X.w) X.A (assign target X.env u) (fun _ s' => ∃ σ' H', Inv X pins σ' H' s' ∧ Q σ' H') X.xe s
def PGs (X : Cx) (ts : List Expr) (t : TGs) : Prop :=
  ∀ (pins : List (Addr × Obj)) (s : Shared) (σ : St) (H : Hp) (vs : List V) (us : List Value) (Q : St → Hp → Prop), Inv X pins σ H s → Vals vs us → t vs σ H Q →
    wpAny (model X.prog X.w) X.A (assignInOrder ((assignEach ts X.env).map (·.2)) us) (fun _ s' => ∃ σ' H', Inv X pins σ' H' s' ∧ Q σ' H') X.xe s
section
variable {X : Cx} {pos : Pos}
def iN (i : Nat) : TG := fun v σ H Q => Q (σ.set i (some v)) H
theorem aI {i : Nat} {x : Str} (hN : X.N.Nodup) (hi : X.N[i]? = some x) (hx : Loc X.env.scope x) (hf : X.fn x = true ∨ X.env.scope.names.lookup x = some .local := by first | exact .inl rfl | exact .inr rfl | assumption) : PG X (.Name x pos) (iN i) := by
  intro pins s σ H v u Q I r h
  exact wpAny_assign_Name (mR I hN hi hx r (fun s' I' => ⟨_, H, I', h⟩) hf)
def B3 : TGs := fun vs σ H Q => vs = [] ∧ Q σ H
def zN (t : TG) (u : TGs) : TGs := fun vs σ H Q => ∃ v r, vs = v :: r ∧ t v σ H fun σ' H' => u r σ' H' Q
theorem gf : PGs X [] B3 := by
  intro pins s σ H vs us Q I r h
  obtain ⟨e, h⟩ := h
  subst e
  cases r
  exact assignInOrder_nil ⟨σ, H, I, h⟩
theorem bp {e : Expr} {es : List Expr} {t : TG} {u : TGs} (h1 : PG X e t) (h2 : PGs X es u)
    (hs : (assignEach (e :: es) X.env).map (·.2) = assign e X.env :: (assignEach es X.env).map (·.2) := by rfl) : PGs X (e :: es) (zN t u) := by
  intro pins s σ H vs us Q I r h
  obtain ⟨v, vr, e1, h⟩ := h
  subst e1
  cases r with
  | cons r rr =>
    rw [hs]
    refine assignInOrder_cons (thn (h1 pins s σ H _ _ _ I r h) fun _ s1 ⟨σ1, H1, I1, q1⟩ => ?_)
    exact h2 pins s1 σ1 H1 _ _ Q I1 rr q1
def BF (K : PySem.W.Frag) (n : Nat) (t : TGs) : TG := fun v σ H Q => ∃ a xs, v = .ref a ∧ SqT K H a xs ∧ xs.length = n ∧ t xs σ H Q
theorem Af {es : List Expr} {k : Nat} {t : TGs} {n : Nat} (hc : X.calm = true) (h : PGs X es t)
    (hn : (assignEach es X.env).length = n := by rfl) (hst : (assignEach es X.env).findIdx? (·.1) = none := by rfl) : PG X (.Tuple es k pos) (BF X.K n t) := by
  intro pins s σ H v u Q I r hw
  obtain ⟨a, xs, e1, hq, hl, hw⟩ := hw
  subst e1
  cases r
  obtain ⟨its, rv, ht, hz⟩ := I.tuple hq
  refine assign_Tuple_tuple (I.ok.hd hc) ht (by simp [hn, ← hl, rv.length]) hst fun h' hx => ?_
  have I1 : Inv X pins σ H { s with heap := h' } := I.kept (t' := s.toks) fun b o e => hx b o (Nat.ne_of_lt (Heap.lt_size e)) e
  exact h pins _ σ H xs _ Q I1 (by simpa using rv) hw
def zI (te : TE) (g : TG) : TS := fun D σ H => te σ H fun x H1 => g x σ H1 D.nx
theorem At {tg e : Expr} {te : TE} {g : TG} (he : PE X e te) (hg : PG X tg g) (hs : swapsWithSole [tg] e pos.line X.env = pure false := by rfl) (hw : swappedStores [tg] e X.env = pure none := by rfl)
    (h1 : (assignEach [tg] X.env).map (·.2) = [assign tg X.env] := by rfl) : PS X (.Assign [tg] e pos) (zI te g) := by
  intro pins s σ H D I h
  refine wpAny_Assign_stores (thn (he pins s σ H _ I h) fun v s1 ⟨x, H1, I1, r1, q1⟩ => ?_) hs hw
  rw [h1]
  exact thn (hg pins s1 σ H1 x v _ I1 r1 q1) fun _ s2 q => q
theorem aw {i : Nat} {x : Str} {e : Expr} {te : TE} {pos' : Pos} (hN : X.N.Nodup) (hi : X.N[i]? = some x) (hx : Loc X.env.scope x) (he : PE X e te) (hs : swapsWith e (some (.Name x pos')) pos.line X.env = pure false := by rfl) (hf : X.fn x = true ∨ X.env.scope.names.lookup x = some .local := by first | exact .inl rfl | exact .inr rfl | assumption) :
    PS X (.Assign [.Name x pos'] e pos) (zI te (iN i)) := by
  intro pins s σ H D I h
  refine wpAny_Assign_Name (thn (he pins s σ H _ I h) fun v s1 ⟨y, H1, I1, r1, q1⟩ => ?_) hs
  exact mR I1 hN hi hx r1 (fun s2 I2 => ⟨_, H1, I2, q1⟩) hf
end
section
variable {X : Cx} {pos : Pos}
end
structure It where
  go : Nat → Hp → Prop
  yld : Nat → Hp → V → Hp → Prop
  stop : Nat → Hp → Prop
def ou (X : Cx) (pins : List (Addr × Obj)) (H : Hp) (b : Addr) : Prop :=
  H b = none ∧ b ≠ X.env.locals ∧ b ∉ X.fs ∧ (b ∈ X.ex ∨ X.s₀.heap.objs.size ≤ b) ∧ (∀ x c, X.env.cells.lookup x = some c → c ≠ b) ∧ ∀ p ∈ X.pn ++ pins, p.1 ≠ b
theorem Inv.fpOk {X : Cx} {pins : List (Addr × Obj)} {σ : St} {H H' : Hp} {s : Shared} {b : Addr} (I : Inv X pins σ H s) (hb : s.heap.objs.size ≤ b) (hn : H' b = none) : ou X pins H' b := by
  refine ⟨hn, Nat.ne_of_gt (Nat.lt_of_lt_of_le I.lt hb), I.nofs hb, .inr (Nat.le_trans I.sz hb), fun x c e z => ?_, fun p hp z => ?_⟩
  · obtain ⟨v, q⟩ := I.cell x c e
    exact absurd (Nat.lt_of_lt_of_le q.lt (by rw [z]; exact hb)) (Nat.lt_irrefl _)
  · exact absurd (Nat.lt_of_lt_of_le (Heap.lt_size (I.pin p hp).1) (by rw [z]; exact hb)) (Nat.lt_irrefl _)
structure rL (P : Program) (w : World) (K : PySem.W.Frag) (tg : Expr) (J : It) (fp : List Addr) (it : Addr) (tn : Nat → Heap → Prop) : Prop where
  mem : it ∈ fp
  obj : ∀ i h, tn i h → ∀ b ∈ fp, ∃ o, h.get? b = some o ∧ ∀ v, o.data ≠ .cell v
  keep : ∀ i h h', tn i h → (∀ b ∈ fp, ∀ o, h.get? b = some o → h'.get? b = some o) → tn i h'
  item : ∀ (X : Cx), X.prog = P → X.w = w → X.K = K → X.calm = true → ∀ (i : Nat) (pins : List (Addr × Obj)) (s : Shared) (σ : St) (H : Hp) (E : Value → Shared → Prop), Inv X pins σ H s → (∀ b ∈ fp, ou X pins H b) → tn i s.heap → J.go i H →
    wpAny (model P w) X.A (pyNext (.ref it)) (fun r s1 => ∃ u, r = some u ∧
      wpAny (model P w) X.A (letOwnedTupleGo tg (.ref it) u) (fun _ s2 => ∃ x H', Inv X pins σ H' s2 ∧ RelV x u ∧ J.yld i H x H' ∧ tn (i + 1) s2.heap ∧ ∀ b ∈ fp, H' b = none) E s1) E s
  done : ∀ (X : Cx), X.prog = P → X.w = w → X.K = K → X.calm = true → ∀ (i : Nat) (pins : List (Addr × Obj)) (s : Shared) (σ : St) (H : Hp) (E : Value → Shared → Prop), Inv X pins σ H s → (∀ b ∈ fp, ou X pins H b) → tn i s.heap → J.stop i H →
    wpAny (model P w) X.A (pyNext (.ref it)) (fun r s1 => r = none ∧ Inv X pins σ H s1) E s
  self : ∀ (A : Around) (i : Nat) (s : Shared) (Q : Value → Shared → Prop) (E : Value → Shared → Prop), tn i s.heap → Q (.ref it) s → wpAny (model P w) A (pyIter (.ref it)) Q E s
abbrev TI := St → Hp → (It → Hp → Prop) → Prop
def PIE (X : Cx) (pins : List (Addr × Obj)) (σ : St) (tg : Expr) (R : It → Hp → Prop) (itv : Value) (s2 : Shared) : Prop :=
  ∃ (it : Addr) (fp : List Addr) (tn : Nat → Heap → Prop) (J : It) (H' : Hp), itv = .ref it ∧ Inv X pins σ H' s2 ∧ rL X.prog X.w X.K tg J fp it tn ∧ tn 0 s2.heap ∧ (∀ b ∈ fp, ou X pins H' b) ∧ R J H'
def PI (X : Cx) (tg iter : Expr) (wi : TI) : Prop :=
  ∀ (pins : List (Addr × Obj)) (s : Shared) (σ : St) (H : Hp) (R : It → Hp → Prop), Inv X pins σ H s → wi σ H R →
    wpAny (model X.prog X.w) X.A (eval iter X.env) (fun v s1 => wpAny (model X.prog X.w) X.A (pyIter v) (PIE X pins σ tg R) X.xe s1) X.xe s
theorem nA {M : Model} {A : Around} {E : Value → Shared → Prop} {s : Shared} {tg : Expr} {it : Addr} {u : Value} {o : Obj} {n : String} {vs : Array Value} {Q : Unit → Shared → Prop} (ho : s.heap.get? it = some o) (hc : o.cls = .type n) (hd : o.data = .fields vs)
    (hn : ["enumerate", "zip", "dict_itemiterator", "dict_reverseitemiterator", "odict_iterator", "itertools.zip_longest", "itertools.pairwise"].contains n = false) (hQ : Q () s) : wpAny M A (letOwnedTupleGo tg (.ref it) u) Q E s := by
  unfold letOwnedTupleGo
  cases tg <;> first
    | exact wpAny_pure hQ
    | (cases u <;> first
        | exact wpAny_pure hQ
        | (refine wpAny_bind (wpAny_load ho ?_)
           rw [hc, hd]
           show wpAny M A (if (["enumerate", "zip", "dict_itemiterator", "dict_reverseitemiterator", "odict_iterator", "itertools.zip_longest", "itertools.pairwise"].contains n && vs[0]? == some (rawInt _)) = true then _ else _) Q E s
           rw [if_neg (by intro h; rw [hn, Bool.false_and] at h; cases h)]
           exact wpAny_pure hQ))
def Itl (K : PySem.W.Frag) (a : Addr) : It :=
  ⟨fun i H => ∃ xs x, SqL K H a xs ∧ xs[i]? = some x, fun i H x H' => H' = H ∧ ∀ xs, SqL K H a xs → xs[i]? = some x, fun i H => ∃ xs, SqL K H a xs ∧ xs.length ≤ i⟩
def Itt (K : PySem.W.Frag) (a : Addr) : It :=
  ⟨fun i H => ∃ xs x, SqT K H a xs ∧ xs[i]? = some x, fun i H x H' => H' = H ∧ ∀ xs, SqT K H a xs → xs[i]? = some x, fun i H => ∃ xs, SqT K H a xs ∧ xs.length ≤ i⟩
def Itr (lo : Int) (n : Nat) : It := ⟨fun i _ => i < n, fun i H x H' => H' = H ∧ x = .int (lo + i), fun i _ => n ≤ i⟩
theorem wj {P : Program} {w : World} {K : PySem.W.Frag} {tg : Expr} (a it : Addr) : rL P w K tg (Itl K a) [it] it (fun i h => h.IsListIter it a i) where
  mem := by simp
  obj := fun i h st b hb => by
    have e : b = it := by simpa using hb
    subst e
    obtain ⟨o, e, c, d⟩ := st
    exact ⟨o, e, fun v z => by rw [d] at z; cases z⟩
  keep := fun i h h' st k => st.at fun o e => k it (by simp) o e
  item := by
    intro X hP hw hK hc i pins s σ H E I hf st hg
    subst hP hw hK
    obtain ⟨xs, x, hq, hx⟩ := hg
    obtain ⟨its, rv, p, hz⟩ := I.list hq
    obtain ⟨u, hu, ru⟩ := rv.get hx
    obtain ⟨f0, f1, f2, f3, f4, f5⟩ := hf it (by simp)
    refine wpAny_pyNext_list_item st p.isList (x := u) (by simpa using hu) fun h' st' sb => ?_
    have I1 : Inv X pins σ H { s with heap := h' } := I.turned (t' := s.toks) (fun b o hb e => (sb.2 b hb).trans e) f0 f1 f3 f4 f5
    obtain ⟨o, e, c, d⟩ := id st'
    exact ⟨u, rfl, nA (s := { s with heap := h' }) e c d (by decide) ⟨x, H, I1, ru, ⟨rfl, fun ys hy => by rw [I.list_inj hy hq]; exact hx⟩, st', fun b hb => (hf b hb).1⟩⟩
  done := by
    intro X hP hw hK hc i pins s σ H E I hf st hg
    subst hP hw hK
    obtain ⟨xs, hq, hx⟩ := hg
    obtain ⟨its, rv, p, hz⟩ := I.list hq
    obtain ⟨f0, f1, f2, f3, f4, f5⟩ := hf it (by simp)
    have hl := rv.length
    exact wpAny_pyNext_list_end (I.ok.hd hc) st p.isList (by simp; omega) fun h' eb => ⟨rfl, I.turned (t' := s.toks) (fun b o hb e => eb b o hb e) f0 f1 f3 f4 f5⟩
  self := fun _ _ _ _ _ st h => wpAny_pyIter_listiter st h
theorem sS {P : Program} {w : World} {K : PySem.W.Frag} {tg : Expr} (a it : Addr) : rL P w K tg (Itt K a) [it] it (fun i h => h.IsTupleIter it a i) where
  mem := by simp
  obj := fun i h st b hb => by
    have e : b = it := by simpa using hb
    subst e
    obtain ⟨o, e, c, d⟩ := st
    exact ⟨o, e, fun v z => by rw [d] at z; cases z⟩
  keep := fun i h h' st k => st.at fun o e => k it (by simp) o e
  item := by
    intro X hP hw hK hc i pins s σ H E I hf st hg
    subst hP hw hK
    obtain ⟨xs, x, hq, hx⟩ := hg
    obtain ⟨its, rv, p, hz⟩ := I.tuple hq
    obtain ⟨u, hu, ru⟩ := rv.get hx
    obtain ⟨f0, f1, f2, f3, f4, f5⟩ := hf it (by simp)
    refine wpAny_pyNext_tuple_item st (show s.heap.IsTuple a its.toArray from p) (x := u) (by simpa using hu) fun h' st' sb => ?_
    have I1 : Inv X pins σ H { s with heap := h' } := I.turned (t' := s.toks) (fun b o hb e => (sb.2 b hb).trans e) f0 f1 f3 f4 f5
    obtain ⟨o, e, c, d⟩ := id st'
    exact ⟨u, rfl, nA (s := { s with heap := h' }) e c d (by decide) ⟨x, H, I1, ru, ⟨rfl, fun ys hy => by rw [I.tuple_inj hy hq]; exact hx⟩, st', fun b hb => (hf b hb).1⟩⟩
  done := by
    intro X hP hw hK hc i pins s σ H E I hf st hg
    subst hP hw hK
    obtain ⟨xs, hq, hx⟩ := hg
    obtain ⟨its, rv, p, hz⟩ := I.tuple hq
    obtain ⟨f0, f1, f2, f3, f4, f5⟩ := hf it (by simp)
    have hl := rv.length
    exact wpAny_pyNext_tuple_end (I.ok.hd hc) st (show s.heap.IsTuple a its.toArray from p) (by simp; omega) fun h' eb => ⟨rfl, I.turned (t' := s.toks) (fun b o hb e => eb b o hb e) f0 f1 f3 f4 f5⟩
  self := fun _ _ _ _ _ st h => wpAny_pyIter_tupleiter st h
theorem sU {P : Program} {w : World} {K : PySem.W.Frag} {tg : Expr} (it : Addr) (lo : Int) (n : Nat) : rL P w K tg (Itr lo n) [it] it (fun i h => IsRangeIter h it (lo + (i : Nat) * 1) ((n : Int) - (i : Nat)) 1) where
  mem := by simp
  obj := fun i h st b hb => by
    have e : b = it := by simpa using hb
    subst e
    exact ⟨_, st, fun v z => by
      have z' : Data.fields _ = Data.cell v := z
      cases z'⟩
  keep := fun i h h' st k => k it (by simp) _ st
  item := by
    intro X hP hw hK hc i pins s σ H E I hf st hg
    subst hP hw hK
    obtain ⟨f0, f1, f2, f3, f4, f5⟩ := hf it (by simp)
    have W := Walks.range (prog := X.prog) (w := X.w) (I.ok.hd hc) it lo 1 n
    refine W.item i s _ _ hg st fun v h' tk hv st' kk => ?_
    obtain ⟨t, rfl⟩ := hv
    have I1 : Inv X pins σ H { s with heap := h', toks := tk } := I.turned (fun b o hb e => kk b o (by simpa using hb) e) f0 f1 f3 f4 f5
    refine ⟨_, rfl, nA (s := { s with heap := h', toks := tk }) (n := "range_iterator") st' rfl rfl (by decide) ⟨.int (lo + i), H, I1, ⟨t, ?_⟩, ⟨rfl, rfl⟩, st', fun b hb => (hf b hb).1⟩⟩
    rw [Int.mul_one]
  done := by
    intro X hP hw hK hc i pins s σ H E I hf st hg
    subst hP hw hK
    obtain ⟨f0, f1, f2, f3, f4, f5⟩ := hf it (by simp)
    exact wpAny_pyNext_range_end (I.ok.hd hc) st (by have : n ≤ i := hg; omega) fun h' eb => ⟨rfl, I.turned (t' := s.toks) (fun b o hb e => eb b o hb e) f0 f1 f3 f4 f5⟩
  self := fun _ _ _ _ _ st h => wpAny_pyIter_rangeiter st h
end L2
namespace L2
open PySem PySem.Spec PyProof.Rows
section
variable {X : Cx} {tg : Expr}
def oH (K : PySem.W.Frag) (tl : TE) : TI := fun σ H R => tl σ H fun x H1 => ∃ a, x = .ref a ∧ (∃ xs, SqL K H1 a xs) ∧ R (Itl K a) H1
def vo (K : PySem.W.Frag) (tl : TE) : TI := fun σ H R => tl σ H fun x H1 => ∃ a, x = .ref a ∧ (∃ xs, SqT K H1 a xs) ∧ R (Itt K a) H1
theorem yX {l : Expr} {tl : TE} (hl : PE X l tl) : PI X tg l (oH X.K tl) := by
  intro pins s σ H R I h
  refine thn (hl pins s σ H _ I h) fun v s1 ⟨x, H1, I1, r1, q1⟩ => ?_
  obtain ⟨a, e, ⟨xs, hq⟩, q⟩ := q1
  subst e
  cases r1
  obtain ⟨its, rv, p, hz⟩ := I1.list hq
  refine wpAny_pyIter_list p.isList ?_
  refine ⟨s1.heap.objs.size, [s1.heap.objs.size], _, _, H1, rfl, I1.kept (t' := s1.toks) fun b o e => Heap.get?_push_of_some _ e, wj a _, ⟨_, Heap.get?_push_size _ rfl, rfl, rfl⟩, fun b hb => ?_, q⟩
  have e : b = s1.heap.objs.size := by simpa using hb
  subst e
  exact I1.fpOk (Nat.le_refl _) (I1.hok.fresh (Nat.le_refl _))
theorem Bj {l : Expr} {tl : TE} (hl : PE X l tl) : PI X tg l (vo X.K tl) := by
  intro pins s σ H R I h
  refine thn (hl pins s σ H _ I h) fun v s1 ⟨x, H1, I1, r1, q1⟩ => ?_
  obtain ⟨a, e, ⟨xs, hq⟩, q⟩ := q1
  subst e
  cases r1
  obtain ⟨its, rv, p, hz⟩ := I1.tuple hq
  refine wpAny_pyIter_tuple (show s1.heap.IsTuple a its.toArray from p) ?_
  refine ⟨s1.heap.objs.size, [s1.heap.objs.size], _, _, H1, rfl, I1.kept (t' := s1.toks) fun b o e => Heap.get?_push_of_some _ e, sS a _, ⟨_, Heap.get?_push_size _ rfl, rfl, rfl⟩, fun b hb => ?_, q⟩
  have e : b = s1.heap.objs.size := by simpa using hb
  subst e
  exact I1.fpOk (Nat.le_refl _) (I1.hok.fresh (Nat.le_refl _))
theorem sf {pins : List (Addr × Obj)} {σ : St} {H : Hp} {s : Shared} {R : It → Hp → Prop} {E : Value → Shared → Prop} {lo hi : Int} {t u v : Tok} {tk : Nat} (I : Inv X pins σ H s) (h1 : -(2 ^ 62) ≤ lo) (h2 : lo < 2 ^ 62) (h3 : -(2 ^ 62) ≤ hi) (h4 : hi < 2 ^ 62)
    (q : R (Itr lo (hi - lo).toNat) H) : wpAny (model X.prog X.w) X.A (pyIter (.ref s.heap.objs.size)) (PIE X pins σ tg R) E { s with heap := s.heap.push { cls := .type "range", data := .fields #[.int lo t, .int hi u, .int 1 v] }, toks := tk } := by
  refine wpAny_pyIter_range (IsRange.new ..) (small_one h1 h2 h3 h4) ?_
  have I1 : Inv X pins σ H { s with heap := s.heap.push { cls := .type "range", data := .fields #[.int lo t, .int hi u, .int 1 v] }, toks := tk } := I.kept fun b o e => Heap.get?_push_of_some _ e
  refine ⟨(s.heap.push { cls := .type "range", data := .fields #[.int lo t, .int hi u, .int 1 v] }).objs.size, [(s.heap.push { cls := .type "range", data := .fields #[.int lo t, .int hi u, .int 1 v] }).objs.size], _, _, H, rfl,
    I1.kept (t' := tk) fun b o e => Heap.get?_push_of_some _ e, sU _ lo (hi - lo).toNat, ?_, fun b hb => ?_, q⟩
  · have e1 : lo + ((0 : Nat) : Int) * 1 = lo := by simp
    have e2 : (((hi - lo).toNat : Nat) : Int) - ((0 : Nat) : Int) = Builtin.Range.rangeSize lo hi 1 := by rw [rangeSize_one]; split <;> omega
    show IsRangeIter _ _ (lo + ((0 : Nat) : Int) * 1) ((((hi - lo).toNat : Nat) : Int) - ((0 : Nat) : Int)) 1
    rw [e1, e2]
    exact Heap.get?_push_size _ rfl
  · have e : b = (s.heap.push { cls := .type "range", data := .fields #[.int lo t, .int hi u, .int 1 v] }).objs.size := by simpa using hb
    subst e
    exact I1.fpOk (Nat.le_refl _) (I1.hok.fresh (Nat.le_refl _))
def yj (ta : TA) : TI := fun σ H R => ta σ H fun vs H1 => ∃ j : Int, vs = [.int j] ∧ -(2 ^ 62) ≤ j ∧ j < 2 ^ 62 ∧ R (Itr 0 j.toNat) H1
def wM (ta : TA) : TI := fun σ H R => ta σ H fun vs H1 => ∃ i j : Int, vs = [.int i, .int j] ∧ (-(2 ^ 62) ≤ i ∧ i < 2 ^ 62 ∧ -(2 ^ 62) ≤ j ∧ j < 2 ^ 62) ∧ R (Itr i (j - i).toNat) H1
theorem eJ {a : Expr} {ta : TA} {p pos : Pos} (hg : Gl X "range") (hm : X.mg "range" = none) (ha : PA X [a] ta) (hs : starEach [a] X.env = [(false, eval a X.env)] := by rfl) : PI X tg (.Call (.Name "range" p) [a] [] pos) (yj ta) := by
  intro pins s σ H R I h
  refine Call_ (fW I hg hm boot_range (PyProof.Rows.callWith_type1 (thn (ha pos pins s σ H _ I h) fun us s1 ⟨vs, H1, I1, r1, q1⟩ => ?_) hs rfl))
  obtain ⟨j, e, q1, q2, q⟩ := q1
  subst e
  cases r1 with
  | cons r rr =>
    cases rr
    obtain ⟨t, rfl⟩ := r
    exact call_range_1 (sf I1 (by omega) (by omega) q1 q2 (by simpa using q))
theorem oE {a b : Expr} {ta : TA} {p pos : Pos} (hg : Gl X "range") (hm : X.mg "range" = none) (ha : PA X [a, b] ta) (hs : starEach [a, b] X.env = [(false, eval a X.env), (false, eval b X.env)] := by rfl) (hs2 : starEach [b] X.env = [(false, eval b X.env)] := by rfl) :
    PI X tg (.Call (.Name "range" p) [a, b] [] pos) (wM ta) := by
  intro pins s σ H R I h
  refine Call_ (fW I hg hm boot_range (PyProof.Rows.callWith_type1 (thn (ha pos pins s σ H _ I h) fun us s1 ⟨vs, H1, I1, r1, q1⟩ => ?_) (by rw [hs, hs2]) (by rw [hs2]; rfl)))
  obtain ⟨i, j, e, ⟨q1, q2, q3, q4⟩, q⟩ := q1
  subst e
  cases r1 with
  | cons r rr =>
    cases rr with
    | cons r' rr =>
      cases rr
      obtain ⟨t, rfl⟩ := r
      obtain ⟨t', rfl⟩ := r'
      exact call_range_2 (sf I1 q1 q2 q3 q4 q)
def m9 (wi : TI) (g : TG) (tb : TS) : TS := fun D σ H => wi σ H fun J H1 => ∃ W : Nat → Nat → St → Hp → Prop, (∃ m, W 0 m σ H1) ∧ ∀ i m σ H, W i m σ H →
  (J.stop i H ∧ D.nx σ H) ∨ (J.go i H ∧ ∃ N : St → Hp → Prop, (∀ σ' H', N σ' H' → ∃ m', m' < m ∧ W (i + 1) m' σ' H') ∧ ∀ x H', J.yld i H x H' → g x σ H' fun σ2 H2 => tb { D with nx := N, ct := N, bk := D.nx } σ2 H2)
def nq (fp : List Addr) (h : Heap) : List (Addr × Obj) := fp.filterMap fun b => (h.get? b).map fun o => (b, o)
theorem fU {fp : List Addr} {h : Heap} {b : Addr} {o : Obj} (hb : b ∈ fp) (e : h.get? b = some o) : (b, o) ∈ nq fp h := List.mem_filterMap.mpr ⟨b, hb, by rw [e]; rfl⟩
theorem vK {fp : List Addr} {h : Heap} {p : Addr × Obj} (hp : p ∈ nq fp h) : p.1 ∈ fp ∧ h.get? p.1 = some p.2 := by
  obtain ⟨b, hb, e⟩ := List.mem_filterMap.mp hp
  cases q : h.get? b with
  | none => rw [q] at e; cases e
  | some o =>
    rw [q] at e
    have e' : (b, o) = p := Option.some.inj e
    subst e'
    exact ⟨hb, q⟩
theorem Inv.pinned {pins : List (Addr × Obj)} {σ : St} {H : Hp} {s : Shared} {fp : List Addr} (I : Inv X pins σ H s) (hf : ∀ b ∈ fp, ou X pins H b) (ho : ∀ b ∈ fp, ∃ o, s.heap.get? b = some o ∧ ∀ v, o.data ≠ .cell v) : Inv X (pins ++ nq fp s.heap) σ H s :=
  I.pins_of fun p hp => (List.mem_append.mp hp).elim (fun z => I.pin p (List.mem_append_right _ z)) fun z => by
    obtain ⟨hb, e⟩ := vK z
    obtain ⟨f0, f1, f2, _⟩ := hf p.1 hb
    obtain ⟨o, e', d⟩ := ho p.1 hb
    rw [e] at e'; cases e'
    exact ⟨e, f0, f1, f2, d⟩
theorem Inv.unpinned {pins pl : List (Addr × Obj)} {σ : St} {H : Hp} {s : Shared} (I : Inv X (pins ++ pl) σ H s) : Inv X pins σ H s := I.pins_of fun p hp => I.pin p (List.mem_append_right _ (List.mem_append_left _ hp))
theorem dU {iter : Expr} {body : List Stmt} {wi : TI} {g : TG} {tb : TS} {pos : Pos} (hp : PassesOwn (model X.prog X.w) X.A X.env X.xe) (hc : X.calm = true) (hi : PI X tg iter wi) (hg : PG X tg g) (hb : PSs X body tb)
    (hs : ∀ x, foldedSetIterable iter X.env x = pure x := by intro _; rfl) : PS X (.For tg iter body [] pos) (m9 wi g tb) := by
  intro pins s σ H D I h
  refine wpAny_For (thn (hi pins s σ H _ I h) fun v s1 h1 => thn h1 fun itv s2 h2 => ?_) hs
  obtain ⟨it, fp, tn, J, H2, e, I2, T, st2, f2, W, ⟨m0, w0⟩, turn⟩ := h2
  subst e
  have stat : ∀ {H' : Hp}, (∀ b ∈ fp, H' b = none) → ∀ b ∈ fp, ou X pins H' b := fun hn b hb => ⟨hn b hb, (f2 b hb).2⟩
  refine codeAny_forLoop_any (fun n s' => ∃ i σ' H', Inv X pins σ' H' s' ∧ tn i s'.heap ∧ (∀ b ∈ fp, H' b = none) ∧ W i n σ' H') ?_ m0 ⟨0, σ, H2, I2, st2, fun b hb => (f2 b hb).1, w0⟩
  rintro n s3 ⟨i, σ3, H3, I3, st3, fr3, w3⟩
  rcases turn i n σ3 H3 w3 with ⟨stop, qn⟩ | ⟨go, N, hN, step⟩
  · refine wpAny_passesOwn hp (thn (T.done X rfl rfl rfl hc i pins s3 σ3 H3 X.xe I3 (stat fr3) st3 stop) fun r s4 ⟨hr, I4⟩ => ?_)
    subst hr
    exact wpAny_execs_nil ⟨σ3, H3, I4, qn⟩
  · refine wpAny_passesOwn hp (thn (T.item X rfl rfl rfl hc i pins s3 σ3 H3 X.xe I3 (stat fr3) st3 go) fun r s4 ⟨u, hr, h4⟩ => ?_)
    subst hr
    refine wpAny_passesOwn hp (thn h4 fun _ s5 ⟨x, H5, I5, r5, y5, st5, fr5⟩ => ?_)
    have I5' := I5.pinned (stat fr5) (T.obj _ _ st5)
    refine wpAny_passesOwn hp (thn (hg _ s5 σ3 H5 x u _ I5' r5 (step x H5 y5)) fun _ s6 ⟨σ6, H6, I6, q6⟩ => ?_)
    refine wpAny_passesOwn hp (thn (hb _ s6 σ6 H6 _ I6 q6) fun f s7 q7 => ?_)
    have again : ∀ {σ7 : St} {H7 : Hp}, Inv X (pins ++ nq fp s5.heap) σ7 H7 s7 → N σ7 H7 → ∃ m, m < n ∧ ∃ i σ' H', Inv X pins σ' H' s7 ∧ tn i s7.heap ∧ (∀ b ∈ fp, H' b = none) ∧ W i m σ' H' := fun {σ7 H7} I7 n7 => by
      obtain ⟨m', hm, w7⟩ := hN σ7 H7 n7
      refine ⟨m', hm, i + 1, σ7, H7, I7.unpinned, T.keep _ _ _ st5 fun b hb o e => (I7.pin (b, o) (List.mem_append_right _ (List.mem_append_right _ (fU hb e)))).1, fun b hb => ?_, w7⟩
      obtain ⟨o, e, d⟩ := T.obj _ _ st5 b hb
      exact (I7.pin (b, o) (List.mem_append_right _ (List.mem_append_right _ (fU hb e)))).2.1
    cases f with
    | next => obtain ⟨σ7, H7, I7, n7⟩ := q7; exact again I7 n7
    | cont => obtain ⟨σ7, H7, I7, n7⟩ := q7; exact again I7 n7
    | brk => obtain ⟨σ7, H7, I7, q7⟩ := q7; exact ⟨σ7, H7, I7.unpinned, q7⟩
    | ret v => obtain ⟨x7, σ7, H7, I7, r7, q7⟩ := q7; exact ⟨x7, σ7, H7, I7.unpinned, r7, q7⟩
end
theorem hE {K : PySem.W.Frag} {a : Addr} {xs : List V} {g : TG} {tb : TS} {D : gP} {σ : St} {H : Hp} (Pv : Nat → St → Hp → Prop) (h0 : Pv 0 σ H) (hl : ∀ i σ H, i ≤ xs.length → Pv i σ H → SqL K H a xs)
    (hs : ∀ i x σ H, xs[i]? = some x → Pv i σ H → g x σ H fun σ2 H2 => tb { D with nx := Pv (i + 1), ct := Pv (i + 1), bk := D.nx } σ2 H2) (hd : ∀ σ H, Pv xs.length σ H → D.nx σ H) :
    ∃ W : Nat → Nat → St → Hp → Prop, (∃ m, W 0 m σ H) ∧ ∀ i m σ H, W i m σ H →
      ((Itl K a).stop i H ∧ D.nx σ H) ∨ ((Itl K a).go i H ∧ ∃ N : St → Hp → Prop, (∀ σ' H', N σ' H' → ∃ m', m' < m ∧ W (i + 1) m' σ' H') ∧ ∀ x H', (Itl K a).yld i H x H' → g x σ H' fun σ2 H2 => tb { D with nx := N, ct := N, bk := D.nx } σ2 H2) := by
  refine ⟨fun i m σ H => m = xs.length - i ∧ i ≤ xs.length ∧ Pv i σ H, ⟨xs.length, by simp, Nat.zero_le _, h0⟩, ?_⟩
  rintro i m σ H ⟨rfl, hi, p⟩
  have q := hl i σ H hi p
  by_cases hlt : i < xs.length
  · refine .inr ⟨⟨xs, xs[i], q, by simp [hlt]⟩, Pv (i + 1), fun σ' H' p' => ⟨xs.length - (i + 1), by omega, rfl, hlt, p'⟩, fun x H' y => ?_⟩
    obtain ⟨e, y⟩ := y
    subst e
    exact hs i x σ _ (y xs q) p
  · have e : i = xs.length := by omega
    subst e
    exact .inl ⟨⟨xs, q, Nat.le_refl _⟩, hd σ H p⟩
theorem zq {K : PySem.W.Frag} {a : Addr} {xs : List V} {g : TG} {tb : TS} {D : gP} {σ : St} {H : Hp} (Pv : Nat → St → Hp → Prop) (h0 : Pv 0 σ H) (hl : ∀ i σ H, i ≤ xs.length → Pv i σ H → SqT K H a xs)
    (hs : ∀ i x σ H, xs[i]? = some x → Pv i σ H → g x σ H fun σ2 H2 => tb { D with nx := Pv (i + 1), ct := Pv (i + 1), bk := D.nx } σ2 H2) (hd : ∀ σ H, Pv xs.length σ H → D.nx σ H) :
    ∃ W : Nat → Nat → St → Hp → Prop, (∃ m, W 0 m σ H) ∧ ∀ i m σ H, W i m σ H →
      ((Itt K a).stop i H ∧ D.nx σ H) ∨ ((Itt K a).go i H ∧ ∃ N : St → Hp → Prop, (∀ σ' H', N σ' H' → ∃ m', m' < m ∧ W (i + 1) m' σ' H') ∧ ∀ x H', (Itt K a).yld i H x H' → g x σ H' fun σ2 H2 => tb { D with nx := N, ct := N, bk := D.nx } σ2 H2) := by
  refine ⟨fun i m σ H => m = xs.length - i ∧ i ≤ xs.length ∧ Pv i σ H, ⟨xs.length, by simp, Nat.zero_le _, h0⟩, ?_⟩
  rintro i m σ H ⟨rfl, hi, p⟩
  have q := hl i σ H hi p
  by_cases hlt : i < xs.length
  · refine .inr ⟨⟨xs, xs[i], q, by simp [hlt]⟩, Pv (i + 1), fun σ' H' p' => ⟨xs.length - (i + 1), by omega, rfl, hlt, p'⟩, fun x H' y => ?_⟩
    obtain ⟨e, y⟩ := y
    subst e
    exact hs i x σ _ (y xs q) p
  · have e : i = xs.length := by omega
    subst e
    exact .inl ⟨⟨xs, q, Nat.le_refl _⟩, hd σ H p⟩
theorem fS {lo : Int} {n : Nat} {g : TG} {tb : TS} {D : gP} {σ : St} {H : Hp} (Pv : Nat → St → Hp → Prop) (h0 : Pv 0 σ H)
    (hs : ∀ i σ H, i < n → Pv i σ H → g (.int (lo + i)) σ H fun σ2 H2 => tb { D with nx := Pv (i + 1), ct := Pv (i + 1), bk := D.nx } σ2 H2) (hd : ∀ σ H, Pv n σ H → D.nx σ H) :
    ∃ W : Nat → Nat → St → Hp → Prop, (∃ m, W 0 m σ H) ∧ ∀ i m σ H, W i m σ H →
      ((Itr lo n).stop i H ∧ D.nx σ H) ∨ ((Itr lo n).go i H ∧ ∃ N : St → Hp → Prop, (∀ σ' H', N σ' H' → ∃ m', m' < m ∧ W (i + 1) m' σ' H') ∧ ∀ x H', (Itr lo n).yld i H x H' → g x σ H' fun σ2 H2 => tb { D with nx := N, ct := N, bk := D.nx } σ2 H2) := by
  refine ⟨fun i m σ H => m = n - i ∧ i ≤ n ∧ Pv i σ H, ⟨n, by simp, Nat.zero_le _, h0⟩, ?_⟩
  rintro i m σ H ⟨rfl, hi, p⟩
  by_cases hlt : i < n
  · refine .inr ⟨hlt, Pv (i + 1), fun σ' H' p' => ⟨n - (i + 1), by omega, rfl, hlt, p'⟩, fun x H' y => ?_⟩
    obtain ⟨e, y⟩ := y
    subst e y
    exact hs i σ _ hlt p
  · have e : i = n := by omega
    subst e
    exact .inl ⟨Nat.le_refl _, hd σ H p⟩
end L2
namespace L2
open PySem PySem.Spec PyProof.Rows
abbrev R2 := V → V → Hp → VK → Prop
def OpR (X : Cx) (f : Value → Value → Sem Value) (r : R2) : Prop :=
  ∀ (pins : List (Addr × Obj)) (s : Shared) (σ : St) (H : Hp) (x y : V) (v u : Value) (Q : VK), Inv X pins σ H s → RelV x v → RelV y u → r x y H Q →
    wpAny (model X.prog X.w) X.A (f v u) (EP X pins σ Q) X.xe s
def UnR (X : Cx) (f : Value → Sem Value) (r : V → Hp → VK → Prop) : Prop :=
  ∀ (pins : List (Addr × Obj)) (s : Shared) (σ : St) (H : Hp) (x : V) (v : Value) (Q : VK), Inv X pins σ H s → RelV x v → r x H Q →
    wpAny (model X.prog X.w) X.A (f v) (EP X pins σ Q) X.xe s
def CallR (X : Cx) (f : Value) (r : List V → Hp → VK → Prop) : Prop :=
  ∀ (pins : List (Addr × Obj)) (s : Shared) (σ : St) (H : Hp) (xs : List V) (us : List Value) (Q : VK), Inv X pins σ H s → Vals xs us → r xs H Q →
    wpAny (model X.prog X.w) X.A (call f us) (EP X pins σ Q) X.xe s
def CT (X : Cx) (r : V → Hp → (Bool → Hp → Prop) → Prop) : Prop :=
  ∀ (pins : List (Addr × Obj)) (s : Shared) (σ : St) (H : Hp) (x : V) (v : Value) (Q : Bool → Hp → Prop), Inv X pins σ H s → RelV x v → r x H Q →
    wpAny (model X.prog X.w) X.A (truthy v) (TP X pins σ Q) X.xe s
def tOp (r : R2) (ta tb : TE) : TE := fun σ H Q => ta σ H fun x H1 => tb σ H1 fun y H2 => r x y H2 Q
def tUn (r : V → Hp → VK → Prop) (ta : TE) : TE := fun σ H Q => ta σ H fun x H1 => r x H1 Q
def rI (C : Int → Int → Prop) (g : Int → Int → V) : R2 := fun x y H Q => ∃ i j, x = .int i ∧ y = .int j ∧ C i j ∧ Q (g i j) H
def rI0 (g : Int → Int → V) : R2 := fun x y H Q => ∃ i j, x = .int i ∧ y = .int j ∧ Q (g i j) H
def rU (g : Int → V) : V → Hp → VK → Prop := fun x H Q => ∃ i, x = .int i ∧ Q (g i) H
section
variable {X : Cx} {a b c : Expr} {ta tb tc : TE} {pos : Pos}
theorem Ax (ha : PE X a ta) (hb : PE X b tb) {pins : List (Addr × Obj)} {s : Shared} {σ : St} {H : Hp} {R : V → V → Hp → Prop} (I : Inv X pins σ H s)
    (h : ta σ H fun x H1 => tb σ H1 fun y H2 => R x y H2) {Q : Value → Shared → Prop} {f : Value → Value → Sem Value}
    (hf : ∀ v u s2 x y H2, Inv X pins σ H2 s2 → RelV x v → RelV y u → R x y H2 → wpAny (model X.prog X.w) X.A (f v u) Q X.xe s2) :
    wpAny (model X.prog X.w) X.A (eval a X.env) (fun v s₁ => wpAny (model X.prog X.w) X.A (eval b X.env) (fun u s₂ => wpAny (model X.prog X.w) X.A (f v u) Q X.xe s₂) X.xe s₁) X.xe s := by
  refine thn (ha pins s σ H _ I h) fun v s1 ⟨x, H1, I1, r1, q1⟩ => ?_
  refine thn (hb pins s1 σ H1 _ I1 q1) fun u s2 ⟨y, H2, I2, r2, q2⟩ => ?_
  exact hf v u s2 x y H2 I2 r1 r2 q2
theorem aq {op : Operator} {r : R2} (ho : OpR X (binaryOp op) r) (ha : PE X a ta) (hb : PE X b tb) : PE X (.BinOp a op b pos) (tOp r ta tb) := by
  intro pins s σ H Q I h
  exact wpAny_BinOp (Ax ha hb I h fun v u s2 x y H2 I2 rx ry q => ho pins s2 σ H2 x y v u Q I2 rx ry q)
theorem rH {op : UnaryOp} {r : V → Hp → VK → Prop} (ho : UnR X (unaryOp op) r) (ha : PE X a ta) : PE X (.UnaryOp op a pos) (tUn r ta) := by
  intro pins s σ H Q I h
  exact UnaryOp_ (thn (ha pins s σ H _ I h) fun v s1 ⟨x, H1, I1, r1, q1⟩ => ho pins s1 σ H1 x v Q I1 r1 q1)
theorem opI {f : Value → Value → Sem Value} {C : Int → Int → Prop} {g : Int → Int → Int}
    (rule : ∀ (i j : Int) (t u : Tok) (s : Shared) (Q : Value → Shared → Prop) (E : Value → Shared → Prop), C i j → Q (.int (g i j) s.toks) { s with toks := s.toks + 1 } → wpAny (model X.prog X.w) X.A (f (.int i t) (.int j u)) Q E s) :
    OpR X f (rI C fun i j => .int (g i j)) := by
  intro pins s σ H x y v u Q I rx ry h
  obtain ⟨i, j, rfl, rfl, hc, q⟩ := h
  obtain ⟨t, rfl⟩ := rx
  obtain ⟨t', rfl⟩ := ry
  exact rule i j t t' s _ _ hc ⟨.int (g i j), H, I.tok _, ⟨_, rfl⟩, q⟩
theorem Cr {f : Value → Value → Sem Value} {g : Int → Int → Int}
    (rule : ∀ (i j : Int) (t u : Tok) (s : Shared) (Q : Value → Shared → Prop) (E : Value → Shared → Prop), Q (.int (g i j) s.toks) { s with toks := s.toks + 1 } → wpAny (model X.prog X.w) X.A (f (.int i t) (.int j u)) Q E s) :
    OpR X f (rI0 fun i j => .int (g i j)) := by
  intro pins s σ H x y v u Q I rx ry h
  obtain ⟨i, j, rfl, rfl, q⟩ := h
  obtain ⟨t, rfl⟩ := rx
  obtain ⟨t', rfl⟩ := ry
  exact rule i j t t' s _ _ ⟨.int (g i j), H, I.tok _, ⟨_, rfl⟩, q⟩
theorem As {f : Value → Value → Sem Value} {g : Int → Int → Bool}
    (rule : ∀ (i j : Int) (t u : Tok) (s : Shared) (Q : Value → Shared → Prop) (E : Value → Shared → Prop), Q (.bool (g i j)) s → wpAny (model X.prog X.w) X.A (f (.int i t) (.int j u)) Q E s) :
    OpR X f (rI0 fun i j => .bl (g i j)) := by
  intro pins s σ H x y v u Q I rx ry h
  obtain ⟨i, j, rfl, rfl, q⟩ := h
  obtain ⟨t, rfl⟩ := rx
  obtain ⟨t', rfl⟩ := ry
  exact rule i j t t' s _ _ ⟨.bl (g i j), H, I, rfl, q⟩
def Ai (i j : Int) : Prop := 0 < j ∧ j < 1073741824
def A6 (i j : Int) : Prop := 0 ≤ j ∧ j ≤ 1000000 ∧ i.natAbs < 2 ^ 64
def CMul (i j : Int) : Prop := (-(2 ^ 64) < i ∧ i < 2 ^ 64) ∨ (-(2 ^ 64) < j ∧ j < 2 ^ 64)
theorem CMul.ok {i j : Int} (h : CMul i j) : IntMulOk i j := by
  rcases h with ⟨h1, h2⟩ | ⟨h1, h2⟩
  · exact .of_left (intBits_le_64 h1 h2)
  · exact .of_right (intBits_le_64 h1 h2)
theorem Bq : OpR X (binaryOp .Add) (rI0 fun i j => .int (i + j)) := Cr fun _ _ _ _ _ _ _ q => add_int q
theorem BH : OpR X (binaryOp .Sub) (rI0 fun i j => .int (i - j)) := Cr fun _ _ _ _ _ _ _ q => sub_int q
theorem Ag : OpR X (binaryOp .Mult) (rI CMul fun i j => .int (i * j)) := opI fun _ _ _ _ _ _ _ hc q => mul_int q hc.ok
theorem yB : OpR X (binaryOp .FloorDiv) (rI Ai fun i j => .int (i / j)) := opI fun i j _ _ _ _ _ hc q => by
  have h1 : (0 : Int) < j := hc.1
  have h2 : j < 1073741824 := hc.2
  exact floordiv_int (by omega) (by rw [Int.fdiv_eq_ediv_of_nonneg i (by omega)]; exact q) (.inl (PyProof.noPylong_small (by omega)))
theorem BJ : OpR X (binaryOp .Mod) (rI (fun _ j => 0 < j) fun i j => .int (i % j)) := opI fun i j _ _ _ _ _ hc q => by
  have h1 : (0 : Int) < j := hc
  exact mod_int' (by omega) (by rw [Int.fmod_eq_emod_of_nonneg i (by omega)]; exact q)
theorem AB : OpR X (binaryOp .Pow) (rI A6 fun i j => .int (i ^ j.toNat)) := opI fun _ _ _ _ _ _ _ hc q => pow_int_small hc.1 hc.2.1 hc.2.2 q
theorem unI {f : Value → Sem Value} {g : Int → Int}
    (rule : ∀ (i : Int) (t : Tok) (s : Shared) (Q : Value → Shared → Prop) (E : Value → Shared → Prop), Q (.int (g i) s.toks) { s with toks := s.toks + 1 } → wpAny (model X.prog X.w) X.A (f (.int i t)) Q E s) :
    UnR X f (rU fun i => .int (g i)) := by
  intro pins s σ H x v Q I rx h
  obtain ⟨i, rfl, q⟩ := h
  obtain ⟨t, rfl⟩ := rx
  exact rule i t s _ _ ⟨.int (g i), H, I.tok _, ⟨_, rfl⟩, q⟩
theorem BD : UnR X (unaryOp .USub) (rU fun i => .int (-i)) := unI fun _ _ _ _ _ q => neg_int q
end
def BG : V → V → Bool
  | .non, .non => true | .non, .int _ => true | .int _, .non => true | .non, .bl _ => true | .bl _, .non => true | .non, .str _ => true | .str _, .non => true
  | .int _, .int _ => true | .bl _, .bl _ => true | .str _, .str _ => true | .byt _, .byt _ => true
  | .int _, .str _ => true | .str _, .int _ => true | .bl _, .str _ => true | .str _, .bl _ => true
  | _, _ => false
def rEq : R2 := fun x y H Q => BG x y = true ∧ Q (.bl (decide (x = y))) H
def rNe : R2 := fun x y H Q => BG x y = true ∧ Q (.bl (!decide (x = y))) H
theorem uy {i j : Int} : decide (V.int i = V.int j) = (i == j) := by
  rw [Bool.eq_iff_iff]
  simp
theorem xV {i j : Bool} : decide (V.bl i = V.bl j) = (i == j) := by
  rw [Bool.eq_iff_iff]
  simp
theorem uE {i j : Str} : decide (V.str i = V.str j) = (i == j) := by
  rw [Bool.eq_iff_iff]
  simp
theorem u0 {i j : Array UInt8} : decide (V.byt i = V.byt j) = (i.toList == j.toList) := by
  rw [Bool.eq_iff_iff]
  cases i
  cases j
  simp
section
variable {X : Cx} {a b c : Expr} {ta tb tc : TE} {pos : Pos}
theorem bf {pins : List (Addr × Obj)} {σ : St} {H : Hp} {s : Shared} {Q : VK} {k k' : Bool} (I : Inv X pins σ H s) (q : Q (.bl k) H) (e : k = k') : EP X pins σ Q (.bool k') s := by
  subst e
  exact ⟨.bl k, H, I, rfl, q⟩
theorem B9 : OpR X (compareOp .Eq) rEq := by
  intro pins s σ H x y v u Q I rx ry h
  obtain ⟨hs, q⟩ := h
  cases x with
  | non =>
    cases rx
    cases y with
    | non => cases ry; exact PySem.EqNone.eq_none_none (bf I q (by simp))
    | bl j => cases ry; exact PySem.EqNone.eq_none_bool (bf I q (by simp))
    | int j => obtain ⟨t', rfl⟩ := ry; exact PySem.EqNone.eq_none_int (bf I q (by simp))
    | str j => obtain ⟨t', rfl⟩ := ry; exact PySem.EqNone.eq_none_str (bf I q (by simp))
    | _ => exact absurd (show false = true from hs) Bool.false_ne_true
  | bl i =>
    cases rx
    cases y with
    | non => cases ry; exact PySem.EqNone.eq_bool_none (bf I q (by simp))
    | bl j => cases ry; exact eq_bool (bf I q xV)
    | str j => obtain ⟨t', rfl⟩ := ry; exact PySem.EqMixed.eq_bool_str (bf I q (by simp))
    | _ => exact absurd (show false = true from hs) Bool.false_ne_true
  | int i =>
    obtain ⟨t, rfl⟩ := rx
    cases y with
    | non => cases ry; exact PySem.EqNone.eq_int_none (bf I q (by simp))
    | int j => obtain ⟨t', rfl⟩ := ry; exact eq_int (bf I q uy)
    | str j => obtain ⟨t', rfl⟩ := ry; exact PySem.EqMixed.eq_int_str (bf I q (by simp))
    | _ => exact absurd (show false = true from hs) Bool.false_ne_true
  | str i =>
    obtain ⟨t, rfl⟩ := rx
    cases y with
    | non => cases ry; exact PySem.EqNone.eq_str_none (bf I q (by simp))
    | bl j => cases ry; exact PySem.EqMixed.eq_str_bool (bf I q (by simp))
    | int j => obtain ⟨t', rfl⟩ := ry; exact PySem.EqMixed.eq_str_int (bf I q (by simp))
    | str j => obtain ⟨t', rfl⟩ := ry; exact eq_str (bf I q uE)
    | _ => exact absurd (show false = true from hs) Bool.false_ne_true
  | byt i =>
    obtain ⟨t, rfl⟩ := rx
    cases y with
    | byt j => obtain ⟨t', rfl⟩ := ry; exact PySem.W.eq_bytes (bf I q u0)
    | _ => exact absurd (show false = true from hs) Bool.false_ne_true
  | _ => cases y <;> exact absurd (show false = true from hs) Bool.false_ne_true
theorem BQ : OpR X (compareOp .NotEq) rNe := by
  intro pins s σ H x y v u Q I rx ry h
  obtain ⟨hs, q⟩ := h
  cases x with
  | non =>
    cases rx
    cases y with
    | non => cases ry; exact PySem.EqNone.ne_none_none (bf I q (by simp))
    | bl j => cases ry; exact PySem.EqNone.ne_none_bool (bf I q (by simp))
    | int j => obtain ⟨t', rfl⟩ := ry; exact PySem.EqNone.ne_none_int (bf I q (by simp))
    | str j => obtain ⟨t', rfl⟩ := ry; exact PySem.EqNone.ne_none_str (bf I q (by simp))
    | _ => exact absurd (show false = true from hs) Bool.false_ne_true
  | bl i =>
    cases rx
    cases y with
    | non => cases ry; exact PySem.EqNone.ne_bool_none (bf I q (by simp))
    | bl j => cases ry; exact ne_bool (bf I q (congrArg not xV))
    | str j => obtain ⟨t', rfl⟩ := ry; exact PySem.EqMixed.ne_bool_str (bf I q (by simp))
    | _ => exact absurd (show false = true from hs) Bool.false_ne_true
  | int i =>
    obtain ⟨t, rfl⟩ := rx
    cases y with
    | non => cases ry; exact PySem.EqNone.ne_int_none (bf I q (by simp))
    | int j => obtain ⟨t', rfl⟩ := ry; exact ne_int (bf I q (congrArg not uy))
    | str j => obtain ⟨t', rfl⟩ := ry; exact PySem.EqMixed.ne_int_str (bf I q (by simp))
    | _ => exact absurd (show false = true from hs) Bool.false_ne_true
  | str i =>
    obtain ⟨t, rfl⟩ := rx
    cases y with
    | non => cases ry; exact PySem.EqNone.ne_str_none (bf I q (by simp))
    | bl j => cases ry; exact PySem.EqMixed.ne_str_bool (bf I q (by simp))
    | int j => obtain ⟨t', rfl⟩ := ry; exact PySem.EqMixed.ne_str_int (bf I q (by simp))
    | str j => obtain ⟨t', rfl⟩ := ry; exact ne_str (bf I q (congrArg not uE))
    | _ => exact absurd (show false = true from hs) Bool.false_ne_true
  | byt i =>
    obtain ⟨t, rfl⟩ := rx
    cases y with
    | byt j => obtain ⟨t', rfl⟩ := ry; exact PySem.W.ne_bytes (bf I q (congrArg not u0))
    | _ => exact absurd (show false = true from hs) Bool.false_ne_true
  | _ => cases y <;> exact absurd (show false = true from hs) Bool.false_ne_true
theorem B_ : OpR X (compareOp .Lt) (rI0 fun i j => .bl (decide (i < j))) := As fun _ _ _ _ _ _ _ q => lt_int q
theorem Ck : OpR X (compareOp .LtE) (rI0 fun i j => .bl (decide (i ≤ j))) := As fun _ _ _ _ _ _ _ q => le_int q
theorem BZ : OpR X (compareOp .Gt) (rI0 fun i j => .bl (decide (j < i))) := As fun _ _ _ _ _ _ _ q => gt_int q
theorem wk : OpR X (compareOp .Lt) (fun x y H Q => ∃ i j, x = .str i ∧ y = .str j ∧ Q (.bl (decide (i.cps.toList < j.cps.toList))) H) := by
  intro pins s σ H x y v u Q I rx ry h
  obtain ⟨i, j, rfl, rfl, q⟩ := h
  obtain ⟨t, rfl⟩ := rx
  obtain ⟨t', rfl⟩ := ry
  exact lt_str (bf I q rfl)
theorem vC : OpR X (compareOp .In) (fun x y H Q => ∃ i j, x = .str i ∧ y = .str j ∧ Q (.bl (!(Builtin.Str.occurrences j i 0 j.length 1).isEmpty)) H) := by
  intro pins s σ H x y v u Q I rx ry h
  obtain ⟨i, j, rfl, rfl, q⟩ := h
  obtain ⟨t, rfl⟩ := rx
  obtain ⟨t', rfl⟩ := ry
  exact in_str (bf I q rfl)
theorem OpR.or {f : Value → Value → Sem Value} {r r' : R2} (h : OpR X f r) (h' : OpR X f r') : OpR X f (fun x y H Q => r x y H Q ∨ r' x y H Q) := by
  intro pins s σ H x y v u Q I rx ry q
  rcases q with q | q
  · exact h pins s σ H x y v u Q I rx ry q
  · exact h' pins s σ H x y v u Q I rx ry q
theorem bn (b : Expr) {op : CmpOp} (h : op ≠ .In := by decide) (h2 : op ≠ .NotIn := by decide) : behindInMarks op b = false := by
  have e1 : (op == CmpOp.In) = false := by cases op <;> first | rfl | exact absurd rfl h
  have e2 : (op == CmpOp.NotIn) = false := by cases op <;> first | rfl | exact absurd rfl h2
  cases b <;> simp [behindInMarks, e1, e2]
theorem eD {op : CmpOp} {r : R2} (ho : OpR X (compareOp op) r) (ha : PE X a ta) (hb : PE X b tb) (hm : behindInMarks op b = false) : PE X (.Compare a [op] [b] pos) (tOp r ta tb) := by
  intro pins s σ H Q I h
  exact wpAny_Compare1 (Ax ha hb I h fun v u s2 x y H2 I2 rx ry q => ho pins s2 σ H2 x y v u Q I2 rx ry q) hm
def CS (K : PySem.W.Frag) (x : V) (H : Hp) (k : Bool) : Prop :=
  match x with
  | .non => k = false
  | .bl b => k = b
  | .int i => k = (i != 0)
  | .str y => y.length ≤ sizeLine ∧ k = ((y.length : Int) != 0)
  | .byt y => y.size ≤ sizeLine ∧ k = ((y.size : Int) != 0)
  | .ref p => (∃ xs, SqL K H p xs ∧ k = !xs.isEmpty) ∨ (∃ xs, SqT K H p xs ∧ k = !xs.isEmpty) ∨ ∃ kvs, H p = some (.dK kvs) ∧ k = !kvs.isEmpty
  | _ => False
theorem tH {κ : Type} {kvs : List (κ × V)} {vs : List (κ × Value)} (r : KV kvs vs) : (!vs.isEmpty) = !kvs.isEmpty := by
  cases r <;> rfl
theorem mS {xs : List V} {its : List Value} (r : Vals xs its) : (!its.toArray.isEmpty) = !xs.isEmpty := by
  cases r <;> simp
theorem m4 : (sizeLine : Nat) < 2 ^ 63 := by rw [sizeLine_eq]; decide
theorem CI : CT X (fun x H Q => ∃ k, CS X.K x H k ∧ Q k H) := by
  intro pins s σ H x v Q I rx h
  obtain ⟨k, e, q⟩ := h
  have hl := m4
  have hs : sizeLine = 16777216 := sizeLine_eq
  cases x with
  | non =>
    cases rx
    have e' : k = false := e
    subst e'
    exact truthy_none ⟨H, I, q⟩
  | bl b =>
    cases rx
    have e' : k = b := e
    subst e'
    exact wpAny_truthy_bool ⟨H, I, q⟩
  | int i =>
    obtain ⟨t, rfl⟩ := rx
    have e' : k = (i != 0) := e
    subst e'
    exact PySem.P.truthy_int ⟨H, I, q⟩
  | str y =>
    obtain ⟨t, rfl⟩ := rx
    obtain ⟨hy, e'⟩ : y.length ≤ sizeLine ∧ k = ((y.length : Int) != 0) := e
    subst e'
    exact PySem.P.truthy_str (by omega) ⟨H, I.tok _, q⟩
  | byt y =>
    obtain ⟨t, rfl⟩ := rx
    obtain ⟨hy, e'⟩ : y.size ≤ sizeLine ∧ k = ((y.size : Int) != 0) := e
    subst e'
    exact PySem.W.truthy_bytes (by omega) ⟨H, I.tok _, q⟩
  | ref p =>
    cases rx
    have e' : (∃ xs, SqL X.K H p xs ∧ k = !xs.isEmpty) ∨ (∃ xs, SqT X.K H p xs ∧ k = !xs.isEmpty) ∨ ∃ kvs, H p = some (.dK kvs) ∧ k = !kvs.isEmpty := e
    rcases e' with ⟨xs, hx, e'⟩ | ⟨xs, hx, e'⟩ | ⟨kvs, hx, e'⟩
    · subst e'
      obtain ⟨its, r, pl, hz⟩ := I.list hx
      have hlen := r.length
      exact wpAny_truthy_list pl.isList (by simp only [List.size_toArray]; omega) ⟨H, I.tok _, by rw [mS r]; exact q⟩
    · subst e'
      obtain ⟨its, r, pl, hz⟩ := I.tuple hx
      have hlen := r.length
      exact truthy_tuple pl (by simp only [List.size_toArray]; omega) ⟨H, I.tok _, by rw [mS r]; exact q⟩
    · subst e'
      obtain ⟨hz, hS, vs, r, m⟩ : kvs.length ≤ sizeLine ∧ (p == sysModules) = false ∧ ∃ vs, KV kvs vs ∧ s.heap.DictOf (cJ X.prog X.w) p vs := I.hok p _ hx
      have hlen : kvs.length = vs.length := Paired.length r
      exact wpAny_truthy_dict hS m (by omega) ⟨H, I.tok _, by rw [tH r]; exact q⟩
  | _ => exact (show False from e).elim
theorem sX : OpR X (binaryOp .Add) (fun x y H Q => ∃ i j, x = .str i ∧ y = .str j ∧ i.length + j.length ≤ sizeLine ∧ Q (.str (i ++ j)) H) := by
  intro pins s σ H x y v u Q I rx ry h
  obtain ⟨i, j, rfl, rfl, hz, q⟩ := h
  obtain ⟨t, rfl⟩ := rx
  obtain ⟨t', rfl⟩ := ry
  exact add_str (fun t' tk => ⟨.str (i ++ j), H, I.tok _, ⟨_, rfl⟩, q⟩) hz
theorem eh {x : V} {us : List Value} (r : Vals [x] us) : ∃ u, us = [u] ∧ RelV x u := by
  cases r with
  | cons r1 r2 => cases r2; exact ⟨_, rfl, r1⟩
theorem uR {x y : V} {us : List Value} (r : Vals [x, y] us) : ∃ u w', us = [u, w'] ∧ RelV x u ∧ RelV y w' := by
  cases r with
  | cons r1 r2 =>
    cases r2 with
    | cons r3 r4 => cases r4; exact ⟨_, _, rfl, r1, r3⟩
theorem vn (hc : X.calm = true) : CallR X (.builtin "max") (fun xs H Q => ∃ i j, xs = [.int i, .int j] ∧ Q (.int (if j > i then j else i)) H) := by
  intro pins s σ H xs us Q I r h
  obtain ⟨i, j, rfl, q⟩ := h
  obtain ⟨u, w', rfl, ⟨t, rfl⟩, ⟨t', rfl⟩⟩ := uR r
  refine max_two_ints (I.ok.hd hc) fun h' tk k => ⟨_, H, I.kept k, ?_, q⟩
  by_cases hj : j > i
  · rw [if_pos hj, if_pos hj]; exact ⟨_, rfl⟩
  · rw [if_neg hj, if_neg hj]; exact ⟨_, rfl⟩
theorem vX (hc : X.calm = true) : CallR X (.builtin "min") (fun xs H Q => ∃ i j, xs = [.int i, .int j] ∧ Q (.int (if j < i then j else i)) H) := by
  intro pins s σ H xs us Q I r h
  obtain ⟨i, j, rfl, q⟩ := h
  obtain ⟨u, w', rfl, ⟨t, rfl⟩, ⟨t', rfl⟩⟩ := uR r
  refine min_two_ints (I.ok.hd hc) fun h' tk k => ⟨_, H, I.kept k, ?_, q⟩
  by_cases hj : j < i
  · rw [if_pos hj, if_pos hj]; exact ⟨_, rfl⟩
  · rw [if_neg hj, if_neg hj]; exact ⟨_, rfl⟩
theorem vW : CallR X (.type "int") (fun xs H Q => (∃ i, xs = [.int i] ∧ Q (.int i) H) ∨ ∃ k, xs = [.bl k] ∧ Q (.int (if k then 1 else 0)) H) := by
  intro pins s σ H xs us Q I r h
  rcases h with ⟨i, rfl, q⟩ | ⟨k, rfl, q⟩
  · obtain ⟨u, rfl, t, rfl⟩ := eh r
    exact call_int_int ⟨.int i, H, I, ⟨_, rfl⟩, q⟩
  · obtain ⟨u, rfl, r1⟩ := eh r
    cases r1
    exact call_int_bool ⟨.int (if k then 1 else 0), H, I.tok _, ⟨_, rfl⟩, q⟩
def CC (K : PySem.W.Frag) (x : V) (H : Hp) (n : Nat) : Prop :=
  match x with
  | .str y => y.length ≤ sizeLine ∧ n = y.length
  | .byt y => y.size ≤ sizeLine ∧ n = y.size
  | .ref p => (∃ xs, SqL K H p xs ∧ n = xs.length) ∨ ∃ xs, SqT K H p xs ∧ n = xs.length
  | _ => False
theorem wz : CallR X (.builtin "len") (fun xs H Q => ∃ x n, xs = [x] ∧ CC X.K x H n ∧ Q (.int n) H) := by
  intro pins s σ H xs us Q I r h
  obtain ⟨x, n, rfl, e, q⟩ := h
  obtain ⟨u, rfl, rx⟩ := eh r
  have hl := m4
  have hs : sizeLine = 16777216 := sizeLine_eq
  cases x with
  | str y =>
    obtain ⟨t, rfl⟩ := rx
    obtain ⟨hy, e'⟩ : y.length ≤ sizeLine ∧ n = y.length := e
    subst e'
    exact len_str (by omega) ⟨.int _, H, I.tok _, ⟨_, rfl⟩, q⟩
  | byt y =>
    obtain ⟨t, rfl⟩ := rx
    obtain ⟨hy, e'⟩ : y.size ≤ sizeLine ∧ n = y.size := e
    subst e'
    exact PySem.W.len_bytes (by omega) ⟨.int _, H, I.tok _, ⟨_, rfl⟩, q⟩
  | ref p =>
    cases rx
    have e' : (∃ xs, SqL X.K H p xs ∧ n = xs.length) ∨ ∃ xs, SqT X.K H p xs ∧ n = xs.length := e
    rcases e' with ⟨xs, hx, e'⟩ | ⟨xs, hx, e'⟩
    · subst e'
      obtain ⟨its, r', pl, hz⟩ := I.list hx
      have hlen := r'.length
      exact Calls.call_len_list pl.isList (by simp only [List.size_toArray]; omega) ⟨.int xs.length, H, I.tok _, ⟨_, by simp only [List.size_toArray]; rw [hlen]⟩, q⟩
    · subst e'
      obtain ⟨its, r', pl, hz⟩ := I.tuple hx
      have hlen := r'.length
      exact len_tuple pl (by simp only [List.size_toArray]; omega) ⟨.int xs.length, H, I.tok _, ⟨_, by simp only [List.size_toArray]; rw [hlen]⟩, q⟩
  | _ => exact (show False from e).elim
end
end L2
namespace L2
open PySem PySem.Spec PyProof.Rows
structure ObjM (h : Heap) (x dx C : Addr) (mA : Str → Option Value) : Prop where
  obj : h.get? x = some (PySem.W.instObj C dx)
  ns : h.Ns1 dx mA
  ne : dx ≠ x
theorem vY {h : Heap} {dx : Addr} {mA : Str → Option Value} (n : h.Ns1 dx mA) : ∃ od, h.get? dx = some od ∧ ∀ name, PySem.W.lookIn name od = some (mA name) := by
  obtain ⟨o, es, ep, ho, hd, hk, _, hm⟩ := n
  refine ⟨o, ho, fun name => ?_⟩
  have e := hm name
  unfold nsFind findBy at e
  rw [← Array.find?_toList] at e
  unfold PySem.W.lookIn
  rw [hd]
  dsimp only
  split
  · rename_i y q
    rw [q] at e
    exact congrArg some e
  · rename_i q
    rw [q] at e
    have a : es.toList.any (·.refKey) = false := by
      rw [List.any_eq_false]
      intro y hy
      obtain ⟨z, t, hkey⟩ := hk y (Array.mem_toList_iff.mp hy)
      simp [DictEntry.refKey, hkey]
    have a' : ¬ es.toList.any (·.refKey) = true := by rw [a]; exact Bool.false_ne_true
    rw [if_neg a']
    exact congrArg some e
theorem ObjM.look {h : Heap} {x dx C : Addr} {mA : Str → Option Value} (I : ObjM h x dx C mA) : ∃ od, PySem.W.InstAt h x (PySem.W.instObj C dx) C (some od) ∧ ∀ name, PySem.W.lookIn name od = some (mA name) :=
  let ⟨od, ho, hl⟩ := vY I.ns
  ⟨od, ⟨I.obj, rfl, rfl, ho⟩, hl⟩
section
variable {prog : Program} {w : World} {A : Around} {E : Value → Shared → Prop} {s : Shared} {K : PySem.W.Frag} {x dx C f : Addr} {mA : Str → Option Value} {name : Str} {v : Value}
theorem za {expr : Bool} {Q : Value → Shared → Prop} (X : K.In s.heap) (I : ObjM s.heap x dx C mA) (hg : PySem.W.plainGet K C name = true) (hh : PySem.W.hasDictIn K C = true)
    (ha : PySem.W.findIn K (.ref C) name = some none) (hv : mA name = some v) (hv' : PySem.W.handedIn v = true) (h : Q v { s with toks := s.toks + 1 }) :
    wpAny (model prog w) A (getAttr (.ref x) name expr) Q E s := by
  obtain ⟨od, J, hl⟩ := I.look
  exact PySem.W.get_value X J (PySem.W.plainGet_of hg).1 (PySem.W.findObj_own hh ha rfl (by rw [hl, hv])) hv' h
theorem wm {pl : Sem Bool} {Q : Value × List Value → Shared → Prop} (X : K.In s.heap) (I : ObjM s.heap x dx C mA) (hg : PySem.W.plainGet K C name = true)
    (hf : PySem.W.findIn K (.ref C) name = some (some (.ref f))) (ht : PySem.W.isFn K (.ref f) = true) (hv : mA name = none) (h : Q (.ref f, [.ref x]) s) :
    wpAny (model prog w) A (getMethod (.ref x) name pl) Q E s := by
  obtain ⟨od, J, hl⟩ := I.look
  exact PySem.W.method_fn X J (PySem.W.plainGet_of hg).1 (PySem.W.plainGet_of hg).2 hf (beq_iff_eq.mp ht) (by show (PySem.W.lookIn name od).map (·.isSome) = some false; rw [hl, hv]; rfl) h
theorem zB {ns : List Str} {Q : Unit → Shared → Prop} (X : K.In s.heap) (I : ObjM s.heap x dx C mA)
    (hs : PySem.W.findIn K (.ref C) "__setattr__" = some (some (.builtin "object.__setattr__"))) (hp : PySem.W.plainOver K C = true) (ht : PySem.W.takerIn K C name = some none) (hh : PySem.W.hasDictIn K C = true)
    (hw : PySem.Within mA ns) (hsz : ns.length ≤ sizeLine)
    (h : ∀ h', ObjM h' x dx C (fun y => if y = name then some v else mA y) → Heap.SameBut dx s.heap h' → Q () { s with heap := h', toks := s.toks + 2 }) :
    wpAny (model prog w) A (setAttr (.ref x) name v) Q E s := by
  obtain ⟨od, J, hl⟩ := I.look
  refine PySem.W.set_plain X J hs (PySem.W.osa_open (s := { s with toks := s.toks + 1 }) (r := none) X J hp ht fun b => ?_)
  obtain ⟨cd, hc, hd'⟩ := PySem.W.any_some hh
  have hx : s.heap.get? x = some ⟨.ref C, some dx, .plain, #[]⟩ := I.obj
  refine wpAny_bind (wpAny_pure (wpAny_bind (wpAny_bind (wpAny_loadPart hx (wpAny_bind (PySem.W.Looks.here (s := { s with toks := s.toks + 1 }) (PySem.W.looks_clsIn X hc) ?_))))))
  rw [hd']
  refine wpAny_pure (a := some dx) (wpAny_bind (wpAny_pure (wpAny_bind ?_)))
  refine wpAny_nsSet1 (s := { s with toks := s.toks + 1 }) I.ns fun h' hn2 hs2 => ?_
  obtain ⟨oD, esD, epD, hoD, hdD, hcD⟩ := hn2.count (PySem.Within.cons name v hw)
  refine wpAny_bind (wpAny_lookBehind hoD (by rw [hdD]; exact pastItsLine_dict (Nat.le_trans hcD (by rw [List.length_cons]; omega))) ?_)
  exact wpAny_pure (h _ ⟨(hs2.2 _ (Ne.symm I.ne)).trans I.obj, hn2, I.ne⟩ hs2)
theorem xU {R : Result → Shared → Prop} {vs : List Value} {kw : List (Str × Value)} (X : K.In s.heap) (hm : PySem.W.makesIn K C = true)
    (hi : PySem.W.findIn K (.ref C) "__init__" = some (some (.ref f))) (hf : PySem.W.typeIn K (.ref f) = some (.type "function"))
    (h : codeAny (model prog w) (A.under (.builtin "type.__call__" ⟨.ref C :: vs, kw⟩)) (.call (.ref f) ⟨.ref (s.heap.objs.size + 1) :: vs, kw⟩) (PySem.W.InitBack (s.heap.objs.size + 1) R)
      { s with heap := (s.heap.push PySem.W.emptyDict).push (PySem.W.instObj C s.heap.objs.size) }) :
    codeAny (model prog w) A (.call (.ref C) ⟨vs, kw⟩) R s := by
  obtain ⟨hh, g, d, t, os⟩ := s
  exact PySem.W.make_core (PySem.W.makes_of X hm) (PySem.W.looks_findIn X hi) (fun self => PySem.W.bind_fn X self hf) (.inl rfl) h
end
def dO (f : Str) (v : V) : List (Str × V) → List (Str × V)
  | [] => [(f, v)]
  | (g, x) :: r => if g = f then (g, v) :: r else (g, x) :: dO f v r
theorem lH (f g : Str) (v : V) : ∀ fs : List (Str × V), (dO f v fs).lookup g = if g = f then some v else fs.lookup g
  | [] => by
    show List.lookup g [(f, v)] = _
    by_cases h : g = f
    · have hb : (g == f) = true := beq_iff_eq.mpr h
      simp only [List.lookup, hb, if_pos h]
    · have hb : (g == f) = false := beq_eq_false_iff_ne.mpr h
      simp only [List.lookup, hb, if_neg h]
  | (k, x) :: r => by
    have ih := lH f g v r
    rw [show dO f v ((k, x) :: r) = (if k = f then (k, v) :: r else (k, x) :: dO f v r) from rfl]
    by_cases hk : k = f
    · rw [if_pos hk]
      by_cases h : g = k
      · have hb : (g == k) = true := beq_iff_eq.mpr h
        simp only [List.lookup, hb, if_pos (h.trans hk)]
      · have hb : (g == k) = false := beq_eq_false_iff_ne.mpr h
        simp only [List.lookup, hb, if_neg (fun e : g = f => h (e.trans hk.symm))]
    · rw [if_neg hk]
      by_cases h : g = k
      · have hb : (g == k) = true := beq_iff_eq.mpr h
        simp only [List.lookup, hb, if_neg (fun e : g = f => hk (h.symm.trans e))]
      · have hb : (g == k) = false := beq_eq_false_iff_ne.mpr h
        simp only [List.lookup, hb]
        exact ih
theorem kA (f : Str) (v : V) : ∀ fs : List (Str × V), f ∈ (dO f v fs).map (·.1) ∧ ∀ g, g ∈ fs.map (·.1) → g ∈ (dO f v fs).map (·.1)
  | [] => ⟨by simp [dO], fun g h => by simp at h⟩
  | (k, x) :: r => by
    obtain ⟨i1, i2⟩ := kA f v r
    rw [show dO f v ((k, x) :: r) = (if k = f then (k, v) :: r else (k, x) :: dO f v r) from rfl]
    by_cases hk : k = f
    · rw [if_pos hk]
      subst hk
      exact ⟨by simp, fun g h => by simpa using h⟩
    · rw [if_neg hk]
      refine ⟨?_, fun g h => ?_⟩
      · rw [List.map_cons]
        exact List.mem_cons_of_mem _ i1
      · rw [List.map_cons] at h ⊢
        rcases List.mem_cons.mp h with e | e
        · exact List.mem_cons.mpr (.inl e)
        · exact List.mem_cons_of_mem _ (i2 g e)
theorem lI (f : Str) (v : V) : ∀ fs : List (Str × V), (dO f v fs).length ≤ fs.length + 1
  | [] => by simp [dO]
  | (k, x) :: r => by
    have ih := lI f v r
    rw [show dO f v ((k, x) :: r) = (if k = f then (k, v) :: r else (k, x) :: dO f v r) from rfl]
    by_cases hk : k = f
    · rw [if_pos hk, List.length_cons, List.length_cons]; omega
    · rw [if_neg hk, List.length_cons, List.length_cons]; omega
theorem RelO.some_of {v : V} {o : Option Value} (r : RelO (some v) o) : ∃ u, o = some u ∧ RelV v u := by
  cases o with
  | none => exact (show False from r).elim
  | some u => exact ⟨u, rfl, r⟩
theorem RelO.none_of {o : Option Value} (r : RelO none o) : o = none := by
  cases o with
  | none => rfl
  | some u => exact (show False from r).elim
theorem vx {v : V} {u : Value} (r : RelV v u) : PySem.W.handedIn u = true := by
  cases v with
  | non => cases (show u = Value.none from r); rfl
  | bl b => cases (show u = Value.bool b from r); rfl
  | int i => obtain ⟨t, e⟩ := (show ∃ t, u = Value.int i t from r); cases e; rfl
  | str x => obtain ⟨t, e⟩ := (show ∃ t, u = Value.str x t from r); cases e; rfl
  | byt b => obtain ⟨t, e⟩ := (show ∃ t, u = Value.bytes b t from r); cases e; rfl
  | flt b => obtain ⟨t, e⟩ := (show ∃ t, u = Value.float b t from r); cases e; rfl
  | ref a => cases (show u = Value.ref a from r); rfl
  | ty n => cases (show u = Value.type n from r); rfl
section
variable {P : Program} {w : World} {H H' : Hp} {h h' : Heap} {a C dx : Addr} {fs fs' : List (Str × V)}
theorem ma (hok : HOk P w H h) (e : H a = some (.ins C dx fs)) : ∃ mA, ObjM h a dx C mA ∧ (∀ f, RelO (fs.lookup f) (mA f)) ∧ PySem.Within mA (fs.map (·.1)) ∧ fs.length ≤ 1000 ∧ H dx = some (.own a) := by
  obtain ⟨d, z, ne, ob, mA, n, r, q⟩ := (show ObjOk P w H h a (.ins C dx fs) from hok a _ e)
  exact ⟨mA, ⟨ob, n, ne⟩, r, q, z, d⟩
end
structure Cls (K : PySem.W.Frag) (C : Addr) : Prop where
  pg : PySem.W.plainGet K C Str.empty = true
  hd : PySem.W.hasDictIn K C = true
  po : PySem.W.plainOver K C = true
  sa : PySem.W.findIn K (.ref C) "__setattr__" = some (some (.builtin "object.__setattr__"))
theorem Cls.get {K : PySem.W.Frag} {C : Addr} (c : Cls K C) (f : Str) : PySem.W.plainGet K C f = true := c.pg
def NoAttr (K : PySem.W.Frag) (C : Addr) (f : Str) : Prop := PySem.W.findIn K (.ref C) f = some none
theorem NoAttr.taker {K : PySem.W.Frag} {C : Addr} {f : Str} (n : NoAttr K C f) : PySem.W.takerIn K C f = some none := by
  unfold PySem.W.takerIn
  rw [show PySem.W.findIn K (.ref C) f = some none from n]
  rfl
structure jq (K : PySem.W.Frag) (C : Addr) (m : Str) (f : Addr) : Prop where
  at_ : PySem.W.findIn K (.ref C) m = some (some (.ref f))
  fn : PySem.W.isFn K (.ref f) = true
  kp : PySem.W.keepIn K (.ref f) = true
section
variable {X : Cx} {pins : List (Addr × Obj)} {σ : St} {H : Hp} {s : Shared} {a C dx : Addr} {fs : List (Str × V)} {f : Str} {v : V} {A : Around} {E : Value → Shared → Prop}
theorem tX {b : Bool} {Q : Value → Shared → Prop} (I : Inv X pins σ H s) (e : H a = some (.ins C dx fs)) (c : Cls X.K C) (n : NoAttr X.K C f) (l : fs.lookup f = some v)
    (h : ∀ u s', Inv X pins σ H s' → RelV v u → Q u s') : wpAny (model X.prog X.w) A (getAttr (.ref a) f b) Q E s := by
  obtain ⟨mA, O, r, _, _, _⟩ := ma I.hok e
  obtain ⟨u, hu, ru⟩ := RelO.some_of (v := v) (o := mA f) (by rw [← l]; exact r f)
  exact za I.kIn O (c.get f) c.hd n hu (vx ru) (h u _ (I.tok _) ru)
theorem nB {m : Str} {g : Addr} {pl : Sem Bool} {Q : Value × List Value → Shared → Prop} (I : Inv X pins σ H s) (e : H a = some (.ins C dx fs)) (c : Cls X.K C) (k : jq X.K C m g) (l : fs.lookup m = none)
    (h : Q (.ref g, [.ref a]) s) : wpAny (model X.prog X.w) A (getMethod (.ref a) m pl) Q E s := by
  obtain ⟨mA, O, r, _, _, _⟩ := ma I.hok e
  have hn : mA m = none := RelO.none_of (by rw [← l]; exact r m)
  exact wm I.kIn O (c.get m) k.at_ k.fn hn h
theorem tO {y : V} {u : Value} {Q : Unit → Shared → Prop} (I : Inv X pins σ H s) (e : H a = some (.ins C dx fs)) (c : Cls X.K C) (n : NoAttr X.K C f) (hl : fs.length < 1000) (ry : RelV y u)
    (h : ∀ s', Inv X pins σ (upd H a (.ins C dx (dO f y fs))) s' → Q () s') : wpAny (model X.prog X.w) A (setAttr (.ref a) f u) Q E s := by
  obtain ⟨mA, O, r, wi, _, ho⟩ := ma I.hok e
  have hz : (fs.map (·.1)).length ≤ sizeLine := by rw [List.length_map, sizeLine_eq]; omega
  refine zB I.kIn O c.sa c.po n.taker c.hd wi hz fun h' O' sb => h _ ?_
  have hd : ∃ o, h'.get? dx = some o := let ⟨o, _, _, e', _⟩ := O'.ns; ⟨o, e'⟩
  refine I.write (x := a) (e := dx) (by rw [e]; exact True.intro) (.inr ho) (fun b q hb z => (sb.2 b hb).trans z) hd ?_
  refine ⟨by rw [al O.ne]; exact ho, ?_, O.ne, O'.obj, _, O'.ns, fun g => ?_, fun g hg => ?_⟩
  · have := lI f y fs; omega
  · show RelO ((dO f y fs).lookup g) (if g = f then some u else mA g)
    rw [lH]
    by_cases q : g = f
    · rw [if_pos q, if_pos q]; exact ry
    · rw [if_neg q, if_neg q]; exact r g
  · by_cases q : g = f
    · rw [q]; exact (kA f y fs).1
    · refine (kA f y fs).2 g (wi g fun z => hg ?_)
      show (if g = f then some u else mA g) = none
      rw [if_neg q]; exact z
theorem Inv.made (I : Inv X pins σ H s) : Inv X pins σ (upd (upd H s.heap.objs.size (.own (s.heap.objs.size + 1))) (s.heap.objs.size + 1) (.ins C s.heap.objs.size []))
    { s with heap := (s.heap.push PySem.W.emptyDict).push (PySem.W.instObj C s.heap.objs.size) } := by
  have e1 : (s.heap.push PySem.W.emptyDict).get? s.heap.objs.size = some PySem.W.emptyDict := Heap.get?_push_size s.heap rfl
  have e2 : ((s.heap.push PySem.W.emptyDict).push (PySem.W.instObj C s.heap.objs.size)).get? (s.heap.objs.size + 1) = some (PySem.W.instObj C s.heap.objs.size) := by
    have := Heap.get?_push_size (s.heap.push PySem.W.emptyDict) (o := PySem.W.instObj C s.heap.objs.size) rfl
    rwa [Heap.size_push] at this
  have e3 : (s.heap.push PySem.W.emptyDict).Ns s.heap.objs.size (fun _ => none) := ⟨PySem.W.emptyDict, #[], _, e1, rfl, (fun e he => absurd he (by simp)), fun _ => rfl⟩
  have I1 := I.laid (a := s.heap.objs.size) (o := .own (s.heap.objs.size + 1)) (h' := s.heap.push PySem.W.emptyDict) (t' := s.toks) (fun b u q => Heap.get?_push_of_some _ q) (Nat.le_refl _) ⟨_, e1⟩
  refine I1.laid (a := s.heap.objs.size + 1) (o := .ins C s.heap.objs.size []) (t' := s.toks) (fun b u q => Heap.get?_push_of_some _ q) (Nat.le_of_eq (Heap.size_push _ _)) ?_
  have ne : s.heap.objs.size ≠ s.heap.objs.size + 1 := Nat.ne_of_lt (Nat.lt_succ_self _)
  refine ⟨by rw [al ne, ae], Nat.zero_le _, ne, e2, fun _ => none, (Heap.Ns1.of_empty e3).at fun o q => Heap.get?_push_of_some _ q, fun _ => True.intro, fun y hy => absurd rfl hy⟩
theorem y9 {prog : Program} {w : World} {env : Env} {e : Expr} {f : Str} {pos : Pos} {s : Shared} {Q : Value → Shared → Prop} (hb : attributeBase e f env (eval e env) = eval e env)
    (h : wpAny (model prog w) A (eval e env) (fun o s₁ => wpAny (model prog w) A (getAttr o f true) Q E s₁) E s) : wpAny (model prog w) A (eval (.Attribute e f pos) env) Q E s :=
  Attribute_any_ h (by rw [arm_eval_Attribute, hb])
end
section
variable {X : Cx} {o e value : Expr} {f : Str} {pos pos' tpos : Pos} {ta tv : TE}
end
section
variable {X : Cx} {pins : List (Addr × Obj)} {σ : St} {H : Hp} {s : Shared} {A : Around} {E : Value → Shared → Prop} {Q : Value → Shared → Prop} {c : Value} {b : Bool}
inductive jg (K : PySem.W.Frag) (H : Hp) : V → Value → Prop where
  | non : jg K H .non (.type "NoneType")
  | bl (x : Bool) : jg K H (.bl x) (.type "bool")
  | int (i : Int) : jg K H (.int i) (.type "int")
  | str (x : Str) : jg K H (.str x) (.type "str")
  | flt (x : UInt64) : jg K H (.flt x) (.type "float")
  | lst {a : Addr} {xs : List V} (e : H a = some (.lst xs)) : jg K H (.ref a) (.type "list")
  | frz {a : Addr} {o : Obj} {xs : List V} (e : H a = some (.frz o (.lst xs))) : jg K H (.ref a) (.type "list")
  | tup {a : Addr} {xs : List V} (e : H a = some (.tup xs)) : jg K H (.ref a) (.type "tuple")
  | dK {a : Addr} {kvs : List (Key × V)} (e : H a = some (.dK kvs)) : jg K H (.ref a) (.type "dict")
  | dT {a : Addr} {kvs : List (List Key × V)} (e : H a = some (.dT kvs)) : jg K H (.ref a) (.type "dict")
  | ins {a C dx : Addr} {fs : List (Str × V)} (e : H a = some (.ins C dx fs)) (cl : Cls K C) (ha : PySem.W.findIn K (.ref C) "__class__" = some (some (.builtin "object.__class__")))
      (hn : PySem.W.specialIn K (.builtin "object.__class__") "__get__" = some (some (.builtin "getset_descriptor.__get__"))) (htk : PySem.W.takesIn K (.builtin "object.__class__") = some true)
      (hm : PySem.W.mroIn K C (.type "object") = some true) : jg K H (.ref a) (.ref C)
theorem v9 {x : V} {u t : Value} (I : Inv X pins σ H s) (rx : RelV x u) (ty : jg X.K H x t) (e : PySem.W.kitOne X.K t c = some b) (h : ∀ tk, Q (.bool b) { s with toks := tk }) :
    wpAny (model X.prog X.w) A (call (.builtin "isinstance") [u, c]) Q E s := by
  cases ty with
  | non => cases (show u = Value.none from rx); exact PySem.W.kia_one PySem.W.kitx_none I.kIn True.intro e (fun z => nomatch z) h
  | bl y => cases (show u = Value.bool y from rx); exact PySem.W.kia_one PySem.W.kitx_bool I.kIn True.intro e (fun z => nomatch z) h
  | int i => obtain ⟨t, q⟩ := (show ∃ t, u = Value.int i t from rx); cases q; exact PySem.W.kia_one PySem.W.kitx_int I.kIn True.intro e (fun z => nomatch z) h
  | str y => obtain ⟨t, q⟩ := (show ∃ t, u = Value.str y t from rx); cases q; exact PySem.W.kia_one PySem.W.kitx_str I.kIn True.intro e (fun z => nomatch z) h
  | flt y => obtain ⟨t, q⟩ := (show ∃ t, u = Value.float y t from rx); cases q; exact PySem.W.kia_one PySem.W.kitx_float I.kIn True.intro e (fun z => nomatch z) h
  | @lst a xs ea =>
    cases (show u = Value.ref a from rx)
    obtain ⟨_, _, n, _, h1⟩ := (show ObjOk X.prog X.w H s.heap a (.lst xs) from I.hok a _ ea)
    exact PySem.W.kia_one PySem.W.kitx_list I.kIn ⟨_, h1, rfl⟩ e (fun z => nomatch z) h
  | @frz a ob xs ea =>
    cases (show u = Value.ref a from rx)
    obtain ⟨_, _, _, n, _, h1⟩ := (show ObjOk X.prog X.w H s.heap a (.frz ob (.lst xs)) from I.hok a _ ea)
    exact PySem.W.kia_one PySem.W.kitx_list I.kIn ⟨_, h1, rfl⟩ e (fun z => nomatch z) h
  | @tup a xs ea =>
    cases (show u = Value.ref a from rx)
    obtain ⟨_, _, _, p⟩ := (show ObjOk X.prog X.w H s.heap a (.tup xs) from I.hok a _ ea)
    obtain ⟨o, h1, h2, _⟩ := p
    exact PySem.W.kia_one PySem.W.kitx_tuple I.kIn ⟨o, h1, h2⟩ e (fun z => nomatch z) h
  | @dK a kvs ea =>
    cases (show u = Value.ref a from rx)
    obtain ⟨_, _, vs, _, p⟩ := (show ObjOk X.prog X.w H s.heap a (.dK kvs) from I.hok a _ ea)
    obtain ⟨o, es, ep, h1, h2, _⟩ := p
    exact PySem.W.kia_one PySem.W.kitx_dict I.kIn ⟨o, h1, h2.1⟩ e (fun z => nomatch z) h
  | @dT a kvs ea =>
    cases (show u = Value.ref a from rx)
    obtain ⟨_, _, xs, _, o, es, ep, h1, h2, _⟩ := (show ObjOk X.prog X.w H s.heap a (.dT kvs) from I.hok a _ ea)
    exact PySem.W.kia_one PySem.W.kitx_dict I.kIn ⟨o, h1, h2.1⟩ e (fun z => nomatch z) h
  | @ins a C dx fs ea cl ha hn htk hm =>
    cases (show u = Value.ref a from rx)
    obtain ⟨mA, O, _⟩ := ma I.hok ea
    obtain ⟨od, J, _⟩ := O.look
    exact PySem.W.kia_one (PySem.W.kitx_own (cl.get _) cl.hd ha hn htk hm) I.kIn J e (fun z => nomatch z) h
end
end L2
namespace L2
open PySem PySem.Spec PyProof.Rows
structure Room (k : Nat) (A : Around) : Prop where
  hd : A.handled = none
  dp : A.depth + 3 * k + 5 < recursionLimit
  un : A.units + 16 * k + 200 < cLine
theorem Room.mono {j k : Nat} {A : Around} (r : Room k A) (h : j ≤ k) : Room j A := ⟨r.hd, by have := r.dp; omega, by have := r.un; omega⟩
theorem Room.deeper {k : Nat} {A : Around} (r : Room (k + 1) A) (env : Env) : Room k (A.deeper env) :=
  ⟨r.hd, by have := r.dp; show A.depth + 1 + 3 * k + 5 < _; omega, by have := r.un; show A.units + 3 + 16 * k + 200 < _; omega⟩
theorem tG {A : Around} {C : Addr} {us : List Value} {kw : List (Str × Value)} : (A.under (.builtin "type.__call__" ⟨.ref C :: us, kw⟩)).depth = A.depth + 1 := by
  first | rfl | simp [Around.under, Code.weight, Code.isCreation, Code.isGuard, Code.isCaller, Code.frames, Code.isFrame, guardIds]
theorem tR {A : Around} {C : Addr} {us : List Value} {kw : List (Str × Value)} : (A.under (.builtin "type.__call__" ⟨.ref C :: us, kw⟩)).units = A.units + 1 := by
  first | rfl | simp [Around.under, Code.cUnits, Code.frames, Code.isFrame]
theorem Room.make {k : Nat} {A : Around} (r : Room (k + 1) A) (C : Addr) (us : List Value) (kw : List (Str × Value)) : Room k (A.under (.builtin "type.__call__" ⟨.ref C :: us, kw⟩)) :=
  ⟨r.hd, by have := r.dp; rw [tG]; omega, by have := r.un; rw [tR]; omega⟩
theorem Room.depth {k : Nat} {A : Around} (r : Room k A) : A.depth < recursionLimit := by have := r.dp; omega
def qS : TA := fun _ H Q => Q [] H
def j7 (ta : TE) (tr : TA) : TA := fun σ H Q => ta σ H fun x H1 => tr σ H1 fun xs H2 => Q (x :: xs) H2
section
variable {X : Cx} {e : Expr} {es : List Expr} {te : TE} {t : TA} {pos : Pos}
theorem Bf : PA X [] qS := fun _ _ _ _ H Q I h => Calls.spliced_nil ⟨[], H, I, .nil, h⟩
theorem zo (ha : PE X e te) (hr : PA X es t) (hs : starEach (e :: es) X.env = (false, eval e X.env) :: starEach es X.env := by rfl) : PA X (e :: es) (j7 te t) := by
  intro pos pins s σ H Q I h
  rw [hs]
  show wpAny _ _ (spliced ((false, eval e X.env) :: backTo pos (starEach es X.env))) _ _ s
  refine Calls.spliced_cons (thn (ha pins s σ H _ I h) fun u s1 ⟨x, H1, I1, r1, q1⟩ => ?_)
  exact thn (hr pos pins s1 σ H1 _ I1 q1) fun us s2 ⟨xs, H2, I2, r2, q2⟩ => ⟨x :: xs, H2, I2, .cons r1 r2, q2⟩
def BM (t : TA) : TE := fun σ H Q => t σ H fun xs H1 => xs.length ≤ sizeLine ∧ ∀ p, H1 p = none → Q (.ref p) (upd H1 p (.tup xs))
def BR (t : TA) : TE := fun σ H Q => t σ H fun xs H1 => xs.length ≤ sizeLine ∧ ∀ p, H1 p = none → Q (.ref p) (upd H1 p (.lst xs))
theorem dg {x1} (h : PA X es t) : PE X (.Tuple es x1 pos) (BM t) := by
  intro pins s σ H Q I hq
  refine wpAny_Tuple_spliced (thn (h pos pins s σ H _ I hq) fun us s1 ⟨xs, H1, I1, r, z, q⟩ => ⟨by rw [← r.length]; exact z, ?_⟩)
  have hf : H1 s1.heap.objs.size = none := I1.hok.fresh (Nat.le_refl _)
  refine ⟨.ref s1.heap.objs.size, upd H1 s1.heap.objs.size (.tup xs), I1.laid (t' := s1.toks) (fun b u e => Heap.get?_push_of_some _ e) (Nat.le_refl _) ?_, rfl, q _ hf⟩
  exact ⟨z, us, r, ⟨_, Heap.get?_push_size _ rfl, rfl, _, rfl⟩⟩
theorem cW (h : PA X es t) : PE X (.List es pos) (BR t) := by
  intro pins s σ H Q I hq
  refine wpAny_List_spliced (thn (h pos pins s σ H _ I hq) fun us s1 ⟨xs, H1, I1, r, z, q⟩ => ⟨by rw [← r.length]; exact z, ?_⟩)
  have hf : H1 s1.heap.objs.size = none := I1.hok.fresh (Nat.le_refl _)
  refine ⟨.ref s1.heap.objs.size, upd H1 s1.heap.objs.size (.lst xs), I1.laid (t' := s1.toks) (fun b u e => Heap.get?_push_of_some _ e) (Nat.le_refl _) ?_, rfl, q _ hf⟩
  exact ⟨z, us, 0, r, Heap.get?_push_size _ rfl⟩
end
abbrev Sp := List V → Hp → VK → XK → Prop
abbrev CXT := List Env → Hp → Shared → XK → Value → Shared → Prop
structure Env0 (P : Program) (w : World) (K : PySem.W.Frag) (mg : Str → Option Value) (base : Heap) (A : Around) (outer : List Env) (s : Shared) (H : Hp) : Prop where
  frames : A.frames = some outer
  mod : Mod K mg base
  bs : ∀ b o, base.get? b = some o → s.heap.get? b = some o ∧ H b = none
  bsz : base.objs.size ≤ s.heap.objs.size
  funs : s.heap.FunFrames base outer
  frf : ∀ b ∈ frs outer, H b = none
  hok : HOk P w H s.heap
  bare : AllBare s.gens
def CE (outer : List Env) (P : Program) (w : World) (H : Hp) (s : Shared) (Q : VK) (u : Value) (s' : Shared) : Prop :=
  ∃ v H', s'.os = s.os ∧ AllBare s'.gens ∧ Un (frs outer) [] H H' s.heap s'.heap ∧ HOk P w H' s'.heap ∧ RelV v u ∧ Q v H'
def CR (CX : CXT) (outer : List Env) (P : Program) (w : World) (H : Hp) (s : Shared) (Q : VK) (E : XK) (r : Result) (s' : Shared) : Prop :=
  match r with
  | .ok (.ret u) => CE outer P w H s Q u s'
  | .ok _ => False
  | .error e => CX outer H s E e s'
structure bD (P : Program) (w : World) (K : PySem.W.Frag) (mg : Str → Option Value) (base : Heap) (CX : CXT) (k : Nat) (f : Addr) (fd : FuncData) (ps : List Str) (sp : Sp) : Prop where
  len : ∀ vs H Q E, sp vs H Q E → vs.length = ps.length
  run : ∀ (A : Around) (outer : List Env) (s : Shared) (H : Hp) (args : Args) (us : List Value) (vs : List V) (Q : VK) (E : XK), Room k A → Env0 P w K mg base A outer s H → BindsTo s fd args (ps.zip us) → Vals vs us → sp vs H Q E →
    codeAny (model P w) A (.call (.ref f) args) (CR CX outer P w H s Q E) s
theorem Env0.make {P : Program} {w : World} {K : PySem.W.Frag} {mg : Str → Option Value} {base : Heap} {A : Around} {outer : List Env} {s : Shared} {H : Hp} (e : Env0 P w K mg base A outer s H) (C : Addr) (us : List Value) (kw : List (Str × Value)) :
    Env0 P w K mg base (A.under (.builtin "type.__call__" ⟨.ref C :: us, kw⟩)) outer s H := ⟨by first | exact e.frames | (simpa [Around.under, Code.envs, Code.isFrame, pushEnvs] using e.frames), e.mod, e.bs, e.bsz, e.funs, e.frf, e.hok, e.bare⟩
section
variable {X : Cx} {pins : List (Addr × Obj)} {σ : St} {H : Hp} {s s' : Shared}
theorem Inv.env0 (I : Inv X pins σ H s) : Env0 X.prog X.w X.K X.mg X.base X.A X.stack s H :=
  ⟨I.ok.frames, I.ok.mod, I.bs, Nat.le_trans I.ok.bsz I.sz, I.stack, I.stkFree, I.hok, I.bare⟩
theorem Inv.after {Q : VK} {u : Value} (I : Inv X pins σ H s) (h : CE X.stack X.prog X.w H s Q u s') : EP X pins σ Q u s' := by
  obtain ⟨v, H', os, bare, un, hok, r, q⟩ := h
  obtain ⟨hh, g, d, t, os'⟩ := s'
  obtain rfl : os' = s.os := os
  exact ⟨v, H', I.call (h' := hh) (g' := g) (d' := d) (t' := t) (ch := []) un hok bare (fun b z => absurd z (by simp)), r, q⟩
end
def Binds (K : PySem.W.Frag) (fd : FuncData) (ps : List Str) (ds : List Value) : Prop :=
  ∀ (s : Shared) (us : List Value), K.In s.heap → (us ++ ds).length = ps.length → BindsTo s fd ⟨us, []⟩ (ps.zip (us ++ ds))
theorem Binds.all {K : PySem.W.Frag} {fd : FuncData} {ps : List Str} (h : ∀ us : List Value, us.length = ps.length → bindArgs fd ⟨us, []⟩ = pure (ps.zip us)) : Binds K fd ps [] := fun s us _ hl => by
  rw [List.append_nil] at hl ⊢
  exact .of_eq (h us hl)
section
variable {X : Cx} {CX : CXT} {k : Nat} {f C : Addr} {fd : FuncData} {ps : List Str} {sp : Sp} {dvs : List V} {ds : List Value} {E : XK} {x m : Str} {p pos apos : Pos} {e o : Expr} {es : List Expr} {ta : TE} {t : TA}
structure Mk (K : PySem.W.Frag) (C f : Addr) : Prop where
  makes : PySem.W.makesIn K C = true
  init : PySem.W.findIn K (.ref C) "__init__" = some (some (.ref f))
  fn : PySem.W.isFn K (.ref f) = true
  kp : PySem.W.keepIn K (.ref C) = true
end
section
variable {X : Cx} {CX : CXT} {k : Nat} {f C : Addr} {fd : FuncData} {ps ks : List Str} {sp : Sp} {E : XK} {x m : Str} {p pos apos kpos : Pos} {e o : Expr} {es : List Expr} {kws : List Keyword} {te ta : TE} {t tk : TA} {nm : Option Str}
variable {g : List Value → List Value → List Value} {gV : List V → List V → List V}
end
structure aB (N P : List Str) (sc : Scope) : Prop where
  kind : sc.kind = .function
  co : sc.isCoroutine = false
  gen : sc.isGenerator = false
  nd : N.Nodup
  pre : N.take P.length = P
  par : ∀ x ∈ P, sc.names.lookup x = some .local ∨ sc.names.lookup x = some .cell
  nofree : ∀ y ∈ sc.names, y.2 ≠ .free
theorem oW {kindOf : Str → Option NameKind} {x : Str} : ∀ {binds : List (Str × Value)} {m : Str → Option Value}, (∀ v, (x, v) ∉ binds) → bindL kindOf binds m x = m x
  | [], _, _ => rfl
  | (n, v) :: r, m, h => by
    unfold bindL
    rw [oW fun w hw => h w (List.mem_cons_of_mem _ hw)]
    split
    · have : x ≠ n := by rintro rfl; exact h v List.mem_cons_self
      simp [this]
    · rfl
theorem oV {kindOf : Str → Option NameKind} {x : Str} : ∀ {binds : List (Str × Value)} {m : Str → Option Value}, (∀ v, (x, v) ∉ binds) → bindC kindOf binds m x = m x
  | [], _, _ => rfl
  | (n, v) :: r, m, h => by
    unfold bindC
    rw [oV fun w hw => h w (List.mem_cons_of_mem _ hw)]
    split
    · rfl
    · have : x ≠ n := by rintro rfl; exact h v List.mem_cons_self
      simp [this]
theorem oP {kindOf : Str → Option NameKind} {x : Str} {v : Value} : ∀ {P : List Str} {vs : List Value} {i : Nat} {m : Str → Option Value}, P.Nodup → P[i]? = some x → vs[i]? = some v → kindOf x = some .local →
    bindL kindOf (P.zip vs) m x = some v
  | [], _, _, _, _, h, _, _ => by simp at h
  | _ :: _, [], _, _, _, _, h, _ => by simp at h
  | p :: P, w :: vs, 0, m, nd, h1, h2, hk => by
    simp at h1 h2; subst h1; subst h2
    show bindL kindOf ((p, w) :: P.zip vs) m p = _
    unfold bindL
    rw [oW fun v hv => (List.nodup_cons.mp nd).1 (List.of_mem_zip hv).1, if_pos hk]
    simp
  | p :: P, w :: vs, i + 1, m, nd, h1, h2, hk => by
    show bindL kindOf ((p, w) :: P.zip vs) m x = _
    unfold bindL
    exact oP (i := i) (List.nodup_cons.mp nd).2 (by simpa using h1) (by simpa using h2) hk
theorem oB {kindOf : Str → Option NameKind} {x : Str} {v : Value} : ∀ {P : List Str} {vs : List Value} {i : Nat} {m : Str → Option Value}, P.Nodup → P[i]? = some x → vs[i]? = some v → kindOf x ≠ some .local →
    bindC kindOf (P.zip vs) m x = some v
  | [], _, _, _, _, h, _, _ => by simp at h
  | _ :: _, [], _, _, _, _, h, _ => by simp at h
  | p :: P, w :: vs, 0, m, nd, h1, h2, hk => by
    simp at h1 h2; subst h1; subst h2
    show bindC kindOf ((p, w) :: P.zip vs) m p = _
    unfold bindC
    rw [oV fun v hv => (List.nodup_cons.mp nd).1 (List.of_mem_zip hv).1, if_neg hk]
    simp
  | p :: P, w :: vs, i + 1, m, nd, h1, h2, hk => by
    show bindC kindOf ((p, w) :: P.zip vs) m x = _
    unfold bindC
    exact oB (i := i) (List.nodup_cons.mp nd).2 (by simpa using h1) (by simpa using h2) hk
def gK (N : List Str) (vs : List V) : St := vs.map some ++ List.replicate (N.length - vs.length) none
def cG (CX : CXT) (P : Program) (w : World) (K : PySem.W.Frag) (mg : Str → Option Value) (base : Heap) (N : List Str) (qual : Str) (scope : Scope) (f : Addr) (cd : Value) (A : Around) (outer : List Env) (s : Shared) (H : Hp) (E : XK) : Cx where
  prog := P
  w := w
  K := K
  mg := mg
  base := base
  A := A.deeper (envOfC qual scope s.heap.objs.size f cd)
  N := N
  s₀ := s
  H₀ := H
  env := envOfC qual scope s.heap.objs.size f cd
  outer := outer
  stack := envOfC qual scope s.heap.objs.size f cd :: outer
  ex := []
  calm := true
  fn := fun _ => true
  pn := []
  xe := fun e s' => wpAny (model P w) (A.deeper (envOfC qual scope s.heap.objs.size f cd)) (leaving (envOfC qual scope s.heap.objs.size f cd) e) (fun _ s'' => CX outer H s E e s'') (fun e' s'' => CX outer H s E e' s'') s'
theorem sN {sc : Scope} {n : Nat} {x : Str} (h : sc.names.lookup x = some .cell) : ∃ c, (cellsFrom n sc.names []).lookup x = some c := by
  have q := PySem.W.cellsFrom_some sc.names n [] (.inl h)
  exact Option.isSome_iff_exists.mp q
theorem v7 {CX : CXT} {P : Program} {w : World} {K : PySem.W.Frag} {mg : Str → Option Value} {base : Heap} {N ps : List Str} {qual : Str} {scope : Scope} {f : Addr} {cd : Value} {A : Around} {outer : List Env} {s s1 : Shared} {H : Hp} {E : XK} {us : List Value} {vs : List V}
    (S : aB N ps scope) (hd : A.handled = none) (e0 : Env0 P w K mg base A outer s H) (hl : vs.length = ps.length) (r : Vals vs us)
    (x : InCallC s s.heap.objs.size (bindL (envOfC qual scope s.heap.objs.size f cd).kindOf (ps.zip us) fun _ => none) (cellsFrom (s.heap.objs.size + 1) scope.names []) (bindC (envOfC qual scope s.heap.objs.size f cd).kindOf (ps.zip us) fun _ => none) s1) :
    Inv (cG CX P w K mg base N qual scope f cd A outer s H E) [] (gK N vs) H s1 := by
  have hpl : ps.length ≤ N.length := by have := congrArg List.length S.pre; rw [List.length_take] at this; omega
  obtain ⟨h1, tk, rfl, hk⟩ := x.done
  have noA : ∀ b : Addr, b ∉ (cG CX P w K mg base N qual scope f cd A outer s H E).ex := fun b z => absurd (show b ∈ ([] : List Addr) from z) (by simp)
  refine ⟨⟨e0.mod, S.kind, rfl, rfl, Nat.le_refl _, fun y z c h1 h2 => ?_, fun y hy => ?_, fun y c _ h => ?_, fun _ => hd, Around.frames_deeper e0.frames, .inr ⟨rfl, rfl⟩, fun b z => absurd z (noA b), e0.bs, e0.bsz, fun b _ _ => noA b, fun b z => absurd z (noA b), e0.funs, e0.frf⟩,
    rfl, e0.bare, Un.kept hk, ⟨_, x.toInCall.ns, fun i y v h1 h2 h3 => ?_⟩, fun y c h => ⟨_, x.cell y c h⟩, e0.hok.fresh (Nat.le_refl _), fun y c h => ?_, fun p hp => absurd (show p ∈ ([] : List (Addr × Obj)) from hp) (by simp), e0.hok.kept hk, ?_⟩
  · exact name_of_addr x.apart (PySem.mem_of_lookup h1) (PySem.mem_of_lookup h2)
  · have hy : scope.names.lookup y = some .cell ∨ scope.names.lookup y = some .free := hy
    rcases hy with hy | hy
    · exact sN hy
    · exact absurd rfl (S.nofree _ (PySem.mem_of_lookup hy))
  · exact Nat.le_of_lt (x.above y c (PySem.mem_of_lookup h))
  · have hi : i < vs.length := by
      unfold gK at h2
      by_cases hi : i < vs.length
      · exact hi
      · rw [List.getElem?_append_right (by simpa using hi)] at h2
        rw [List.getElem?_replicate] at h2
        split at h2 <;> cases h2
    have ha : vs[i]? = some v := by
      unfold gK at h2
      rw [List.getElem?_append_left (by simpa using hi), List.getElem?_map] at h2
      cases e : vs[i]? with
      | none => rw [e] at h2; cases h2
      | some a => rw [e] at h2; cases h2; rfl
    obtain ⟨u, hu, rv⟩ := r.get ha
    have hp : ps[i]? = some y := by
      rw [← S.pre, List.getElem?_take_of_lt (by omega)]; exact h1
    have ndP : ps.Nodup := by rw [← S.pre]; exact S.nd.sublist (List.take_sublist _ _)
    refine ⟨u, rv, ?_⟩
    rcases S.par y (List.mem_of_getElem? hp) with k | k
    · exact .inl ⟨k, oP ndP hp hu k⟩
    · obtain ⟨c, e⟩ := sN (n := s.heap.objs.size + 1) k
      refine .inr ⟨.inl k, c, e, ?_⟩
      have q := x.cell y c e
      rw [oB ndP hp hu (by show scope.names.lookup y ≠ _; rw [k]; decide)] at q
      exact q
  · exact e0.hok.fresh (Nat.le_of_lt (x.above y c (PySem.mem_of_lookup h)))
  · unfold gK
    show _ = N.length
    rw [List.length_append, List.length_map, List.length_replicate]
    omega
theorem Cl {CX : CXT} {P : Program} {w : World} {K : PySem.W.Frag} {mg : Str → Option Value} {base : Heap} {k : Nat} {f : Addr} {name qual : Str} {params : Arguments} {body : List Stmt} {scope : Scope} {dV kV doc pm cdv ct oc : Value} {an od : Option Addr}
    {osl : Array (Option Value)} {N ps : List Str} {sp : Sp} (lk : K.lookup f = some ⟨oc, od, .func (PySem.W.fnOf name qual params body scope dV kV doc pm an cdv ct), osl⟩) (hcd : PySem.W.codeIn K cdv qual = true) (S : aB N ps scope)
    (len : ∀ vs H Q E, sp vs H Q E → vs.length = ps.length)
    (hbody : ∀ (A : Around) (outer : List Env) (s : Shared) (H : Hp) (vs : List V) (Q : VK) (E : XK), Room k (A.deeper (envOfC qual scope s.heap.objs.size f cdv)) → sp vs H Q E →
      ∃ t, PSs (cG CX P w K mg base N qual scope f cdv A outer s H E) body t ∧ t { nx := fun _ H' => Q .non H', rt := Q } (gK N vs) H) :
    bD P w K mg base CX (k + 1) f (PySem.W.fnOf name qual params body scope dV kV doc pm an cdv ct) ps sp := by
  refine ⟨len, fun A outer s H args us vs Q E hr e0 hb r hsp => ?_⟩
  have hl := len _ _ _ _ hsp
  have KX : K.In s.heap := e0.mod.kin.keeps fun b o e => (e0.bs b o e).1
  have lim : s.heap.NoLimit := e0.mod.nolimit.keeps fun b o e => (e0.bs b o e).1
  have hkind : ∀ y ∈ ps.zip us, scope.names.lookup y.1 = some .local ∨ (scope.names.lookup y.1 = some .cell ∧ ((cellsFrom (s.heap.objs.size + 1) scope.names []).lookup y.1).isSome = true) := fun ⟨n, v⟩ hy => by
    rcases S.par n (List.of_mem_zip hy).1 with q | q
    · exact .inl q
    · exact .inr ⟨q, PySem.W.cellsFrom_some _ _ _ (.inl q)⟩
  refine codeAny_call_function hr.depth (KX _ _ lk) rfl S.co S.gen rfl (PySem.W.codeRec_of KX hcd) (hb _ _ _ _ ?_)
  refine wpAny_newFunctionEnv_cells S.kind hkind fun env he s1 x => ?_
  subst he
  refine ⟨lim.keeps x.toInCall.keep, codeAny_func ?_⟩
  obtain ⟨t, ht, hq⟩ := hbody A outer s H vs Q E (hr.deeper _) hsp
  have I : Inv (cG CX P w K mg base N qual scope f cdv A outer s H E) [] (gK N vs) H s1 := v7 S hr.hd e0 hl r x
  refine wpAny_mono (ht [] s1 (gK N vs) H _ I hq) (fun fl s' hs => ?_) fun e s' hs => hs
  have fin : ∀ {σ' : St} {H' : Hp} {v : V} {u : Value}, Inv (cG CX P w K mg base N qual scope f cdv A outer s H E) [] σ' H' s' → RelV v u → Q v H' → CE outer P w H s Q u s' :=
    fun {σ' H' v u} J rv q => ⟨v, H', J.os, J.bare, J.base, J.hok, rv, q⟩
  cases fl with
  | ret u =>
    obtain ⟨v, σ', H', J, rv, q⟩ := hs
    exact fin J rv q
  | next =>
    obtain ⟨σ', H', J, q⟩ := hs
    exact fin (v := V.non) (u := Value.none) J rfl q
  | brk =>
    obtain ⟨_, _, _, q⟩ := hs
    exact False.elim q
  | cont =>
    obtain ⟨_, _, _, q⟩ := hs
    exact False.elim q
end L2
namespace L2
open PySem PySem.Spec PyProof.Rows
section
variable {X : Cx} {x : Str} {p pos : Pos} {e : Expr} {es : List Expr} {t : TA} {id T : String} {r : List V → Hp → VK → Prop}
def tCB (r : List V → Hp → VK → Prop) (t : TA) : TE := fun σ H Q => t σ H fun vs H1 => r vs H1 Q
theorem ay (hc : CallR X (.builtin id) r) (hg : Gl X x) (hm : X.mg x = none) (hv : bootBuiltins x = some (.builtin id)) (ha : PA X (e :: es) t) (hn : x ≠ "__name__" := by decide) (hdb : (x == ("__debug__" : Str)) = false := by decide)
    (he : starEach (e :: es) X.env = (false, eval e X.env) :: starEach es X.env := by rfl) (hpl : (backTo pos (starEach es X.env)).any (·.1) = false := by rfl) : PE X (.Call (.Name x p) (e :: es) [] pos) (tCB r t) := by
  intro pins s σ H Q I h
  refine wpAny_Call_Name_kw (fW I hg hm hv ?_ hn hdb)
  exact PyProof.Rows.callWith_builtin1 (thn (ha pos pins s σ H _ I h) fun us s1 ⟨vs, H1, I1, r1, q1⟩ => hc pins s1 σ H1 vs us Q I1 r1 q1) he hpl
theorem iu (hc : CallR X (.type T) r) (hg : Gl X x) (hm : X.mg x = none) (hv : bootBuiltins x = some (.type T)) (ha : PA X (e :: es) t) (hn : x ≠ "__name__" := by decide) (hdb : (x == ("__debug__" : Str)) = false := by decide)
    (he : starEach (e :: es) X.env = (false, eval e X.env) :: starEach es X.env := by rfl) (hpl : (backTo pos (starEach es X.env)).any (·.1) = false := by rfl) : PE X (.Call (.Name x p) (e :: es) [] pos) (tCB r t) := by
  intro pins s σ H Q I h
  refine wpAny_Call_Name_kw (fW I hg hm hv ?_ hn hdb)
  exact PyProof.Rows.callWith_type1 (thn (ha pos pins s σ H _ I h) fun us s1 ⟨vs, H1, I1, r1, q1⟩ => hc pins s1 σ H1 vs us Q I1 r1 q1) he hpl
end
end L2
namespace HT
open PySem PyProof.Rows
section
open PySem.SeqAt
open PySem.AutoSeq1 (wpAny_loadPart')
open PySem.MeetsSeq PySem.MeetsSeq2 PySem.MeetsSeq3
end
section
variable {prog : Program} {w : World} {A : Around} {E : Value → Shared → Prop} {s : Shared}
def sIx (n d : Nat) : Option Int → Nat
  | none => d
  | some v => if v < 0 then (v + (n : Int)).toNat else min v.toNat n
theorem sIx_none (n d : Nat) : sIx n d none = d := rfl
theorem sIx_nat (n d k : Nat) : sIx n d (some (k : Int)) = min k n := by
  show (if (k : Int) < 0 then ((k : Int) + (n : Int)).toNat else min (k : Int).toNat n) = min k n
  rw [if_neg (by omega), Int.toNat_natCast]
theorem sIx_le (n d : Nat) (hd : d ≤ n) (o : Option Int) : sIx n d o ≤ n := by
  cases o with
  | none => exact hd
  | some v =>
    show (if v < 0 then (v + (n : Int)).toNat else min v.toNat n) ≤ n
    by_cases hv : v < 0
    · rw [if_pos hv]; omega
    · rw [if_neg hv]; exact Nat.min_le_right _ _
end
end HT
namespace L2
open PySem PySem.Spec PyProof.Rows
abbrev TO := St → Hp → (Option Int → Hp → Prop) → Prop
def PO (X : Cx) (e : Option Expr) (t : TO) : Prop :=
  ∀ (pins : List (Addr × Obj)) (s : Shared) (σ : St) (H : Hp) (Q : Option Int → Hp → Prop), Inv X pins σ H s → t σ H Q →
    wpAny (model X.prog X.w) X.A (evalPart e X.env) (fun u s' => ∃ o H', Inv X pins σ H' s' ∧ IsPart u o ∧ Q o H') X.xe s
def uw : TO := fun _ H Q => Q none H
def zO (t : TE) : TO := fun σ H Q => t σ H fun x H1 => ∃ i, x = .int i ∧ Q (some i) H1
theorem mo {ns : List Int} : ∀ {us : List Value}, Vals (ns.map V.int) us → IntsAre us ns := by
  induction ns with
  | nil => intro us r; rw [List.map_nil] at r; cases r; exact .nil
  | cons n ns ih =>
    intro us r
    rw [List.map_cons] at r
    cases r with
    | cons r1 r2 =>
      obtain ⟨t, e⟩ := r1
      subst e
      exact .cons n t (ih r2)
section
variable {X : Cx} {e : Expr} {te : TE} {lo hi : Option Expr} {tl th : TO} {pos p2 : Pos}
theorem ip : PO X none uw := by
  intro pins s σ H Q I h
  rw [evalPart_none]
  exact wpAny_pure ⟨none, H, I, .none, h⟩
theorem iq (h : PE X e te) : PO X (some e) (zO te) := by
  intro pins s σ H Q I hw
  rw [evalPart_some]
  refine thn (h pins s σ H _ I hw) fun u s1 ⟨x, H1, I1, r1, q1⟩ => ?_
  obtain ⟨i, rfl, q⟩ := q1
  obtain ⟨t, rfl⟩ := r1
  exact ⟨some i, H1, I1, .int i t, q⟩
def SlR (X : Cx) (r : V → Option Int → Option Int → Hp → VK → Prop) : Prop :=
  ∀ (pins : List (Addr × Obj)) (s : Shared) (σ : St) (H : Hp) (x : V) (v vl vu : Value) (lo hi : Option Int) (sl : Addr) (Q : VK), Inv X pins σ H s → RelV x v → s.heap.IsSliceOf sl vl vu .none → IsPart vl lo → IsPart vu hi → r x lo hi H Q →
    ∃ T id, typeLookup (.type T) "__getitem__" = pure (some (.builtin id)) ∧ s.TypeIs v T ∧ wpAny (model X.prog X.w) X.A (getItem v (.ref sl)) (EP X pins σ Q) X.xe s
def tSl (r : V → Option Int → Option Int → Hp → VK → Prop) (te : TE) (tl th : TO) : TE := fun σ H Q => te σ H fun x H1 => tl σ H1 fun l H2 => th σ H2 fun u H3 => r x l u H3 Q
theorem fT {r : V → Option Int → Option Int → Hp → VK → Prop} (hr : SlR X r) (he : PE X e te) (hl : PO X lo tl) (hu : PO X hi th) : PE X (.Subscript e (.Slice lo hi none p2) pos) (tSl r te tl th) := by
  intro pins s σ H Q I h
  refine Subscript_ (thn (he pins s σ H _ I h) fun v s1 ⟨x, H1, I1, r1, q1⟩ => ?_)
  refine wpAny_Slice (thn (hl pins s1 σ H1 _ I1 q1) fun vl s2 ⟨l, H2, I2, pl, q2⟩ => thn (hu pins s2 σ H2 _ I2 q2) fun vu s3 ⟨u, H3, I3, pu, q3⟩ => ?_)
  rw [evalPart_none]
  refine wpAny_pure ?_
  have I4 : Inv X pins σ H3 { s3 with heap := s3.heap.push { cls := .type "slice", data := .fields #[vl, vu, .none] } } := I3.kept (t' := s3.toks) fun b ob q => Heap.get?_push_of_some _ q
  obtain ⟨T, id, hT, ht, hg⟩ := hr pins { s3 with heap := s3.heap.push { cls := .type "slice", data := .fields #[vl, vu, .none] } } σ H3 x v vl vu l u s3.heap.objs.size Q I4 r1 (Heap.IsSliceOf.new ..) pl pu q3
  show wpAny (model X.prog X.w) X.A (subscriptTail e (.Slice lo hi none p2) v (.ref s3.heap.objs.size)) (EP X pins σ Q) X.xe { s3 with heap := s3.heap.push { cls := .type "slice", data := .fields #[vl, vu, .none] } }
  exact tail_any (ops := [.ref s3.heap.objs.size, v]) ht hT hg (by with_unfolding_all rfl)
def vI (xs : List V) (lo hi : Option Int) : List V := (xs.drop (HT.sIx xs.length 0 lo)).take (HT.sIx xs.length xs.length hi - HT.sIx xs.length 0 lo)
theorem rJ (xs : List V) (lo hi : Option Int) : (vI xs lo hi).length ≤ xs.length := by
  unfold vI
  rw [List.length_take, List.length_drop]
  omega
end
end L2
namespace L2
open PySem PySem.Spec PyProof.Rows
def ixN (n : Nat) (i : Int) : Option Nat := if 0 ≤ i then (if i < n then some i.toNat else none) else if -(n : Int) ≤ i then some (i + n).toNat else none
def atI {α : Type} (xs : List α) (i : Int) : Option α := (ixN xs.length i).bind fun j => xs[j]?
theorem zx {n : Nat} {i : Int} {j : Nat} (h : ixN n i = some j) : seqIndex? i n = some j ∧ j < n ∧ -(n : Int) ≤ i ∧ i < n := by
  unfold ixN at h
  by_cases h0 : 0 ≤ i
  · rw [if_pos h0] at h
    by_cases h1 : i < n
    · rw [if_pos h1] at h
      have e : i.toNat = j := Option.some.inj h
      exact ⟨by rw [seqIndex_of h0 h1, e], by omega, by omega, h1⟩
    · rw [if_neg h1] at h; cases h
  · rw [if_neg h0] at h
    by_cases h1 : -(n : Int) ≤ i
    · rw [if_pos h1] at h
      have e : (i + n).toNat = j := Option.some.inj h
      exact ⟨by rw [seqIndex_neg (by omega) h1, e], by omega, h1, by omega⟩
    · rw [if_neg h1] at h; cases h
theorem ql {α : Type} {xs : List α} {i : Int} {v : α} (h : atI xs i = some v) : ∃ j, seqIndex? i xs.length = some j ∧ xs[j]? = some v ∧ j < xs.length ∧ -(xs.length : Int) ≤ i ∧ i < xs.length := by
  unfold atI at h
  cases e : ixN xs.length i with
  | none => rw [e] at h; cases h
  | some j =>
    rw [e] at h
    obtain ⟨h1, h2, h3, h4⟩ := zx e
    exact ⟨j, h1, h, h2, h3, h4⟩
theorem bz {α : Type} {xs : List α} {j : Nat} {v : α} (h : xs[j]? = some v) : atI xs (j : Int) = some v := by
  have hj : j < xs.length := (List.getElem?_eq_some_iff.mp h).1
  have e : ixN xs.length (j : Int) = some j := by
    unfold ixN
    rw [if_pos (by omega), if_pos (by omega)]; simp
  unfold atI; rw [e]; exact h
theorem m8 {α : Type} (xs : List α) (v : α) : atI (xs ++ [v]) (-1) = some v := by
  have hl : (xs ++ [v]).length = xs.length + 1 := by simp
  have e : ixN (xs ++ [v]).length (-1) = some xs.length := by
    unfold ixN
    rw [hl, if_neg (by decide), if_pos (by omega)]
    congr 1
    omega
  unfold atI
  rw [e]
  show (xs ++ [v])[xs.length]? = some v
  simp
def uC (b : Expr) : Prop := ∀ o i, subscripted b false o i = operate [o, i] (getItem o i)
def IxR (X : Cx) (r : R2) : Prop :=
  ∀ (value slice : Expr) (pins : List (Addr × Obj)) (s : Shared) (σ : St) (H : Hp) (x y : V) (v u : Value) (Q : VK), Inv X pins σ H s → RelV x v → RelV y u → r x y H Q →
    subscripted slice false v u = operate [v, u] (getItem v u) → wpAny (model X.prog X.w) X.A (subscriptTail value slice v u) (EP X pins σ Q) X.xe s
def MtR (X : Cx) (id : String) (r : V → List V → Hp → VK → Prop) : Prop :=
  ∀ (pins : List (Addr × Obj)) (s : Shared) (σ : St) (H : Hp) (x : V) (xs : List V) (v : Value) (us : List Value) (Q : VK), Inv X pins σ H s → RelV x v → Vals xs us → r x xs H Q →
    wpAny (model X.prog X.w) X.A (call (.builtin id) (v :: us)) (EP X pins σ Q) X.xe s
section
variable {X : Cx} {a b : Expr} {ta tb : TE} {pos : Pos}
theorem IxR.or {r r' : R2} (h : IxR X r) (h' : IxR X r') : IxR X (fun x y H Q => r x y H Q ∨ r' x y H Q) := by
  intro value slice pins s σ H x y v u Q I rx ry q hs
  rcases q with q | q
  · exact h value slice pins s σ H x y v u Q I rx ry q hs
  · exact h' value slice pins s σ H x y v u Q I rx ry q hs
theorem aV {r : R2} (hr : IxR X r) (ha : PE X a ta) (hb : PE X b tb) (hs : uC b) : PE X (.Subscript a b pos) (tOp r ta tb) := by
  intro pins s σ H Q I h
  exact Subscript_ (Ax ha hb I h fun v u s2 x y H2 I2 rx ry q => hr a b pins s2 σ H2 x y v u Q I2 rx ry q (hs _ _))
def Cb (K : PySem.W.Frag) : R2 := fun x y H Q => ∃ p xs i v, x = .ref p ∧ y = .int i ∧ SqL K H p xs ∧ atI xs i = some v ∧ Q v H
def Cq (K : PySem.W.Frag) : R2 := fun x y H Q => ∃ p xs i v, x = .ref p ∧ y = .int i ∧ SqT K H p xs ∧ atI xs i = some v ∧ Q v H
def Cs : R2 := fun x y H Q => ∃ z i c, x = .str z ∧ y = .int i ∧ z.length ≤ sizeLine ∧ atI z.cps.toList i = some c ∧ Q (.str ⟨#[c]⟩) H
theorem uL : IxR X (Cb X.K) := by
  intro value slice pins s σ H x y v u Q I rx ry h hs
  obtain ⟨p, xs, i, z, rfl, rfl, hq, he, q⟩ := h
  cases rx
  obtain ⟨t, rfl⟩ := ry
  obtain ⟨its, r, pl, hz⟩ := I.list hq
  obtain ⟨j, h1, h2, h3, h4, h5⟩ := ql he
  obtain ⟨w, ew, rw'⟩ := r.get h2
  have hl := r.length
  have hn := m4
  have fin : EP X pins σ Q w s := ⟨z, H, I, rw', q⟩
  by_cases h0 : 0 ≤ i
  · have hj : i.toNat = j := by
      rw [seqIndex_of h0 h5] at h1
      exact Option.some.inj h1
    exact item_listR pl.isList h0 (by omega) (by rw [hj]; simpa using ew) fin hs
  · have hj : (i + (its.toArray.size : Int)).toNat = j := by
      rw [seqIndex_neg (by omega) h4] at h1
      rw [List.size_toArray, ← hl]
      exact Option.some.inj h1
    exact subscriptTail_builtinR (x := w) pl.isList.typeIs slot_list_getitem.lookup
      (wpAny_getItem_list_neg (Q := fun r s' => r = w ∧ EP X pins σ Q r s') pl.isList (by omega) (by rw [List.size_toArray] <;> omega) (by omega) (by rw [hj]; simpa using ew) ⟨rfl, fin⟩) hs
theorem Bv : IxR X (Cq X.K) := by
  intro value slice pins s σ H x y v u Q I rx ry h hs
  obtain ⟨p, xs, i, z, rfl, rfl, hq, he, q⟩ := h
  cases rx
  obtain ⟨t, rfl⟩ := ry
  obtain ⟨its, r, pl, hz⟩ := I.tuple hq
  obtain ⟨j, h1, h2, h3, h4, h5⟩ := ql he
  obtain ⟨w, ew, rw'⟩ := r.get h2
  have hl := r.length
  have hn := m4
  have fin : EP X pins σ Q w s := ⟨z, H, I, rw', q⟩
  exact subscriptTail_builtinR (x := w) pl.typeIs slot_tuple_getitem.lookup
    (getItem_tuple (j := j) (Q := fun r s' => r = w ∧ EP X pins σ Q r s') pl (by omega) (by omega) (by rw [List.size_toArray, ← hl]; exact h1) (by simpa using ew) ⟨rfl, fin⟩) hs
theorem BA : IxR X Cs := by
  intro value slice pins s σ H x y v u Q I rx ry h hs
  obtain ⟨z, i, c, rfl, rfl, hz, he, q⟩ := h
  obtain ⟨t, rfl⟩ := rx
  obtain ⟨t', rfl⟩ := ry
  obtain ⟨j, h1, h2, h3, h4, h5⟩ := ql he
  have hl : z.cps.toList.length = z.length := by simp [Str.length]
  rw [hl] at h1 h4 h5
  have hn := m4
  exact tail_any (typeIs_str s z t) slot_str_getitem.lookup (getItem_str (c := c) (by
    have e1 : decide (i < -(2 ^ 63 : Int)) = false := decide_eq_false (by omega)
    have e2 : decide (i ≥ 2 ^ 63) = false := decide_eq_false (by omega)
    rw [e1, e2, Bool.or_false]) (by rw [h1]; simpa using h2) ⟨.str ⟨#[c]⟩, H, I.tok _, ⟨_, rfl⟩, q⟩) hs
def rIx (K : PySem.W.Frag) : R2 := fun x y H Q => Cb K x y H Q ∨ Cq K x y H Q ∨ Cs x y H Q
theorem AT : IxR X (rIx X.K) := uL.or (Bv.or BA)
theorem jW (lo hi : Option Int) (n : Nat) : (sliceBounds lo hi none n).1 = ((HT.sIx n 0 lo : Nat) : Int) ∧ (sliceBounds lo hi none n).2.1 = ((HT.sIx n n hi : Nat) : Int) ∧ (sliceBounds lo hi none n).2.2 = 1 := by
  refine ⟨?_, ?_, rfl⟩
  · cases lo with
    | none => simp [sliceBounds, HT.sIx]
    | some i =>
      simp only [sliceBounds, HT.sIx, Option.getD_none, show (1 : Int) > 0 by decide, if_true]
      by_cases h : i < 0
      · simp only [h, if_true] <;> omega
      · simp only [h, if_false] <;> omega
  · cases hi with
    | none => simp [sliceBounds, HT.sIx]
    | some i =>
      simp only [sliceBounds, HT.sIx, Option.getD_none, show (1 : Int) > 0 by decide, if_true]
      by_cases h : i < 0
      · simp only [h, if_true] <;> omega
      · simp only [h, if_false] <;> omega
theorem oq (its : List Value) (lo hi : Option Int) : slicePick its.toArray lo hi none = ((its.drop (HT.sIx its.length 0 lo)).take (HT.sIx its.length its.length hi - HT.sIx its.length 0 lo)).toArray := by
  obtain ⟨h1, h2, h3⟩ := jW lo hi its.toArray.size
  unfold slicePick
  rw [h1, h2, h3]
  simp only [sliceRange_one, pick_run, List.size_toArray] <;> rfl
def Cp (K : PySem.W.Frag) : V → Option Int → Option Int → Hp → VK → Prop := fun x lo hi H Q => ∃ a xs, x = .ref a ∧ SqL K H a xs ∧ ∀ p, H p = none → Q (.ref p) (upd H p (.lst (vI xs lo hi)))
theorem zv : SlR X (Cp X.K) := by
  intro pins s σ H x v vl vu lo hi sl Q I rx hs pl pu h
  obtain ⟨a, xs, rfl, hx, q⟩ := h
  cases rx
  obtain ⟨its, r, ht, hz⟩ := I.list hx
  have hlen := r.length
  refine ⟨"list", _, slot_list_getitem.lookup, ht.isList.typeIs, ?_⟩
  refine wpAny_getItem_list_slice ht.isList hs pl pu .none (by simp) ?_ (by rw [List.size_toArray] <;> omega)
  rw [oq, ← hlen]
  refine ⟨.ref s.heap.objs.size, _, I.laid (t' := s.toks) (o := .lst (vI xs lo hi)) (fun b ob q => Heap.get?_push_of_some _ q) (Nat.le_refl _) ?_, rfl, q _ (I.hok.fresh (Nat.le_refl _))⟩
  exact ⟨Nat.le_trans (rJ xs lo hi) hz, _, 0, (r.drop (HT.sIx xs.length 0 lo)).take (HT.sIx xs.length xs.length hi - HT.sIx xs.length 0 lo), Heap.get?_push_size _ rfl⟩
def dP : V → Bool
  | .non => true
  | .bl _ => true
  | .int _ => true
  | .str _ => true
  | _ => false
def eqV : V → V → Bool
  | .non, .non => true
  | .bl a, .bl b => a == b
  | .bl a, .int b => (if a then 1 else 0) == b
  | .int a, .bl b => a == (if b then 1 else 0)
  | .int a, .int b => a == b
  | .str a, .str b => a == b
  | _, _ => false
theorem sZ {A : Around} {s : Shared} {y x : V} {u v : Value} (ry : RelV y u) (rx : RelV x v) (fy : dP y = true) (fx : dP x = true) : SeqAt.EqAt A s u v (eqV y x) := by
  cases y with
  | non =>
    cases ry
    cases x with
    | non => cases rx; exact SeqAt.EqAt.same _
    | bl b => cases rx; exact SeqAt.EqAt.none_bool b
    | int b => obtain ⟨t, rfl⟩ := rx; exact SeqAt.EqAt.none_int b t
    | str b => obtain ⟨t, rfl⟩ := rx; exact SeqAt.EqAt.none_str b t
    | _ => exact absurd (show false = true from fx) Bool.false_ne_true
  | bl a =>
    cases ry
    cases x with
    | non => cases rx; exact SeqAt.EqAt.bool_none a
    | bl b => cases rx; exact SeqAt.EqAt.bool_bool a b
    | int b => obtain ⟨t, rfl⟩ := rx; exact SeqAt.EqAt.bool_int a b t
    | str b => obtain ⟨t, rfl⟩ := rx; exact SeqAt.EqAt.bool_str a b t
    | _ => exact absurd (show false = true from fx) Bool.false_ne_true
  | int a =>
    obtain ⟨t', rfl⟩ := ry
    cases x with
    | non => cases rx; exact SeqAt.EqAt.int_none a t'
    | bl b => cases rx; exact SeqAt.EqAt.int_bool a t' b
    | int b => obtain ⟨t, rfl⟩ := rx; exact SeqAt.EqAt.int_int a t' b t
    | str b => obtain ⟨t, rfl⟩ := rx; exact SeqAt.EqAt.int_str a t' b t
    | _ => exact absurd (show false = true from fx) Bool.false_ne_true
  | str a =>
    obtain ⟨t', rfl⟩ := ry
    cases x with
    | non => cases rx; exact SeqAt.EqAt.str_none a t'
    | bl b => cases rx; exact SeqAt.EqAt.str_bool a t' b
    | int b => obtain ⟨t, rfl⟩ := rx; exact SeqAt.EqAt.str_int a t' b t
    | str b => obtain ⟨t, rfl⟩ := rx; exact SeqAt.EqAt.str_str a t' b t
    | _ => exact absurd (show false = true from fx) Bool.false_ne_true
  | _ => exact absurd (show false = true from fy) Bool.false_ne_true
def eqU (x : V) (u : Value) : Bool := match u with
  | .none => eqV .non x
  | .bool b => eqV (.bl b) x
  | .int i _ => eqV (.int i) x
  | .str z _ => eqV (.str z) x
  | _ => false
theorem wR {x y : V} {u : Value} (r : RelV y u) (f : dP y = true) : eqU x u = eqV y x := by
  cases y with
  | non => cases r; rfl
  | bl b => cases r; rfl
  | int i => obtain ⟨t, rfl⟩ := r; rfl
  | str z => obtain ⟨t, rfl⟩ := r; rfl
  | _ => exact absurd (show false = true from f) Bool.false_ne_true
theorem pT {x : V} : ∀ {xs : List V} {us : List Value}, Vals xs us → xs.all dP = true → us.any (eqU x) = xs.any fun y => eqV y x
  | _, _, .nil, _ => rfl
  | y :: xs, u :: us, .cons r t, f => by
    rw [List.all_cons, Bool.and_eq_true] at f
    rw [List.any_cons, List.any_cons, wR r f.1, pT t f.2]
theorem nj {A : Around} {s : Shared} {x : V} {v : Value} (rx : RelV x v) (fx : dP x = true) : ∀ {xs : List V} {us : List Value}, Vals xs us → xs.all dP = true → ∀ u ∈ us, SeqAt.EqAt A s u v (eqU x u)
  | _, _, .nil, _ => fun u hu => by cases hu
  | y :: xs, u :: us, .cons r t, f => fun u' hu => by
    rw [List.all_cons, Bool.and_eq_true] at f
    rcases List.mem_cons.mp hu with rfl | hu
    · rw [wR r f.1]; exact sZ r rx f.1 fx
    · exact nj rx fx t f.2 u' hu
def inV (x : V) (xs : List V) : Bool := xs.any fun y => eqV y x
def rIn (K : PySem.W.Frag) (neg : Bool) : R2 := fun x y H Q => ∃ p xs, y = .ref p ∧ (SqL K H p xs ∨ SqT K H p xs) ∧ dP x = true ∧ xs.all dP = true ∧ Q (.bl (if neg then !inV x xs else inV x xs)) H
theorem qq : OpR X (compareOp .NotIn) (rIn X.K true) := by
  intro pins s σ H x y v u Q I rx ry h
  obtain ⟨p, xs, rfl, hq, fx, fs, q⟩ := h
  cases ry
  rcases hq with hq | hq
  · obtain ⟨its, r, pl, hz⟩ := I.list hq
    refine SeqAt.notIn_listAt (eqU x) pl.isList (fun w hw => nj rx fx r fs w (by simpa using hw)) ⟨.bl _, H, I, rfl, ?_⟩
    rw [show its.toArray.any (eqU x) = its.any (eqU x) by simp, pT r fs]
    exact q
  · obtain ⟨its, r, pl, hz⟩ := I.tuple hq
    refine SeqAt.notIn_tupleAt (eqU x) pl (fun w hw => nj rx fx r fs w (by simpa using hw)) ⟨.bl _, H, I, rfl, ?_⟩
    rw [show its.toArray.any (eqU x) = its.any (eqU x) by simp, pT r fs]
    exact q
theorem CallR.or {f : Value} {r r' : List V → Hp → VK → Prop} (h : CallR X f r) (h' : CallR X f r') : CallR X f (fun xs H Q => r xs H Q ∨ r' xs H Q) := by
  intro pins s σ H xs us Q I rs q
  rcases q with q | q
  · exact h pins s σ H xs us Q I rs q
  · exact h' pins s σ H xs us Q I rs q
theorem pZ : CallR X (.type "list") (fun xs H Q => ∃ p ys, xs = [.ref p] ∧ (SqL X.K H p ys ∨ SqT X.K H p ys) ∧ ∀ l, H l = none → Q (.ref l) (upd H l (.lst ys))) := by
  intro pins s σ H xs us Q I r h
  obtain ⟨p, ys, rfl, hq, q⟩ := h
  obtain ⟨u, rfl, rx⟩ := eh r
  cases rx
  have fin : ∀ (its : List Value), Vals ys its → ys.length ≤ sizeLine → ∀ (h' : Heap) (c' : Nat), (∀ b o', s.heap.get? b = some o' → h'.get? b = some o') →
      h'.get? s.heap.objs.size = some { cls := .type "list", dict := none, data := .seq its.toArray c', slots := #[] } → EP X pins σ Q (.ref s.heap.objs.size) { s with heap := h' } := fun its r' hz h' c' kp e =>
    ⟨.ref s.heap.objs.size, _, I.laid (t' := s.toks) kp (Nat.le_refl _) (show ObjOk X.prog X.w _ h' _ (.lst ys) from ⟨hz, its, c', r', e⟩), rfl, q _ (I.hok.fresh (Nat.le_refl _))⟩
  rcases hq with hq | hq
  · obtain ⟨its, r', pl, hz⟩ := I.list hq
    have hlen := r'.length
    obtain ⟨o, ho, hc, n, hd⟩ := pl.isList
    exact call_list_seq p (.inl rfl) ho hc hd (fun h' c' kp e => fin its r' hz h' c' kp e) (by simp only [List.size_toArray] <;> omega)
  · obtain ⟨its, r', pl, hz⟩ := I.tuple hq
    have hlen := r'.length
    obtain ⟨o, ho, hc, n, hd⟩ := pl
    exact call_list_seq p (.inr rfl) ho hc hd (fun h' c' kp e => fin its r' hz h' c' kp e) (by simp only [List.size_toArray] <;> omega)
theorem nQ : CallR X (.type "tuple") (fun xs H Q => ∃ p ys, xs = [.ref p] ∧ ((SqL X.K H p ys ∧ ∀ l, H l = none → Q (.ref l) (upd H l (.tup ys))) ∨ (SqT X.K H p ys ∧ Q (.ref p) H))) := by
  intro pins s σ H xs us Q I r h
  obtain ⟨p, ys, rfl, h⟩ := h
  obtain ⟨u, rfl, rx⟩ := eh r
  cases rx
  rcases h with ⟨hq, q⟩ | ⟨hq, q⟩
  · obtain ⟨its, r', pl, hz⟩ := I.list hq
    have hlen := r'.length
    refine call_tuple_list pl.isList (fun h' kp => ?_) (by simp only [List.size_toArray] <;> omega)
    have I1 : Inv X pins σ H { s with heap := h' } := I.kept (t' := s.toks) kp
    have I2 : Inv X pins σ (upd H h'.objs.size (.tup ys)) { s with heap := h'.push { cls := .type "tuple", data := .seq its.toArray } } :=
      I1.laid (t' := s.toks) (fun b o e => Heap.get?_push_of_some _ e) (Nat.le_refl _) (show ObjOk X.prog X.w _ _ _ (.tup ys) from ⟨hz, its, r', IsTup.new _ _⟩)
    exact ⟨.ref h'.objs.size, _, I2, rfl, q _ (I1.hok.fresh (Nat.le_refl _))⟩
  · obtain ⟨its, r', pl, hz⟩ := I.tuple hq
    exact call_tuple_same pl ⟨.ref p, H, I, rfl, q⟩
def tyV (K : PySem.W.Frag) (T : String) (x : V) (H : Hp) : Prop := match x with
  | .str _ => T = "str"
  | .int _ => T = "int"
  | .ref p => (T = "list" ∧ ∃ xs, SqL K H p xs) ∨ (T = "tuple" ∧ ∃ o, K.lookup p = some o ∧ o.cls = .type "tuple" ∧ o.dict = none) ∨
      (T = "dict" ∧ ((∃ kvs, H p = some (.dK kvs)) ∨ ∃ kvs, H p = some (.dT kvs))) ∨ (T = "set" ∧ ∃ S n, H p = some (.set S n))
  | _ => False
theorem wN {pins : List (Addr × Obj)} {σ : St} {H : Hp} {s : Shared} {T : String} {x : V} {v : Value} (I : Inv X pins σ H s) (r : RelV x v) (ty : tyV X.K T x H) :
    s.TypeIs v T ∧ ∀ a, v = .ref a → ∃ ob, s.heap.get? a = some ob ∧ ob.dict = none := by
  cases x with
  | str z =>
    obtain ⟨t, rfl⟩ := r
    cases (show T = "str" from ty)
    exact ⟨typeIs_str s z t, fun _ e => nomatch e⟩
  | int i =>
    obtain ⟨t, rfl⟩ := r
    cases (show T = "int" from ty)
    exact ⟨typeIs_int s i t, fun _ e => nomatch e⟩
  | ref p =>
    cases r
    rcases ty with ⟨rfl, xs, hq⟩ | ⟨rfl, o, hk, hc, hd⟩ | ⟨rfl, hk⟩ | ⟨rfl, S, n, hk⟩
    · obtain ⟨its, _, pl, _⟩ := I.list hq
      refine ⟨pl.isList.typeIs, fun a e => ?_⟩
      cases e
      obtain ⟨o, n, e, c, hd, _⟩ := pl
      exact ⟨o, e, hd⟩
    · refine ⟨⟨o, I.kIn p o hk, hc⟩, fun a e => ?_⟩
      cases e
      exact ⟨o, I.kIn _ o hk, hd⟩
    · have z : ∃ o, s.heap.get? p = some o ∧ o.ExactDict := by
        rcases hk with ⟨kvs, hk⟩ | ⟨kvs, hk⟩
        · obtain ⟨_, _, _, _, o, _, _, e, ex, _⟩ := I.hok p _ hk
          exact ⟨o, e, ex⟩
        · obtain ⟨_, _, _, _, o, _, _, e, ex, _⟩ := I.hok p _ hk
          exact ⟨o, e, ex⟩
      obtain ⟨o, e, ex⟩ := z
      refine ⟨⟨o, e, ex.1⟩, fun a e2 => ?_⟩
      cases e2
      exact ⟨o, e, ex.2.1⟩
    · obtain ⟨o, _, _, _, e, ex, _⟩ := I.hok p _ hk
      refine ⟨⟨o, e, ex.1⟩, fun a e2 => ?_⟩
      cases e2
      exact ⟨o, e, ex.2.1⟩
  | _ => exact False.elim ty
def AI (K : PySem.W.Frag) (T : String) (r : V → List V → Hp → VK → Prop) (to : TE) : TE := fun σ H Q => to σ H fun x H1 => tyV K T x H1 ∧ r x [] H1 Q
def tBM (K : PySem.W.Frag) (T : String) (r : V → List V → Hp → VK → Prop) (to : TE) (t : TA) : TE := fun σ H Q => to σ H fun x H1 => tyV K T x H1 ∧ t σ H1 fun xs H2 => r x xs H2 Q
variable {o e : Expr} {es : List Expr} {to : TE} {t : TA} {name : Str} {apos cpos : Pos} {T id : String} {r : V → List V → Hp → VK → Prop}
theorem A9 (pa : PlainAttrs T) (slot : Slot T name id) (hty : typeOf (.builtin id) = pure (.type "method_descriptor")) (hm : MtR X id r) (ho : PE X o to)
    (hbase : attributeBase o name X.env (eval o X.env) = eval o X.env := by rfl) (hline : (apos.endLine == cpos.line) = true := by rfl) : PE X (.Call (.Attribute o name apos) [] [] cpos) (AI X.K T r to) := by
  intro pins s σ H Q I h
  refine wpAny_Call_method0_late hbase hline (thn (ho pins s σ H _ I h) fun v s1 ⟨x, H1, I1, r1, ty, q1⟩ => ?_)
  obtain ⟨h1, h2⟩ := wN I1 r1 ty
  exact ⟨T, id, pa, slot, hty, h1, h2, Calls.callWith_builtin rfl (PySem.evalArgs_none (hm pins s1 σ H1 x [] v [] Q I1 r1 .nil q1))⟩
theorem Cj (pa : PlainAttrs T) (slot : Slot T name id) (hty : typeOf (.builtin id) = pure (.type "method_descriptor")) (hm : MtR X id r) (ho : PE X o to) (ha : PA X (e :: es) t)
    (hbase : attributeBase o name X.env (eval o X.env) = eval o X.env := by rfl)
    (hfew : ((backTo cpos (starEach (e :: es) X.env)).all (fun x => !x.1) && (backToKw cpos (keywordEach [] X.env)).all (fun x => x.1.isSome)
      && decide ((e :: es).length + ([] : List Keyword).length + (if ([] : List Keyword).isEmpty then 0 else 1) < 30)) = true := by rfl)
    (hline : (apos.endLine == cpos.line) = true := by rfl) (hs : starEach (e :: es) X.env = (false, eval e X.env) :: starEach es X.env := by rfl) (hplain : (backTo cpos (starEach es X.env)).any (·.1) = false := by rfl) :
    PE X (.Call (.Attribute o name apos) (e :: es) [] cpos) (tBM X.K T r to t) := by
  intro pins s σ H Q I h
  refine wpAny_Call_method_late hbase hfew hline rfl (thn (ho pins s σ H _ I h) fun v s1 ⟨x, H1, I1, r1, ty, q1⟩ => ?_)
  obtain ⟨h1, h2⟩ := wN I1 r1 ty
  refine ⟨T, id, pa, slot, hty, h1, h2, ?_⟩
  have hA := ha cpos pins s1 σ H1 _ I1 q1
  rw [hs] at hA ⊢
  refine Calls.callWith_builtin (by show (false || (backTo cpos (starEach es X.env)).any (·.1)) = false; rw [hplain] <;> rfl) (Calls.evalArgs_plain ?_)
  exact thn hA fun us s2 ⟨vs, H2, I2, r2, q2⟩ => hm pins s2 σ H2 x vs v us Q I2 r1 r2 q2
end
end L2
namespace L2
open PySem PySem.Spec PyProof.Rows
def MtM (X : Cx) (id : String) (r : V → List V → Hp → VK → Prop) : Prop :=
  ∀ (pins : List (Addr × Obj)) (s : Shared) (σ : St) (H : Hp) (x : V) (xs : List V) (v : Value) (us : List Value) (Q : VK), Inv X pins σ H s → RelV x v → Vals xs us → r x xs H Q →
    wpAny (model X.prog X.w) X.A (call (.builtin id) (v :: us)) (EP X pins σ Q) X.xe s
theorem Vals.one : ∀ {x : V} {us : List Value}, Vals [x] us → ∃ u, us = [u] ∧ RelV x u
  | _, _, .cons r .nil => ⟨_, rfl, r⟩
theorem Vals.zero : ∀ {us : List Value}, Vals [] us → us = []
  | _, .nil => rfl
theorem Vals.dropLast {xs : List V} {us : List Value} (h : Vals xs us) : Vals xs.dropLast us.dropLast := by
  induction h with
  | nil => exact .nil
  | cons r t ih =>
    cases t with
    | nil => exact .nil
    | cons q t' => exact .cons r ih
theorem uh {α : Type} (l : List α) : l.eraseIdx (l.length - 1) = l.dropLast := by
  induction l with
  | nil => rfl
  | cons a r ih =>
    cases r with
    | nil => rfl
    | cons b r =>
      have e : (a :: b :: r).length - 1 = ((b :: r).length - 1) + 1 := by
        have h1 : (a :: b :: r).length = r.length + 2 := rfl
        have h2 : (b :: r).length = r.length + 1 := rfl
        omega
      rw [e, List.eraseIdx_cons_succ, ih]
      all_goals rfl
section
variable {X : Cx} {pins : List (Addr × Obj)} {σ : St} {H : Hp} {s : Shared} {l b : Addr} {xs ys zs : List V}
theorem Inv.lset {its its' : List Value} {n : Nat} {f : Array Value → Array Value} {t' : Nat} (I : Inv X pins σ H s) (hH : H l = some (.lst xs))
    (e : s.heap.get? l = some { cls := .type "list", data := .seq its.toArray n }) (hf : f its.toArray = its'.toArray) (hv : Vals ys its') (hz : ys.length ≤ sizeLine) :
    Inv X pins σ (upd H l (.lst ys)) { s with heap := s.heap.update l (Obj.mapSeq f), toks := t' } := by
  have q := PySem.IsL.update e f
  rw [hf] at q
  refine I.write (x := l) (e := l) (by rw [hH]; exact trivial) (.inl rfl) (fun b' u hb hu => (Heap.get?_update_other s.heap (Obj.mapSeq f) (Ne.symm hb)).trans hu) ⟨_, q⟩ ?_
  exact ⟨hz, its', _, hv, q⟩
theorem Inv.lnew {its : List Value} {t' : Nat} (I : Inv X pins σ H s) (hv : Vals ys its) (hz : ys.length ≤ sizeLine) :
    Inv X pins σ (upd H s.heap.objs.size (.lst ys)) { s with heap := s.heap.push { cls := .type "list", data := .seq its.toArray }, toks := t' } :=
  I.laid (fun _ _ q => Heap.get?_push_of_some _ q) (Nat.le_refl _) ⟨hz, its, 0, hv, Heap.get?_push_size _ rfl⟩
theorem Inv.fresh (I : Inv X pins σ H s) : H s.heap.objs.size = none := I.hok.fresh (Nat.le_refl _)
theorem Inv.lstM (I : Inv X pins σ H s) (hH : H l = some (.lst xs)) : xs.length ≤ sizeLine ∧ ∃ (its : List Value) (n : Nat), Vals xs its ∧ xs.length = its.length ∧ s.heap.get? l = some { cls := .type "list", data := .seq its.toArray n } := by
  obtain ⟨z, its, n, r, e⟩ := I.hok l _ hH
  exact ⟨z, its, n, r, r.length, e⟩
theorem wT {n : Nat} (h : n ≤ sizeLine) : Builtin.List.listTooLong n = false := by
  unfold Builtin.List.listTooLong
  exact decide_eq_false (by omega)
end
section
variable {X : Cx}
def uP : V → List V → Hp → VK → Prop := fun x vs H Q => ∃ l xs y, x = .ref l ∧ vs = [y] ∧ H l = some (.lst xs) ∧ xs.length < sizeLine ∧ Q .non (upd H l (.lst (xs ++ [y])))
theorem bV : MtM X "list.append" uP := by
  intro pins s σ H x vs v us Q I rx rv h
  obtain ⟨l, xs, y, rfl, rfl, hH, hz, q⟩ := h
  cases rx
  obtain ⟨u, rfl, ru⟩ := rv.one
  obtain ⟨z, its, n, r, hl, e⟩ := I.lstM hH
  refine call_meets F.slot_list_append ⟨_, e, rfl⟩ F.entry_list_append (F.args_list_append_2 _ _) (PySem.list_append l its.toArray n u (by rw [List.size_toArray]; omega)) ⟨e, ?_⟩
  refine ⟨.non, _, I.lset (its' := its ++ [u]) hH e (by simp) (r.append (.cons ru .nil)) ?_, rfl, q⟩
  rw [List.length_append, List.length_singleton]
  omega
def zk : V → List V → Hp → VK → Prop := fun x vs H Q => ∃ l b xs zs, x = .ref l ∧ vs = [.ref b] ∧ H l = some (.lst xs) ∧ H b = some (.lst zs) ∧ xs.length + zs.length ≤ sizeLine ∧ Q .non (upd H l (.lst (xs ++ zs)))
theorem BK : MtM X "list.extend" zk := by
  intro pins s σ H x vs v us Q I rx rv h
  obtain ⟨l, b, xs, zs, rfl, rfl, hH, hB, hz, q⟩ := h
  cases rx
  obtain ⟨u, rfl, ru⟩ := rv.one
  cases ru
  obtain ⟨z, its, n, r, hl, e⟩ := I.lstM hH
  obtain ⟨z2, its2, n2, r2, hl2, e2⟩ := I.lstM hB
  have hsz : its.toArray.size + its2.toArray.size ≤ sizeLine := by rw [List.size_toArray, List.size_toArray]; omega
  have hlong : ¬ (!its.toArray.isEmpty && Builtin.List.listTooLong (its.toArray.size + its2.toArray.size)) = true := by
    rw [wT hsz, Bool.and_false]
    exact Bool.false_ne_true
  refine call_meets F.slot_list_extend ⟨_, e, rfl⟩ F.entry_list_extend (F.args_list_extend_2 _ _)
    (AutoSeq1.list_extend_list_list_0 l its.toArray n b its2.toArray n2 hlong (by rw [List.size_toArray]; omega) (by omega)) ⟨e, e2, ?_⟩
  refine ⟨.non, _, I.lset (its' := its ++ its2) hH e (by simp) (r.append r2) ?_, rfl, q⟩
  rw [List.length_append]
  omega
def Cy : V → List V → Hp → VK → Prop := fun x vs H Q => ∃ l xs y, x = .ref l ∧ vs = [] ∧ H l = some (.lst xs) ∧ xs[xs.length - 1]? = some y ∧ Q y (upd H l (.lst xs.dropLast))
theorem CD : MtM X "list.pop" Cy := by
  intro pins s σ H x vs v us Q I rx rv h
  obtain ⟨l, xs, y, rfl, rfl, hH, hy, q⟩ := h
  cases rx
  have hus := rv.zero
  subst hus
  obtain ⟨z, its, n, r, hl, e⟩ := I.lstM hH
  obtain ⟨u, hu, ru⟩ := r.get hy
  have hy' : its.toArray[its.toArray.size - 1]? = some u := by
    show its.toArray[its.length - 1]? = some u
    rw [← Array.getElem?_toList, ← hl]
    exact hu
  refine call_meets F.slot_list_pop ⟨_, e, rfl⟩ F.entry_list_pop (F.args_list_pop_1 _) (MeetsSeq.list_pop_last l its.toArray n u hy' (by rw [List.size_toArray]; omega)) ⟨e, ?_⟩
  refine ⟨y, _, I.lset (its' := its.dropLast) hH e ?_ r.dropLast ?_, ru, q⟩
  · show its.toArray.eraseIdxIfInBounds (its.toArray.size - 1) = its.dropLast.toArray
    rw [List.size_toArray, List.eraseIdxIfInBounds_toArray, uh]
  · rw [List.length_dropLast]
    omega
def xf : V → List V → Hp → VK → Prop := fun x vs H Q => ∃ l xs, x = .ref l ∧ vs = [] ∧ H l = some (.lst xs) ∧ Q .non (upd H l (.lst []))
theorem xW : MtM X "list.clear" xf := by
  intro pins s σ H x vs v us Q I rx rv h
  obtain ⟨l, xs, rfl, rfl, hH, q⟩ := h
  cases rx
  have hus := rv.zero
  subst hus
  obtain ⟨z, its, n, r, hl, e⟩ := I.lstM hH
  refine call_meets F.slot_list_clear ⟨_, e, rfl⟩ F.entry_list_clear (F.args_list_clear_1 _) (AutoSeq1.list_clear_list_0 l its.toArray n (by rw [List.size_toArray]; omega)) ⟨e, ?_⟩
  exact ⟨.non, _, I.lset (its' := []) (ys := []) hH e rfl .nil (Nat.zero_le _), rfl, q⟩
def Cu : R2 := fun x y H Q => ∃ l b xs zs, x = .ref l ∧ y = .ref b ∧ H l = some (.lst xs) ∧ H b = some (.lst zs) ∧ xs.length + zs.length ≤ sizeLine ∧ ∀ p, H p = none → Q (.ref p) (upd H p (.lst (xs ++ zs)))
theorem AM : OpR X (binaryOp .Add) Cu := by
  intro pins s σ H x y v u Q I rx ry h
  obtain ⟨l, b, xs, zs, rfl, rfl, hH, hB, hz, q⟩ := h
  cases rx
  cases ry
  obtain ⟨z, its, n, r, hl, e⟩ := I.lstM hH
  obtain ⟨z2, its2, n2, r2, hl2, e2⟩ := I.lstM hB
  refine PySem.P.add_list e e2 ?_ (by rw [List.size_toArray, List.size_toArray]; omega)
  have ea : its.toArray ++ its2.toArray = (its ++ its2).toArray := by simp
  rw [ea]
  exact ⟨.ref _, _, I.lnew (t' := s.toks) (r.append r2) (by rw [List.length_append]; omega), rfl, q _ I.fresh⟩
end
section
variable {prog : Program} {w : World} {A : Around} {E : Value → Shared → Prop} {s : Shared}
end
section
variable {X : Cx}
end
end L2
namespace Att
open PySem PySem.W PySem.Calls PyProof.Rows
theorem lY {P : Params} {h : Heap} : ∀ (ns : List Int) (vs : List Value), WellAll P h vs (ns.map WData.int) → IntsAre vs ns := by
  intro ns
  induction ns with
  | nil =>
    intro vs w
    rw [List.map_nil] at w
    cases w
    exact .nil
  | cons n ns ih =>
    intro vs w
    rw [List.map_cons] at w
    cases w with
    | cons a b =>
      cases a
      exact .cons _ _ (ih _ b)
theorem vL {l : OpenLaw} {n : Nat} (hn : l.most = some n) {P : Params} {h : Heap} {args : List WData} {vals : List Value}
    (hpre : l.row.toRowW.claim.pre args = true) (hwl : WellAll P h vals args) :
    ∃ a vs ns, vals = [Value.ref a] ∧ args = [WData.list (ns.map WData.int)] ∧ h.get? a = some { cls := .type "list", data := .seq vs.toArray } ∧ IntsAre vs ns ∧ ns.length ≤ n := by
  have hsh : WShape.hasAll [] args [.list .int] = true := (pre_splitW hpre).1
  have hc : l.pre.holds [] { args := args } = true := (pre_splitW hpre).2
  obtain ⟨d, r, rfl, h1, h2⟩ := hasAllW_cons hsh
  obtain rfl := hasAllW_nil h2
  obtain ⟨xs, rfl, h3⟩ := hasW_list h1
  obtain ⟨ns, rfl⟩ := items_int h3
  have hlen : ns.length ≤ n := by
    unfold OpenLaw.pre at hc
    have h4 : (WTm.not (.lt (.lit (.int (n : Int))) (.len (.arg 0)))).holds [] { args := [.list (ns.map .int)] } = true := by
      have h4 := (holds_andW hc).1
      rw [hn] at h4
      exact h4
    have h5 := condW_of h4 (w_not (w_lt w_lit (w_len_list (w_arg rfl))))
    rw [List.length_map] at h5
    refine Nat.le_of_not_lt fun q => ?_
    have q' : (n : Int) < ((ns.length : Nat) : Int) := by omega
    first
      | (rw [decide_eq_true q'] at h5; exact absurd h5 (by decide))
      | (simp at h5; omega)
  cases hwl with
  | cons w1 w2 =>
    cases w2
    cases w1 with
    | list ho hall => exact ⟨_, _, ns, rfl, rfl, ho, lY ns _ hall, hlen⟩
theorem wg (l : OpenLaw) (args : List WData) : l.row.toRowW.claim.post args (.bool true) args = true :=
  postW_of (r := l.row.toRowW) (X := (true == true))
    (show WShape.has [] (.bool true) .bool = true by first | rfl | decide | simp [WShape.has, WShape.arms, WShape.armsAll])
    (show (WTm.eq .res (.lit (.bool true))).value [] { args := args, res := some (.bool true), after := args } = some (.bool (true == true)) from w_eq_bool (w_res rfl) w_lit) rfl
theorem attach_call {l : OpenLaw} {n : Nat} {q : Program} {loose : List Str} {XP : (Str → Option Value) → Heap → Prop} {YP : World → Heap → Prop} {d : DefRec}
    (hn : l.most = some n) (hdf : d.params.defaults = [])
    (call : ∀ (w : World) (s₀ s₁ : Shared) (mg mb : Str → Option Value) (fa : Addr) (o : Obj) (pm cd doc : Value) (a : Addr) (vs : List Value) (ns : List Int),
      Ground q loose [] XP w s₀ mg mb s₁.heap → YP w s₁.heap →
      s₁.heap.get? fa = some o → o.data = .func (docDef d.name d.params d.body d.scope pm cd doc) → s₁.heap.CodeRec cd d.name → mg d.name = some (.ref fa) →
      s₁.heap.get? a = some { cls := .type "list", data := .seq vs.toArray } → IntsAre vs ns → ns.length ≤ n → s₁.gens = #[] →
      codeAny (model l.prog w) callerA (.call (.ref fa) ⟨[.ref a], []⟩) (fun r s' => r = .ok (.ret (.bool true)) ∧ OldK s₁.heap s'.heap ∧ s'.os = s₁.os ∧ AllBare s'.gens) s₁) :
    WalkO q loose XP YP l.row.toRowW d [] (fun f vs => PySem.call f vs) := by
  intro w s₀ s₁ mg mb G Y fa o pm cd doc dV kV ho hd hcd hD hmg hg args vals as hpre hlay hrd hwl hlo
  obtain rfl : dV = .none := Dflts.none hD hdf
  obtain rfl : kV = .none := Dflts.noKw hD
  obtain ⟨a, vs, ns, rfl, rfl, hobj, hints, hlen⟩ := vL hn hpre hwl
  refine enter_call (codeAny_mono (call w s₀ s₁ mg mb fa o pm cd doc a vs ns G Y ho (fd_plain hd) hcd hmg hobj hints hlen hg) fun r s' hq => ?_)
  obtain ⟨rfl, h2, h3, h4⟩ := hq
  exact ⟨.inl ⟨.bool true, .bool true, [], rfl, fun _ => rfl, .bool true, wg l _, fun _ => ⟨List.Pairwise.nil, fun _ hm => (nomatch hm)⟩⟩, h2, h3, h4⟩
section
variable {prog : Program} {w : World} {A : Around} {E : Value → Shared → Prop} {s : Shared} {K : Frag}
end
end Att
namespace L2
open PySem PySem.Spec PyProof.Rows
theorem oR : ∀ {vs : List Value} {ns : List Int}, IntsAre vs ns → Vals (ns.map V.int) vs
  | _, _, .nil => .nil
  | _, _, .cons n t h => .cons ⟨t, rfl⟩ (oR h)
def v3 (H : Hp) : Prop := ∀ b, H b = none ∨ ∃ o xs, H b = some (.frz o (.lst xs))
theorem wW {P : Program} {w : World} {K : PySem.W.Frag} {mg mb : Str → Option Value} {CX : CXT} {k : Nat} {fa a : Addr} {fd : FuncData} {x : Str} {sp : Sp} {s₁ : Shared} {vs : List Value} {ns : List Int}
    (KX : K.In s₁.heap) (hns : s₁.heap.Ns mainGlobals mg) (hb : s₁.heap.Ns builtinsNs mb) (hbb : ∀ x : Str, x ≠ "__name__" → mb x = bootBuiltins x) (hlim : s₁.heap.NoLimit) (hg : s₁.gens = #[])
    (ha : s₁.heap.get? a = some { cls := .type "list", data := .seq vs.toArray }) (hi : IntsAre vs ns) (hl : ns.length ≤ sizeLine) (hr : Room k callerA)
    (F : ∀ base : Heap, K.In base → base.Ns mainGlobals mg → bD P w K mg base CX k fa fd [x] sp) (hbind : ∀ (s : Shared) (u : Value), BindsTo s fd ⟨[u], []⟩ [(x, u)])
    (hsp : ∀ H : Hp, v3 H → SqL K H a (ns.map V.int) → sp [.ref a] H (fun v _ => v = .bl true) fun _ _ _ => False)
    (hCX : ∀ H e s', CX [] H s₁ (fun _ _ _ => False) e s' → False) :
    codeAny (model P w) callerA (.call (.ref fa) ⟨[.ref a], []⟩) (fun r s' => r = .ok (.ret (.bool true)) ∧ OldK s₁.heap s'.heap ∧ s'.os = s₁.os ∧ AllBare s'.gens) s₁ := by
  have rv := oR hi
  have lenV := hi.length
  have core : ∀ H : Hp, v3 H → SqL K H a (ns.map V.int) → HOk P w H s₁.heap → (∀ b, H b ≠ none → b = a) → (H a ≠ none → K.lookup a = none) →
      codeAny (model P w) callerA (.call (.ref fa) ⟨[.ref a], []⟩) (fun r s' => r = .ok (.ret (.bool true)) ∧ OldK s₁.heap s'.heap ∧ s'.os = s₁.os ∧ AllBare s'.gens) s₁ := by
    intro H hO hS hok hA hK
    have base_of : ∀ {b : Addr} {o : Obj}, s₁.heap.get? b = some o → H b = none → (qm s₁.heap H).get? b = some o := fun e n => wq e n
    have noA : ∀ {b : Addr} {o : Obj} {es : Array DictEntry} {ep : Nat}, s₁.heap.get? b = some o → o.data = .dict es ep → H b = none := fun {b o es ep} e d => by
      cases q : H b with
      | none => rfl
      | some u =>
        have e' : b = a := hA b (by rw [q]; simp)
        subst e'
        rw [ha] at e; cases e
        have d' : Data.seq vs.toArray _ = Data.dict es ep := d
        cases d'
    have nsK : ∀ {b : Addr} {m : Str → Option Value}, s₁.heap.Ns b m → (qm s₁.heap H).Ns b m := fun {b m} ⟨o, es, ep, e, d, r⟩ => ⟨o, es, ep, base_of e (noA e d), d, r⟩
    have hKb : K.In (qm s₁.heap H) := fun b o e => base_of (KX b o e) (by
      cases q : H b with
      | none => rfl
      | some u =>
        have e' : b = a := hA b (by rw [q]; simp)
        subst e'
        rw [hK (by rw [q]; simp)] at e; cases e)
    have hM : Mod K mg (qm s₁.heap H) := ⟨hKb, nsK hns, ⟨mb, nsK hb, hbb⟩, let ⟨mc, h1, h2⟩ := hlim; ⟨mc, nsK h1, h2⟩⟩
    have e0 : Env0 P w K mg (qm s₁.heap H) callerA [] s₁ H := ⟨rfl, hM, fun b o e => zH e, Nat.le_of_eq (wf _ _), trivial, fun b hb => absurd (show b ∈ ([] : List Addr) from hb) (by simp), hok, .of_eq hg⟩
    refine codeAny_mono ((F _ hKb (nsK hns)).run callerA [] s₁ H ⟨[.ref a], []⟩ [.ref a] [.ref a] _ _ hr e0 (hbind s₁ (.ref a)) (.cons rfl .nil) (hsp H hO hS)) fun r s' h => ?_
    cases r with
    | error e => exact (hCX H e s' h).elim
    | ok fl =>
      cases fl with
      | next => exact False.elim h
      | brk => exact False.elim h
      | cont => exact False.elim h
      | ret u =>
        obtain ⟨v, H', os, bare, un, hok', r', q⟩ := h
        have q' : v = .bl true := q
        subst q'
        obtain rfl : u = Value.bool true := r'
        refine ⟨rfl, OldK.of_keep fun b o e => ?_, os, bare⟩
        cases q : H b with
        | none => exact un.keep b o e q (by intro z; exact absurd (show b ∈ ([] : List Addr) from z) (by simp)) (by simp)
        | some u =>
          rcases hO b with z | ⟨ob, xs, z⟩
          · rw [q] at z; cases z
          · have z2 := un.frzs b ob _ z
            obtain ⟨e1, _⟩ := hok b _ z
            obtain ⟨e2, _⟩ := hok' b _ z2
            rw [e] at e1; cases e1
            exact e2
  cases hk : K.lookup a with
  | some o =>
    have e := KX a o hk
    rw [ha] at e
    cases e
    refine core (fun _ => none) (fun _ => .inl rfl) (.inr ⟨_, vs.toArray, _, hk, rfl, rfl, rfl, by rw [List.size_toArray, lenV]; exact hl, by simpa using rv⟩) (fun b u z => by have z' : (none : Option HO) = some u := z; cases z') (fun b z => absurd rfl z) fun z => absurd rfl z
  | none =>
    refine core (fun b => if b = a then some (.frz { cls := .type "list", data := .seq vs.toArray } (.lst (ns.map V.int))) else none) (fun b => ?_) (.inl (.inr ⟨{ cls := .type "list", data := .seq vs.toArray }, if_pos rfl⟩)) (fun b u z => ?_) (fun b z => ?_) fun _ => hk
    · by_cases hb : b = a
      · exact .inr ⟨_, _, if_pos hb⟩
      · exact .inl (if_neg hb)
    · by_cases hb : b = a
      · have z' := (if_pos hb).symm.trans z
        cases z'
        subst hb
        exact ⟨ha, by rw [List.length_map]; exact hl, vs, _, rv, ha⟩
      · have z' := (if_neg hb).symm.trans z
        cases z'
    · by_cases hb : b = a
      · exact hb
      · exact absurd (if_neg hb) z
end L2
namespace L2
open PySem PySem.Spec PyProof.Rows
theorem zd {l : PySem.W.OpenLaw} {n k : Nat} {q : Program} {loose : List Str} {XP : (Str → Option Value) → Heap → Prop} {YP : World → Heap → Prop} {d : DefRec} {K : Params → PySem.W.Frag} {CX : World → CXT} {sp : World → Sp} {x : Str}
    (hn : l.most = some n) (hn2 : n ≤ sizeLine) (hdf : d.params.defaults = []) (hr : Room k callerA)
    (hY : ∀ (w : World) (h : Heap), YP w h → (K w.params).In h)
    (F : ∀ (w : World) (mg : Str → Option Value) (fa : Addr) (h : Heap), (K w.params).In h → h.Ns mainGlobals mg → mg d.name = some (.ref fa) →
      ∃ fd : FuncData, (∀ (s : Shared) (u : Value), BindsTo s fd ⟨[u], []⟩ [(x, u)]) ∧
        ∀ base : Heap, (K w.params).In base → base.Ns mainGlobals mg → bD l.prog w (K w.params) mg base (CX w) k fa fd [x] (sp w))
    (hsp : ∀ (w : World) (H : Hp) (a : Addr) (ns : List Int), ns.length ≤ n → v3 H → SqL (K w.params) H a (ns.map V.int) → sp w [.ref a] H (fun v _ => v = .bl true) fun _ _ _ => False)
    (hCX : ∀ (w : World) (H : Hp) (s : Shared) (e : Value) (s' : Shared), CX w [] H s (fun _ _ _ => False) e s' → False) :
    PySem.W.WalkO q loose XP YP l.row.toRowW d [] (fun f vs => PySem.call f vs) := by
  refine Att.attach_call hn hdf fun w s₀ s₁ mg mb fa o pm cd doc a vs ns G Y ho hd hcd hmg hobj hints hlen hg => ?_
  have KX := hY w _ Y
  obtain ⟨fd, hb, hF⟩ := F w mg fa _ KX G.T.g hmg
  exact wW KX G.T.g G.T.b G.T.builtins G.T.nolimit hg hobj hints (Nat.le_trans hlen hn2) hr hF hb (fun H hO hS => hsp w H a ns hlen hO hS) fun H e s' => hCX w H s₁ e s'
end L2
namespace L2
open PySem PySem.Spec PyProof.Rows
abbrev CX0 : CXT := fun _ _ _ _ _ _ => False
structure Fun (K : PySem.W.Frag) (x qual : Str) (st : Stmt) (f : Addr) (fd : FuncData) : Prop where
  ex : ∃ (oc : Value) (od : Option Addr) (kV doc pm : Value) (an : Option Addr) (cdv ct : Value) (osl : Array (Option Value)),
    fd = PySem.W.fnOf x qual (aA st) (av st) (ag st) .none kV doc pm an cdv ct ∧ K.lookup f = some ⟨oc, od, .func fd, osl⟩ ∧ PySem.W.codeIn K cdv qual = true
  kp : PySem.W.keepIn K (.ref f) = true
section
variable {P : Program} {w : World} {K : PySem.W.Frag} {mg : Str → Option Value} {base : Heap}
theorem Fun.binds {x qual : Str} {st : Stmt} {f : Addr} {fd : FuncData} {ps : List Str} (F : Fun K x qual st f fd)
    (h : ∀ (kV doc pm : Value) (an : Option Addr) (cdv ct : Value) (us : List Value), us.length = ps.length → bindArgs (PySem.W.fnOf x qual (aA st) (av st) (ag st) .none kV doc pm an cdv ct) ⟨us, []⟩ = pure (ps.zip us)) : Binds K fd ps [] := by
  obtain ⟨oc, od, kV, doc, pm, an, cdv, ct, osl, rfl, lk, hcd⟩ := F.ex
  exact .all (h kV doc pm an cdv ct)
theorem aM {x qual : Str} {st : Stmt} {f : Addr} {oc : Value} {od an : Option Addr} {osl : Array (Option Value)} {kV doc pm cdv ct : Value} (l : K.lookup f = some ⟨oc, od, .func (PySem.W.fnOf x qual (aA st) (av st) (ag st) .none kV doc pm an cdv ct), osl⟩)
    (c : PySem.W.codeIn K cdv qual = true) (k : PySem.W.keepIn K (.ref f) = true) : Fun K x qual st f (PySem.W.fnOf x qual (aA st) (av st) (ag st) .none kV doc pm an cdv ct) := ⟨⟨oc, od, kV, doc, pm, an, cdv, ct, osl, rfl, l, c⟩, k⟩
end
section
variable {X : Cx}
end
theorem vj {A B : Prop} (h : B) : if false = true then A else B := by
  rw [if_neg Bool.false_ne_true]
  exact h
theorem A7 {A B : Prop} (h : A) : if true = true then A else B := by
  rw [if_pos rfl]
  exact h
def Same (H H' : Hp) : Prop := ∀ b o, H b = some o → H' b = some o
theorem Same.refl (H : Hp) : Same H H := fun _ _ h => h
theorem Same.trans {H H1 H2 : Hp} (a : Same H H1) (b : Same H1 H2) : Same H H2 := fun c o h => b c o (a c o h)
theorem Same.free {H H' : Hp} (e : Same H H') {l : Addr} (h : H' l = Option.none) : H l = Option.none := by
  cases q : H l with
  | none => rfl
  | some o =>
    rw [e l o q] at h
    cases h
end L2
set_option Elab.async false
set_option linter.all false
set_option maxRecDepth 100000
namespace L2
open PySem PySem.Spec PyProof.Rows
def mY : HO → Bool
  | .dT _ => false
  | .frz _ u => mY u
  | _ => true
def NoT (H : Hp) : Prop := ∀ a o, H a = some o → mY o = true
def nk : HO → Bool
  | .lst _ => true
  | .tup _ => true
  | .dK _ => true
  | .rng _ _ => true
  | _ => false
structure Gc (H G H' : Hp) : Prop where
  a : Same H G
  b : Same G H'
  c : ∀ p o, G p = some o → H p = some o ∨ nk o = true
section
variable {P : Program} {w : World} {H G H' : Hp} {h h' : Heap} {a : Addr} {o : HO}
theorem ObjOk.gc (n : mY o = true) (x0 : ObjOk P w H h a o) (x : ObjOk P w H' h' a o) : ObjOk P w H h' a o := by
  induction o with
  | ins C dx fs => exact ⟨x0.1, x.2⟩
  | dT kvs => cases n
  | frz ob u ih => exact ⟨x.1, ih n x0.2 x.2⟩
  | _ => exact x
theorem ObjOk.plain (n : nk o = true) (x : ObjOk P w H' h' a o) : ObjOk P w H h' a o := by
  cases o with
  | lst xs => exact x
  | tup xs => exact x
  | dK kvs => exact x
  | rng lo hi => exact x
  | _ => cases n
theorem HOk.gc (n : NoT H) (x0 : HOk P w H h) (x : HOk P w H' h') (g : Gc H G H') : HOk P w G h' := fun a o e => by
  rcases g.c a o e with q | q
  · refine (((x0 a o q).gc (n a o q) (x a o (g.b a o e)))).stay (fun _ _ _ z => z) (fun b z => g.a _ _ z) fun b xs z => g.a _ _ z
  · exact (x a o (g.b a o e)).plain q
theorem Un.gc {fs ex : List Addr} (u : Un fs ex H H' h h') (g : Gc H G H') : Un fs ex H G h h' :=
  ⟨u.keep, u.slot, fun b o q n hx => g.b.free (u.free b o q n hx), u.there, fun b xs q => g.a _ _ q, fun b o x q => g.a _ _ q, fun b ps q => ⟨#[], by rw [Array.append_empty]; exact g.a _ _ q⟩⟩
theorem Gc.refl : Gc H H H := ⟨Same.refl H, Same.refl H, fun _ _ e => .inl e⟩
theorem Gc.none (s : Same H H') : Gc H H H' := ⟨Same.refl H, s, fun _ _ e => .inl e⟩
theorem ai {p : Addr} (o : HO) (hp : H p = Option.none) : Same H (upd H p o) := fun b u e => by rw [al (aj e hp)]; exact e
theorem Gc.one {p : Addr} (s : Same H H') (hp : H p = Option.none) (e : H' p = some o) (n : nk o = true) : Gc H (upd H p o) H' :=
  ⟨ai o hp, fun b u z => by
    by_cases hb : b = p
    · subst hb; rw [ae] at z; cases z; exact e
    · rw [al hb] at z; exact s b u z, fun b u z => by
    by_cases hb : b = p
    · subst hb; rw [ae] at z; cases z; exact .inr n
    · rw [al hb] at z; exact .inl z⟩
theorem NoT.upd {p : Addr} (n : NoT H) (d : mY o = true) : NoT (upd H p o) := fun b u z => by
  by_cases hb : b = p
  · subst hb; rw [ae] at z; cases z; exact d
  · rw [al hb] at z; exact n b u z
end
theorem Inv.gc {X : Cx} {pins pins' : List (Addr × Obj)} {σ σ' : St} {H G H' : Hp} {s s' : Shared} (n : NoT H) (I : Inv X pins σ H s) (J : Inv X pins' σ' H' s') (g : Gc H G H') : Inv X pins' σ' G s' :=
  ⟨J.ok, J.os, J.bare, ⟨J.base.keep, J.base.slot, fun b o q z hx => g.b.free (J.base.free b o q z hx), J.base.there, fun b xs q => g.a _ _ (I.base.tups b xs q), fun b o x q => g.a _ _ (I.base.frzs b o x q), fun b ps q => let ⟨m, e⟩ := I.base.tbls b ps q; ⟨m, g.a _ _ e⟩⟩,
   J.loc, J.cell, g.b.free J.free, fun x c e => g.b.free (J.freeC x c e), fun p hp => let ⟨e, z, r⟩ := J.pin p hp; ⟨e, g.b.free z, r⟩, HOk.gc n I.hok J.hok g, J.len⟩
def tGc (t : TE) : TE := fun σ H Q => NoT H ∧ t σ H fun v H' => ∃ G, Gc H G H' ∧ Q v G
theorem zQ {X : Cx} {e : Expr} {t : TE} (h : PE X e t) : PE X e (tGc t) := fun pins s σ H Q I ⟨n, q⟩ =>
  thn (h pins s σ H _ I q) fun u s1 ⟨v, H1, I1, r, G, g, q1⟩ => ⟨v, G, I.gc n I1 g, r, q1⟩
def BX (t : TT) : TT := fun σ H Q => NoT H ∧ t σ H fun v H' => ∃ G, Gc H G H' ∧ Q v G
theorem xC {X : Cx} {e : Expr} {t : TT} (h : PT X e t) : PT X e (BX t) := fun pins s σ H Q I ⟨n, q⟩ =>
  thn (h pins s σ H _ I q) fun u s1 ⟨H1, I1, G, g, q1⟩ => ⟨G, I.gc n I1 g, q1⟩
end L2
set_option Elab.async false
set_option linter.all false
set_option maxRecDepth 100000
namespace L2
open PySem PySem.Spec PyProof.Rows
theorem ObjOk.at_ {P : Program} {w : World} {H : Hp} {h : Heap} {a : Addr} {o : HO} (x : ObjOk P w H h a o) : ∃ ob, h.get? a = some ob := by
  cases o with
  | lst xs => obtain ⟨_, _, _, _, e⟩ := x; exact ⟨_, e⟩
  | tup xs => obtain ⟨_, _, _, ob, e, _⟩ := x; exact ⟨_, e⟩
  | dK kvs => obtain ⟨_, _, _, _, o, _, _, e, _⟩ := x; exact ⟨_, e⟩
  | dT kvs => obtain ⟨_, _, _, _, o, _, _, e, _⟩ := x; exact ⟨_, e⟩
  | set S n => obtain ⟨o, _, _, _, e, _⟩ := x; exact ⟨_, e⟩
  | ins C dx fs => obtain ⟨_, _, _, e, _⟩ := x; exact ⟨_, e⟩
  | own y => obtain ⟨_, e⟩ := x; exact ⟨_, e⟩
  | xd fs => obtain ⟨_, ⟨_, _, _, e, _⟩, _⟩ := x; exact ⟨_, e⟩
  | rng lo hi => obtain ⟨_, _, _, e⟩ := x; exact ⟨_, e⟩
  | frz ob u => obtain ⟨e, _⟩ := x; exact ⟨_, e⟩
  | tbl ps => exact ⟨_, (show h.get? a = some _ from x)⟩
  | met f y => exact ⟨_, (show h.get? a = some _ from x)⟩
  | ext φ => obtain ⟨_, ⟨_, e⟩, _⟩ := x; exact ⟨_, e⟩
theorem HOk.none_of {P : Program} {w : World} {H : Hp} {h : Heap} {a : Addr} (x : HOk P w H h) (e : h.get? a = none) : H a = none := by
  cases q : H a with
  | none => rfl
  | some u =>
    obtain ⟨ob, z⟩ := (x a u q).at_
    rw [e] at z; cases z
def hid (h : Heap) (l : List Env) (rs : List Addr) : Heap := PySem.W.hideAll h (frs l ++ rs)
theorem j3 {h : Heap} {l : List Env} {rs : List Addr} {b : Addr} {o : Obj} (e : h.get? b = some o) (h1 : b ∉ frs l) (h2 : b ∉ rs) : (hid h l rs).get? b = some o :=
  PySem.W.hideAll_get _ e fun z => (List.mem_append.mp z).elim h1 h2
theorem ub {h : Heap} {l : List Env} {rs : List Addr} {b : Addr} {o : Obj} (e : (hid h l rs).get? b = some o) : h.get? b = some o := PySem.W.of_hideAll _ e
theorem p_ {h : Heap} {l : List Env} {rs : List Addr} {b : Addr} (e : b ∈ rs) : (hid h l rs).get? b = none := PySem.W.hideAll_none _ (List.mem_append_right _ e)
theorem jb {h base : Heap} {l : List Env} {rs : List Addr} (e : h.FunFrames base l) : h.FunFrames (hid h l rs) l :=
  PySem.W.funFrames_hide e fun _ he _ ha => List.mem_append_left _ (List.mem_filterMap.mpr ⟨_, he, ha⟩)
def Fly (l : List Env) (rs : List Addr) (e : Addr) (cls : Value) (h : Heap) : Prop := e ∈ rs ∧ ∃ a0, Heap.FlyingW (hid h l rs) l e cls a0 h
def XE (P : Program) (w : World) : CXT := fun outer H s E ev s' => ∃ (e : Addr) (C : Value) (rs : List Addr) (H' : Hp), ev = .ref e ∧ s'.os = s.os ∧ AllBare s'.gens ∧ Un (frs outer) [] H H' s.heap s'.heap ∧
  HOk P w H' s'.heap ∧ (∀ b ∈ rs, s.heap.get? b = none ∧ H' b = none) ∧ Fly outer rs e C s'.heap ∧ E C none H'
section
variable {X : Cx} {pins : List (Addr × Obj)} {σ : St} {H : Hp} {s : Shared} {h' : Heap} {rs : List Addr}
theorem Inv.s0_none (I : Inv X pins σ H s) (hex : X.ex = []) {b : Addr} (e : s.heap.get? b = none) : X.s₀.heap.get? b = none := by
  cases q : X.s₀.heap.get? b with
  | none => rfl
  | some o =>
    obtain ⟨o', z⟩ := I.base.there b o q (by rw [hex]; simp)
    rw [e] at z; cases z
theorem Inv.noteUn (I : Inv X pins σ H s) (hex : X.ex = []) (hrs : ∀ b ∈ rs, X.s₀.heap.get? b = none)
    (stay : ∀ b o, s.heap.get? b = some o → b ∉ frs X.stack → b ∉ rs → h'.get? b = some o) (up : s.heap.UpToSlots h') : Un X.fs [] X.H₀ H X.s₀.heap h' := by
  have B := I.base
  rw [hex] at B
  have nrs : ∀ b o, X.s₀.heap.get? b = some o → b ∉ rs := fun b o e z => by rw [hrs b z] at e; cases e
  have nst : ∀ b o, X.s₀.heap.get? b = some o → b ∉ X.fs → b ∉ frs X.stack := fun b o e hb z => by
    rcases List.mem_cons.mp (I.stkSub b z) with q | q
    · exact absurd (Nat.lt_of_lt_of_le (Heap.lt_size e) I.ok.above) (by rw [q]; exact Nat.lt_irrefl _)
    · exact hb q
  refine ⟨fun b o q n hb hx => stay b o (B.keep b o q n hb hx) (nst b o q hb) (nrs b o q), fun b o q n hb hx => ?_, fun b o q n hx => B.free b o q n hx, fun b o q hx => ?_, B.tups, B.frzs, B.tbls⟩
  · obtain ⟨sl, e1⟩ := B.slot b o q n hb hx
    obtain ⟨_, o', ho', hd⟩ := I.funs.mem hb
    rw [e1] at ho'; cases ho'
    obtain ⟨sl', e2⟩ := up b _ e1 hd
    exact ⟨sl', e2⟩
  · obtain ⟨o', e1⟩ := B.there b o q hx
    by_cases hb : b ∈ frs X.stack
    · obtain ⟨_, o2, ho2, hd⟩ := I.stack.mem hb
      obtain ⟨sl', e2⟩ := up b _ ho2 hd
      exact ⟨_, e2⟩
    · exact ⟨o', stay b o' e1 hb (nrs b o q)⟩
theorem Inv.noteOk (I : Inv X pins σ H s) (hrs : ∀ b ∈ rs, H b = none) (stay : ∀ b o, s.heap.get? b = some o → b ∉ frs X.stack → b ∉ rs → h'.get? b = some o) : HOk X.prog X.w H h' := fun a o e =>
  (I.hok a o e).stay (fun b u hb q => stay b u q (fun z => by
      have n := I.stkFree b z
      rcases hb with r | r
      · rw [r, e] at n; cases n
      · rw [r] at n; cases n) fun z => by
      have n := hrs b z
      rcases hb with r | r
      · rw [r, e] at n; cases n
      · rw [r] at n; cases n) (fun _ q => q) fun _ _ q => q
theorem u9 {base : Heap} {l : List Env} {h h1 : Heap} {T : Addr} {oT : Obj} {ts : Array Value} (hl : h.FunFrames base l) (up : h.UpToSlots h1) (e : (hid h l rs).get? T = none) (hT : h1.get? T = some oT) (hd : oT.data = .fields ts) : h.get? T = none ∨ T ∈ rs := by
  by_cases hr : T ∈ rs
  · exact .inr hr
  · refine .inl ?_
    cases q : h.get? T with
    | none => rfl
    | some o =>
      by_cases hf : T ∈ frs l
      · obtain ⟨_, o2, ho2, hnf⟩ := hl.mem hf
        rw [q] at ho2; cases ho2
        obtain ⟨sl, e2⟩ := up T o q hnf
        rw [hT] at e2; cases e2
        exact absurd hd (hnf ts)
      · rw [j3 q hf hr] at e; cases e
end
section
variable {P : Program} {w : World} {K : PySem.W.Frag} {mg : Str → Option Value} {base : Heap} {N : List Str} {qual : Str} {scope : Scope} {f : Addr} {cd : Value} {A : Around} {outer : List Env} {s₀ : Shared} {H₀ : Hp} {E : XK}
theorem tz {pins : List (Addr × Obj)} {σ : St} {H : Hp} {s : Shared} {h' : Heap} {e : Addr} {cls : Value} {args : List Value}
    (I : Inv (cG (XE P w) P w K mg base N qual scope f cd A outer s₀ H₀ E) pins σ H s) (hx : Heap.MadeExcOf s.heap h' e cls args) (q : E cls none H) :
    (cG (XE P w) P w K mg base N qual scope f cd A outer s₀ H₀ E).xe (.ref e) { s with heap := h' } := by
  show wpAny (model P w) (A.deeper (envOfC qual scope s₀.heap.objs.size f cd)) (leaving (envOfC qual scope s₀.heap.objs.size f cd) (.ref e)) (fun _ s'' => XE P w outer H₀ s₀ E (.ref e) s'') (fun e' s'' => XE P w outer H₀ s₀ E e' s'') { s with heap := h' }
  have hst : s.heap.FunFrames base (envOfC qual scope s₀.heap.objs.size f cd :: outer) := I.stack
  refine wpAny_leaves_madeW (base := hid s.heap (envOfC qual scope s₀.heap.objs.size f cd :: outer) []) (h := s.heap) I.ok.frames rfl (fun b o z => ub z) (jb hst) hx fun h'' t fl tup tn up => ?_
  obtain ⟨f1, f2, f3, oe, vs, T, oT, ts, he, hc, hd, h1, hnT, hTe, hT, hdT, h3⟩ := fl
  have up' : s.heap.UpToSlots h'' := (Heap.UpToSlots.of_keeps hx.keeps).trans up
  have nT : s.heap.get? T = none := (u9 hst up' hnT hT hdT).elim id fun z => nomatch z
  have stay : ∀ b o, s.heap.get? b = some o → b ∉ frs (envOfC qual scope s₀.heap.objs.size f cd :: outer) → b ∉ [e, T] → h''.get? b = some o := fun b o z hb _ => f1 b o (j3 z hb fun y => nomatch y)
  have n0 : ∀ b ∈ [e, T], s.heap.get? b = none := fun b hb => by
    rcases List.mem_cons.mp hb with r | r
    · rw [r]; exact hx.new
    · rw [List.mem_singleton.mp r]; exact nT
  have n1 : ∀ b ∈ [e, T], s₀.heap.get? b = none := fun b hb => I.s0_none rfl (n0 b hb)
  have n2 : ∀ b ∈ [e, T], H b = none := fun b hb => I.hok.none_of (n0 b hb)
  refine ⟨e, cls, [e, T], H, rfl, I.os, I.bare, I.noteUn rfl n1 stay up', I.noteOk n2 stay, fun b hb => ⟨n1 b hb, n2 b hb⟩, ⟨.head _, .ref t, ?_⟩, q⟩
  exact ⟨fun b o z => ub z, p_ (.head _), jb f3, oe, vs, T, oT, ts, he, hc, hd, h1, p_ (.tail _ (.head _)), hTe, hT, hdT, h3⟩
abbrev XKs := St → XK
def d6 (CX : CXT) (X : Cx) (E : XKs) : Prop := ∀ (pins : List (Addr × Obj)) (σ : St) (H : Hp) (s : Shared) (e : Value) (s' : Shared), Inv X pins σ H s → CX X.stack H s (E σ) e s' → X.xe e s'
def wK (X : Cx) (E : XKs) : Prop := ∀ (pins : List (Addr × Obj)) (σ : St) (H : Hp) (s : Shared) (h' : Heap) (e : Addr) (cls : Value) (args : List Value), Inv X pins σ H s → Heap.MadeExcOf s.heap h' e cls args → E σ cls none H → X.xe (.ref e) { s with heap := h' }
theorem dG : wK (cG (XE P w) P w K mg base N qual scope f cd A outer s₀ H₀ E) (fun _ => E) := fun _ _ _ _ _ _ _ _ I hx q => tz I hx q
theorem aC : d6 (XE P w) (cG (XE P w) P w K mg base N qual scope f cd A outer s₀ H₀ E) (fun _ => E) := by
  intro pins σ H s ev s' I hq
  obtain ⟨e, C, rs, H', rfl, os, bare, un, hok, hrs, ⟨her, a0, fl⟩, q⟩ := hq
  have J : Inv (cG (XE P w) P w K mg base N qual scope f cd A outer s₀ H₀ E) pins σ H' s' := I.call' os un hok bare (fun b z => nomatch z)
  show wpAny (model P w) (A.deeper (envOfC qual scope s₀.heap.objs.size f cd)) (leaving (envOfC qual scope s₀.heap.objs.size f cd) (.ref e)) (fun _ s'' => XE P w outer H₀ s₀ E (.ref e) s'') (fun e' s'' => XE P w outer H₀ s₀ E e' s'') s'
  have hst : s'.heap.FunFrames base (envOfC qual scope s₀.heap.objs.size f cd :: outer) := J.stack
  refine wpAny_leaves_onW (base := hid s'.heap (envOfC qual scope s₀.heap.objs.size f cd :: outer) rs) I.ok.frames rfl fl fun h'' fl' up => ?_
  obtain ⟨f1, f2, f3, oe, vs, T, oT, ts, he, hc, hd, h1, hnT, hTe, hT, hdT, h3⟩ := fl'
  have nT := u9 hst up hnT hT hdT
  have stay : ∀ b o, s'.heap.get? b = some o → b ∉ frs (envOfC qual scope s₀.heap.objs.size f cd :: outer) → b ∉ T :: rs → h''.get? b = some o := fun b o z hb hr => f1 b o (j3 z hb fun y => hr (.tail _ y))
  have n1 : ∀ b ∈ T :: rs, s₀.heap.get? b = none := fun b hb => by
    rcases List.mem_cons.mp hb with r | r
    · rw [r]
      rcases nT with z | z
      · exact J.s0_none rfl z
      · exact I.s0_none rfl (hrs T z).1
    · exact I.s0_none rfl (hrs b r).1
  have n2 : ∀ b ∈ T :: rs, H' b = none := fun b hb => by
    rcases List.mem_cons.mp hb with r | r
    · rw [r]
      rcases nT with z | z
      · exact hok.none_of z
      · exact (hrs T z).2
    · exact (hrs b r).2
  refine ⟨e, C, T :: rs, H', rfl, J.os, J.bare, J.noteUn rfl n1 stay up, J.noteOk n2 stay, fun b hb => ⟨n1 b hb, n2 b hb⟩, ⟨.tail _ her, a0, ?_⟩, q⟩
  exact ⟨fun b o z => ub z, p_ (.tail _ her), jb f3, oe, vs, T, oT, ts, he, hc, hd, h1, p_ (.head _), hTe, hT, hdT, h3⟩
end
def xl (sp : Sp) (dvs : List V) (E : XKs) (t : TA) : TE := fun σ H Q => t σ H fun vs H1 => sp (vs ++ dvs) H1 Q (E σ)
section
variable {X : Cx} {CX : CXT} {k : Nat} {f C : Addr} {fd : FuncData} {ps : List Str} {sp : Sp} {dvs : List V} {ds : List Value} {E : XKs} {x m : Str} {p pos apos : Pos} {e o : Expr} {es : List Expr} {ta : TE} {t : TA}
theorem pF {pins : List (Addr × Obj)} {σ : St} {H : Hp} {s : Shared} {Q : VK} {us : List Value} {vs : List V} (F : bD X.prog X.w X.K X.mg X.base CX k f fd ps sp) (hr : Room k X.A) (hb : Binds X.K fd ps ds) (hd : Vals dvs ds) (hx : d6 CX X E)
    (I : Inv X pins σ H s) (r : Vals vs us) (h : sp (vs ++ dvs) H Q (E σ)) : wpAny (model X.prog X.w) X.A (call (.ref f) us) (EP X pins σ Q) X.xe s := by
  have r2 : Vals (vs ++ dvs) (us ++ ds) := r.append hd
  have hl : (us ++ ds).length = ps.length := by rw [← r2.length]; exact F.len _ _ _ _ h
  refine wpAny_call (codeAny_mono (F.run X.A X.stack s H ⟨us, []⟩ (us ++ ds) (vs ++ dvs) Q (E σ) hr I.env0 (hb s us I.kIn hl) r2 h) fun r s' hq => ?_)
  cases r with
  | error e => exact hx pins σ H s e s' I hq
  | ok fl =>
    cases fl with
    | ret u => exact I.after hq
    | next => exact False.elim hq
    | brk => exact False.elim hq
    | cont => exact False.elim hq
theorem au (F : bD X.prog X.w X.K X.mg X.base CX k f fd ps sp) (hr : Room k X.A) (hg : Gl X x) (hm : X.mg x = some (.ref f)) (hk : PySem.W.keepIn X.K (.ref f) = true) (hb : Binds X.K fd ps ds) (hd : Vals dvs ds) (hx : d6 CX X E)
    (ha : PA X (e :: es) t) (hdb : (x == ("__debug__" : Str)) = false := by decide) (he : starEach (e :: es) X.env = (false, eval e X.env) :: starEach es X.env := by rfl) (hpl : (backTo pos (starEach es X.env)).any (·.1) = false := by rfl) :
    PE X (.Call (.Name x p) (e :: es) [] pos) (xl sp dvs E t) := by
  intro pins s σ H Q I h
  refine wpAny_Call_Name_kw (iy I hg hm ?_ hdb)
  refine PySem.W.callWith_K (h₀ := X.base) I.ok.mod.kin hk (thn (ha pos pins s σ H _ I h) fun us s1 ⟨vs, H1, I1, r, q⟩ => ⟨I1.kIn, ?_⟩) he hpl
  exact pF F hr hb hd hx I1 r q
end
section
variable {P : Program} {w : World} {K : PySem.W.Frag} {mg : Str → Option Value} {base : Heap}
theorem Fun.okX {x qual : Str} {st : Stmt} {f : Addr} {fd : FuncData} {N ps : List Str} {k : Nat} {sp : Sp} (F : Fun K x qual st f fd) (S : aB N ps (ag st)) (len : ∀ vs H Q E, sp vs H Q E → vs.length = ps.length)
    (hbody : ∀ (cdv : Value) (A : Around) (outer : List Env) (s : Shared) (H : Hp) (vs : List V) (Q : VK) (E : XK), Room k (A.deeper (envOfC qual (ag st) s.heap.objs.size f cdv)) → sp vs H Q E →
      ∃ t, PSs (cG (XE P w) P w K mg base N qual (ag st) f cdv A outer s H E) (av st) t ∧ t { nx := fun _ H' => Q .non H', rt := Q } (gK N vs) H) : bD P w K mg base (XE P w) (k + 1) f fd ps sp := by
  obtain ⟨oc, od, kV, doc, pm, an, cdv, ct, osl, rfl, lk, hcd⟩ := F.ex
  exact Cl lk hcd S len fun A outer s H vs Q E hr hsp => hbody cdv A outer s H vs Q E hr hsp
end
theorem zj {K : PySem.W.Frag} {h : Heap} {C : Addr} {bmB : List Value} {newId : String} (X : K.In h) (q : PySem.W.excIn K C bmB newId = true) :
    ∃ bm N nm qn bs hdct sn sub ab col dd k0 k1 k2 k3 k5 mN, h.get? C = some (excClassObj nm qn C N bs bm hdct sn sub ab col dd k0 k1 k2 k3 k5 newId) ∧ h.Ns N mN ∧ mN "__init__" = none ∧ OwnTail h bmB bm := by
  unfold PySem.W.excIn at q
  split at q
  · rename_i dd cd sl ho
    split at q
    · rename_i C' bm k0 k1 k2 k3 n k5 hm hs
      simp only [Bool.and_eq_true, beq_iff_eq, Bool.not_eq_true'] at q
      obtain ⟨⟨⟨⟨⟨rfl, rfl⟩, hdel⟩, ht⟩, hok⟩, hni⟩ := q
      obtain ⟨nm, bs, mro, ns, qn, hd, sn, sub, ab, col, del⟩ := cd
      dsimp only at hm hdel hok hni
      subst hm hdel
      have hsl : sl = #[k0, k1, k2, k3, some (.builtin n), k5] := by
        obtain ⟨l⟩ := sl
        simp only at hs
        rw [hs]
      subst hsl
      exact ⟨bm, ns, nm, qn, bs, hd, sn, sub, ab, col, dd, k0, k1, k2, k3, k5, _, X _ _ ho, .of_isNs (PySem.W.isNs_of_in X hok), PySem.W.nsMap_none_of_in X hok hni, PySem.W.tail_of_in X ht⟩
    · cases q
  · cases q
def w8 (C : Addr) (E : XKs) (t : TA) : TS := fun _ σ H => t σ H fun vs H1 => vs.length ≤ sizeLine ∧ E σ (.ref C) none H1
theorem cP {X : Cx} {x : Str} {C : Addr} {bmB : List Value} {B newId initId : String} {E : XKs} {e : Expr} {es : List Expr} {t : TA} {np cpos pos : Pos} (O : PySem.W.excIn X.K C bmB newId = true) (FB : ExcBaseFacts B newId initId bmB)
    (hc : X.calm = true) (hg : Gl X x) (hm : X.mg x = some (.ref C)) (hx : wK X E) (ha : PA X (e :: es) t) (hdb : (x == ("__debug__" : Str)) = false := by decide)
    (he : starEach (e :: es) X.env = (false, eval e X.env) :: starEach es X.env := by rfl) (hpl : (backTo cpos (starEach es X.env)).any (·.1) = false := by rfl) :
    PS X (.Raise (some (.Call (.Name x np) (e :: es) [] cpos)) none pos) (w8 C E t) := by
  intro pins s σ H D I h
  obtain ⟨tl, N, nm, q, bs, hdct, sn, sub, ab, col, dd, k0, k1, k2, k3, k5, mN, hC, hN, hni, T⟩ := zj I.mod.kin O
  refine wpAny_Raise_call_subT (C := C) (nm := nm) (q := q) (N := N) (bs := bs) (bm := tl) (hdct := hdct) (sn := sn) (sub := sub) (ab := ab) (col := col) (dd := dd) (k0 := k0) (k1 := k1) (k2 := k2) (k3 := k3) (k5 := k5)
    FB (mN := mN) (T.hasType FB.hasBase) (I.ok.hd hc) (by rw [he]; show (false || (backTo cpos (starEach es X.env)).any (·.1)) = false; rw [hpl]; rfl) hni (iy I hg hm ⟨rfl, ?_⟩ hdb)
  have hA := ha cpos pins s σ H _ I h
  rw [he] at hA ⊢
  refine Calls.evalArgs_plain (thn hA fun us s1 ⟨vs, H1, I1, r, hz, q1⟩ => ⟨rfl, by rw [← r.length]; exact hz, I1.bk _ _ hC, hN.keeps I1.bk, T.keeps I1.bk, fun h' e' hm' => ?_⟩)
  exact hx pins σ H1 s1 h' e' (.ref C) us I1 hm' q1
end L2
set_option Elab.async false
set_option linter.all false
set_option maxRecDepth 100000
namespace L2
open PySem PySem.Spec PyProof.Rows
section
variable {X : Cx} {pins : List (Addr × Obj)} {σ : St} {H : Hp} {s : Shared} {h' : Heap} {rs : List Addr}
theorem Inv.noted {t' : Nat} (I : Inv X pins σ H s) (hrs : ∀ b ∈ rs, X.s₀.heap.get? b = none ∧ H b = none) (hpin : ∀ p ∈ X.pn ++ pins, p.1 ∉ rs)
    (stay : ∀ b o, s.heap.get? b = some o → b ∉ frs X.stack → b ∉ rs → h'.get? b = some o) (up : s.heap.UpToSlots h') : Inv X pins σ H { s with heap := h', toks := t' } := by
  have B := I.base
  have cellK : ∀ c v, s.heap.IsCell c v → h'.IsCell c v := fun c v ⟨o, ho, hd⟩ => by
    obtain ⟨sl, e⟩ := up c o ho fun vs q => by rw [hd] at q; cases q
    exact ⟨_, e, hd⟩
  have nrs : ∀ b o, X.s₀.heap.get? b = some o → b ∉ rs := fun b o e z => by rw [(hrs b z).1] at e; cases e
  have nst : ∀ b o, X.s₀.heap.get? b = some o → b ∉ X.fs → b ∉ frs X.stack := fun b o e hb z => by
    rcases List.mem_cons.mp (I.stkSub b z) with q | q
    · exact absurd (Nat.lt_of_lt_of_le (Heap.lt_size e) I.ok.above) (by rw [q]; exact Nat.lt_irrefl _)
    · exact hb q
  refine ⟨I.ok, I.os, I.bare, ⟨fun b o q n hb hx => stay b o (B.keep b o q n hb hx) (nst b o q hb) (nrs b o q), fun b o q n hb hx => ?_, fun b o q n hx => B.free b o q n hx, fun b o q hx => ?_, B.tups, B.frzs, B.tbls⟩, ?_, fun x c e => ?_, I.free, I.freeC, fun p hp => ?_, I.noteOk (fun b hb => (hrs b hb).2) stay, I.len⟩
  · obtain ⟨sl, e1⟩ := B.slot b o q n hb hx
    obtain ⟨_, o', ho', hd⟩ := I.funs.mem hb
    rw [e1] at ho'; cases ho'
    obtain ⟨sl', e2⟩ := up b _ e1 hd
    exact ⟨sl', e2⟩
  · obtain ⟨o', e1⟩ := B.there b o q hx
    by_cases hb : b ∈ frs X.stack
    · obtain ⟨_, o2, ho2, hd⟩ := I.stack.mem hb
      obtain ⟨sl', e2⟩ := up b _ ho2 hd
      exact ⟨_, e2⟩
    · exact ⟨o', stay b o' e1 hb (nrs b o q)⟩
  · obtain ⟨m, hn, hl⟩ := I.loc
    refine ⟨m, up.ns hn, fun i x v e1 e2 e3 => ?_⟩
    obtain ⟨u, r, l⟩ := hl i x v e1 e2 e3
    refine ⟨u, r, ?_⟩
    rcases l with l | ⟨k, c, e, z⟩
    · exact .inl l
    · exact .inr ⟨k, c, e, cellK c _ z⟩
  · obtain ⟨v, z⟩ := I.cell x c e
    exact ⟨v, cellK c v z⟩
  · obtain ⟨e, n, ne, nf, d⟩ := I.pin p hp
    exact ⟨stay p.1 p.2 e (fun z => (List.mem_cons.mp (I.stkSub _ z)).elim ne nf) (hpin p hp), n, ne, nf, d⟩
theorem Inv.track {a : Addr} {o : HO} (I : Inv X pins σ H s) (hn : H a = none) (h0 : X.s₀.heap.get? a = none) (hL : a ≠ X.env.locals) (hc : ∀ x c, X.env.cells.lookup x = some c → c ≠ a) (hp : ∀ p ∈ X.pn ++ pins, p.1 ≠ a)
    (new : ObjOk X.prog X.w (upd H a o) s.heap a o) : Inv X pins σ (upd H a o) s := by
  have B := I.base
  refine ⟨I.ok, I.os, I.bare, ⟨B.keep, B.slot, fun b ob q n hx => ?_, B.there, fun b xs q => ?_, fun b ob xs q => ?_, fun b ps q => ?_⟩, I.loc, I.cell, ?_, fun x c e => ?_, fun p hp' => ?_, fun b u e => ?_, I.len⟩
  · have : b ≠ a := fun z => by rw [z, h0] at q; cases q
    rw [al this]; exact B.free b ob q n hx
  · have e := B.tups b xs q
    rw [al (aj e hn)]; exact e
  · have e := B.frzs b ob xs q
    rw [al (aj e hn)]; exact e
  · obtain ⟨m, e⟩ := B.tbls b ps q
    exact ⟨m, by rw [al (aj e hn)]; exact e⟩
  · rw [al (Ne.symm hL)]; exact I.free
  · rw [al (hc x c e)]; exact I.freeC x c e
  · obtain ⟨e, n, ne, nf, d⟩ := I.pin p hp'
    exact ⟨e, by rw [al (hp p hp')]; exact n, ne, nf, d⟩
  · by_cases hb : b = a
    · subst hb
      rw [ae] at e
      cases e
      exact new
    · rw [al hb] at e
      refine (I.hok b u e).stay (fun c v _ q => q) (fun c q => ?_) fun c xs q => ?_
      · rw [al (aj q hn)]; exact q
      · rw [al (aj q hn)]; exact q
theorem Cx.Ok.re (ok : X.Ok) (A' : Around) (hf : A'.frames = X.A.frames) (cm : Bool) (hh : cm = true → A'.handled = none) (pn : List (Addr × Obj)) (xe : Value → Shared → Prop) : ({ X with A := A', calm := cm, pn := pn, xe := xe } : Cx).Ok :=
  ⟨ok.mod, ok.kind, ok.glob, ok.blt, ok.above, ok.inj, ok.has, ok.cab, hh, hf.trans ok.frames, ok.stk, ok.exf, ok.bs, ok.bsz, ok.noex, ok.exfs, ok.funs, ok.frf⟩
theorem Inv.toPn (I : Inv X pins σ H s) (xe : Value → Shared → Prop) : Inv { X with pn := X.pn ++ pins, xe := xe } [] σ H s :=
  ⟨I.ok.re X.A rfl X.calm I.ok.hd _ _, I.os, I.bare, I.base, I.loc, I.cell, I.free, I.freeC, fun p hp => I.pin p (by rw [List.append_nil] at hp; exact hp), I.hok, I.len⟩
theorem Inv.ofPn {xe : Value → Shared → Prop} {pins' : List (Addr × Obj)} (ok : X.Ok) (I : Inv { X with pn := X.pn ++ pins, xe := xe } pins' σ H s) : Inv X pins σ H s :=
  ⟨ok, I.os, I.bare, I.base, I.loc, I.cell, I.free, I.freeC, fun p hp => I.pin p (List.mem_append_left _ hp), I.hok, I.len⟩
abbrev Cx.caught (X : Cx) (e : Addr) : Cx := { X with A := X.A.mark (some (.ref e)), calm := false, pn := X.pn, xe := fun _ _ => False }
theorem Inv.toCaught (I : Inv X pins σ H s) (e : Addr) : Inv (X.caught e) pins σ H s :=
  ⟨I.ok.re (X.A.mark (some (.ref e))) rfl false (fun z => nomatch z) _ _, I.os, I.bare, I.base, I.loc, I.cell, I.free, I.freeC, I.pin, I.hok, I.len⟩
theorem Inv.ofCaught {e : Addr} (ok : X.Ok) (I : Inv (X.caught e) pins σ H s) : Inv X pins σ H s :=
  ⟨ok, I.os, I.bare, I.base, I.loc, I.cell, I.free, I.freeC, I.pin, I.hok, I.len⟩
theorem iA {M : Model} {A : Around} {E : Value → Shared → Prop} {i : Nat} {n : Str} {pos : Pos} {Q : Unit → Shared → Prop} (I : Inv X pins σ H s) (hN : X.N.Nodup) (hi : X.N[i]? = some n) (hk : X.env.kindOf n = some .local)
    (h : ∀ s', Inv X pins (σ.set i none) H s' → Q () s') : wpAny M A (do bindName X.env n .none; unbindBehindTheSuite X.env n pos) Q E s := by
  obtain ⟨m, hn, hl⟩ := id I.loc
  have hcls : (X.env.scope.kind == .class || (X.env.scope.kind == .module && X.env.locals != X.env.globals)) = false := by rw [I.ok.kind]; rfl
  have cne := I.cne
  refine wpAny_nameGoes_keeps hk hn hcls fun h' v hn' hs => ?_
  obtain ⟨oL, _, _, hoL, _⟩ := id hn
  refine h _ ⟨I.ok, I.os, I.bare, ⟨fun b o e n hb hx => ?_, fun b o e n hb hx => ?_, I.base.free, fun b o e hx => ?_, I.base.tups, I.base.frzs, I.base.tbls⟩, ⟨_, hn', fun j y v' e1 e2 e3 => ?_⟩, fun y c e => ?_, I.free, I.freeC, fun p hp => ?_, fun b ob e => ?_, by simpa using I.len⟩
  · exact (hs.2 b (Nat.ne_of_lt (Nat.lt_of_lt_of_le (Heap.lt_size e) I.ok.above))).trans (I.base.keep b o e n hb hx)
  · obtain ⟨sl, e1⟩ := I.base.slot b o e n hb hx
    exact ⟨sl, (hs.2 b (Nat.ne_of_lt (Nat.lt_of_lt_of_le (Heap.lt_size e) I.ok.above))).trans e1⟩
  · obtain ⟨o', e1⟩ := I.base.there b o e hx
    exact ⟨o', (hs.2 b (Nat.ne_of_lt (Nat.lt_of_lt_of_le (Heap.lt_size e) I.ok.above))).trans e1⟩
  · by_cases hj : j = i
    · subst hj
      rw [List.getElem?_set] at e2
      simp at e2
    · rw [List.getElem?_set_ne (Ne.symm hj)] at e2
      obtain ⟨u', r', q⟩ := hl j y v' e1 e2 e3
      refine ⟨u', r', ?_⟩
      rcases q with ⟨k, e⟩ | ⟨k, c, e, z⟩
      · refine .inl ⟨k, ?_⟩
        have : y ≠ n := fun e => hj (ng hN e1 (e ▸ hi))
        simp [this, e]
      · exact .inr ⟨k, c, e, z.sameBut hs (cne y c e)⟩
  · obtain ⟨w', z⟩ := I.cell y c e
    exact ⟨w', z.sameBut hs (cne y c e)⟩
  · obtain ⟨e, n, ne, nf, d⟩ := I.pin p hp
    exact ⟨(hs.2 p.1 ne).trans e, n, ne, nf, d⟩
  · refine (I.hok b ob e).stay (fun c w' hc q => (hs.2 c ?_).trans q) (fun _ q => q) fun _ _ q => q
    rintro rfl
    rcases hc with rfl | hc
    · rw [I.free] at e; cases e
    · rw [I.free] at hc; cases hc
end
theorem qM {M : Model} {A : Around} {E : Value → Shared → Prop} {s : Shared} {K : PySem.W.Frag} {e C D : Addr} {oe : Obj} {Q : Bool → Shared → Prop} (X : K.In s.heap) (he : s.heap.get? e = some oe) (hcls : oe.cls = .ref C)
    (hx : PySem.W.exmOne K (.ref C) (.ref D) = some true) (h : Q true s) : wpAny M A (excMatches (.ref e) (.ref D)) Q E s :=
  (PySem.W.exm_one (M := M) X (hcls ▸ (PySem.W.Looks.ld he).andThen .now) hx).here h
def jQ (C : Value) (e : Addr) : HO := HO.ext fun h => ∃ o vs, h.get? e = some o ∧ o.cls = C ∧ o.data = .fields vs
def BP (K : PySem.W.Frag) (CH : Addr) (i : Nat) (tb : XKs → TS) (th : TS) : TS := fun D σ H =>
  tb (fun σ' C _ H' => ∃ Ce, C = .ref Ce ∧ PySem.W.exmOne K (.ref Ce) (.ref CH) = some true ∧ ∀ e, H' e = none →
    th { nx := fun σ2 H2 => D.nx (σ2.set i none) H2, rt := D.rt, bk := fun σ2 H2 => D.bk (σ2.set i none) H2, ct := fun σ2 H2 => D.ct (σ2.set i none) H2 } (σ'.set i (some (.ref e))) (upd H' e (jQ (.ref Ce) e))) D σ H
theorem AX {X : Cx} {CH : Addr} {i : Nat} {n x : Str} {np hpos pos : Pos} {body suite : List Stmt} {b₀ : Stmt} {tb : XKs → TS} {th : TS} (hN : X.N.Nodup) (hi : X.N[i]? = some n) (hk : X.env.kindOf n = some .local)
    (hg : Gl X x) (hm : X.mg x = some (.ref CH))
    (hex : X.ex = []) (hst : X.stack = X.env :: X.outer) (hfr : X.env.frame = some X.env.locals)
    (hb : ∀ (pn : List (Addr × Obj)) (Ee : Value → Shared → Prop) (Ex : XKs), d6 (XE X.prog X.w) { X with pn := pn, xe := Ee } Ex → PSs { X with pn := pn, xe := Ee } body (tb Ex))
    (hh : ∀ e : Addr, PSs (X.caught e) (b₀ :: suite) th) (hdb : (x == ("__debug__" : Str)) = false := by decide) :
    PS X (.Try body [.ExceptHandler (some (.Name x np)) (some n) (b₀ :: suite) hpos] [] [] pos) (BP X.K CH i tb th) := by
  intro pins s σ H D I h
  refine wpAny_Try_except ?_
  have ok := I.ok
  refine wpAny_mono (hb (X.pn ++ pins) _ _ ?hP [] s σ H D (I.toPn _) h) (fun f s1 hf => ?_) (fun _ _ z => z)
  case hP =>
    intro pins' σ' H1 s1 ev s1' I1 hq
    obtain ⟨e, C, rs, H', rfl, os, bare, un, hok, hrs, ⟨her, a0, fl⟩, ⟨Ce, rfl, hmro, hth⟩⟩ := hq
    have J1 := I1.call' os un hok bare (fun b z => nomatch z)
    have J : Inv X pins σ' H' s1' := J1.ofPn ok
    have I0 : Inv X pins σ' H1 s1 := I1.ofPn ok
    have hn0 : ∀ b ∈ rs, X.s₀.heap.get? b = none ∧ H' b = none := fun b hb => by
      refine ⟨?_, (hrs b hb).2⟩
      cases q : X.s₀.heap.get? b with
      | none => rfl
      | some o =>
        obtain ⟨o', z⟩ := I0.base.there b o q (by rw [hex]; simp)
        rw [(hrs b hb).1] at z; cases z
    have hpin : ∀ p ∈ X.pn ++ pins, p.1 ∉ rs := fun p hp z => by
      have := (I0.pin p hp).1
      rw [(hrs _ z).1] at this; cases this
    have hstk : s1'.heap.FunFrames X.base (X.env :: X.outer) := by rw [← hst]; exact J.stack
    rw [show X.stack = X.env :: X.outer from hst] at fl
    have hfrm : X.A.frames = some (X.env :: X.outer) := by rw [← hst]; exact ok.frames
    show wpAny (model X.prog X.w) X.A (noteFrame (.ref e) X.env) _ _ s1'
    refine wpAny_looks_onW (base := hid s1'.heap (X.env :: X.outer) rs) hfrm hfr fl fun h₄ held up4 => ?_
    refine wpAny_landsW held fun h₅ fl5 up5 => ?_
    have nin : ∀ b, b ∉ frs X.stack → b ∉ frs (X.env :: X.outer) := fun b hb => by rw [← hst]; exact hb
    have stay5 : ∀ b o, s1'.heap.get? b = some o → b ∉ frs X.stack → b ∉ rs → h₅.get? b = some o := fun b o z hb hr => fl5.1 b o (j3 z (nin b hb) hr)
    have I5 : Inv X pins σ' H' { s1' with heap := h₅, toks := s1'.toks } := J.noted hn0 hpin stay5 (up4.trans up5)
    obtain ⟨ob, hob, hobc⟩ := fl5.there
    refine wpAny_handleBy_cons (codeAny_handlers_test (iy (X := X.caught e) (I5.toCaught e) hg hm (qM I5.kIn hob hobc hmro ?_) hdb)) (by intro q; cases q)
    refine codeAny_handlers_suite_as (lands_againW fl5 fun h₆ fl6 up6 => ?_)
    have stay6 : ∀ b o, s1'.heap.get? b = some o → b ∉ frs X.stack → b ∉ rs → h₆.get? b = some o := fun b o z hb hr => fl6.1 b o (j3 z (nin b hb) hr)
    have I6 : Inv X pins σ' H' { s1' with heap := h₆, toks := s1'.toks } := J.noted hn0 hpin stay6 ((up4.trans up5).trans up6)
    have e1 : s1.heap.get? e = none := (hrs e her).1
    obtain ⟨oe, vs, hoe, hoec, hoed, _⟩ := fl6.first
    have I6' : Inv X pins σ' (upd H' e (jQ (.ref Ce) e)) { s1' with heap := h₆, toks := s1'.toks } := by
      refine I6.track (hrs e her).2 (hn0 e her).1 ?_ ?_ (fun p hp z => hpin p hp (by rw [z]; exact her)) ?_
      · intro z
        obtain ⟨m, ⟨oL, _, _, hoL, _⟩, _⟩ := I0.loc
        rw [← z, e1] at hoL; cases hoL
      · intro x c hc z
        obtain ⟨v, o, ho, _⟩ := I0.cell x c hc
        rw [z, e1] at ho; cases ho
      · exact ⟨⟨oe, vs, hoe, hoec, hoed⟩, ⟨oe, hoe⟩, fun h1 h2 ⟨o, ws, a1, a2, a3⟩ k => ⟨o, ws, k o a1, a2, a3⟩⟩
    refine mR (X := X.caught e) (I6'.toCaught e) hN hi (Or.inl hk) (v := .ref e) rfl (fun s7 I7 => ?_) (.inr hk)
    refine wpAny_mono (hh e pins s7 _ _ _ I7 (hth e (hrs e her).2)) (fun f s8 hf => ?_) (fun _ _ z => z.elim)
    show wpAny (model X.prog X.w) X.A (do bindName X.env n .none; unbindBehindTheSuite X.env n hpos) (fun _ s₃ => SP X pins D f s₃) X.xe s8
    cases f with
    | next =>
      obtain ⟨σ2, H2, J2, q⟩ := hf
      exact iA (J2.ofCaught ok) hN hi hk fun s9 I9 => ⟨_, _, I9, q⟩
    | brk =>
      obtain ⟨σ2, H2, J2, q⟩ := hf
      exact iA (J2.ofCaught ok) hN hi hk fun s9 I9 => ⟨_, _, I9, q⟩
    | cont =>
      obtain ⟨σ2, H2, J2, q⟩ := hf
      exact iA (J2.ofCaught ok) hN hi hk fun s9 I9 => ⟨_, _, I9, q⟩
    | ret u =>
      obtain ⟨v, σ2, H2, J2, r, q⟩ := hf
      exact iA (J2.ofCaught ok) hN hi hk fun s9 I9 => ⟨v, _, _, I9, r, q⟩
  cases f with
  | next =>
    obtain ⟨σ', H', J, q⟩ := hf
    exact wpAny_execs_nil ⟨σ', H', J.ofPn ok, q⟩
  | brk =>
    obtain ⟨σ', H', J, q⟩ := hf
    exact ⟨σ', H', J.ofPn ok, q⟩
  | cont =>
    obtain ⟨σ', H', J, q⟩ := hf
    exact ⟨σ', H', J.ofPn ok, q⟩
  | ret u =>
    obtain ⟨v, σ', H', J, r, q⟩ := hf
    exact ⟨v, σ', H', J.ofPn ok, r, q⟩
end L2
set_option Elab.async false
set_option linter.all false
set_option maxRecDepth 100000
namespace L2
open PySem PySem.Spec PyProof.Rows PySem.W
inductive vS : V → Value → Prop where
  | ty (n : String) : vS (.ty n) (.type n)
  | own (a : Addr) : vS (.ref a) (.ref a)
section
variable {X : Cx}
theorem sK : CallR X (.builtin "isinstance") (fun xs H Q => ∃ x c t u b, xs = [x, c] ∧ vS c u ∧ jg X.K H x t ∧ PySem.W.kitOne X.K t u = some b ∧ Q (.bl b) H) := by
  intro pins s σ H xs us Q I r h
  obtain ⟨x, c, t, u, b, rfl, rc, ty, e, q⟩ := h
  obtain ⟨ux, uc, rfl, rx, rc'⟩ := uR r
  have ec : uc = u := by
    cases rc with
    | ty n => exact rc'
    | own a => exact rc'
  subst ec
  exact v9 I rx ty e fun tk => ⟨.bl b, H, I.tok _, rfl, q⟩
end
structure fH (K : Frag) (C : Addr) : Prop where
  l1 : findIn K (.ref C) "__getattribute__" = some (some (.builtin "BaseException.__getattribute__"))
  l2 : findIn K (.ref C) "__getattr__" = some none
  l3 : findIn K (.ref C) "__class__" = some (some (.builtin "object.__class__"))
  c1 : (clsIn K C).isSome = true
  m1 : mroIn K C (.type "object") = some true
  m2 : mroIn K C (.type "BaseException") = some true
section
variable {prog : Program} {w : World} {A : Around} {E : Value → Shared → Prop} {K : Frag} {e C : Addr} {o : Obj} {s : Shared}
open Builtin Builtin.ObjectAttr Builtin.Getset_descriptor PySem.Calls in
theorem n9 {R : Result → Shared → Prop} {tp : Value} (X : K.In s.heap) (Z : fH K C) (hx : s.heap.get? e = some o) (hc : o.cls = .ref C)
    (h : R (.ok (.ret (.ref C))) s) : codeAny (model prog w) A (.call (.builtin "getset_descriptor.__get__") ⟨[.builtin "object.__class__", .ref e, tp], []⟩) R s := by
  obtain ⟨hh, g, dr, t, os⟩ := s
  have L0 : Looks (model prog w) hh (typeOf (.ref e)) (.ref C) := hc ▸ (Looks.ld hx).andThen .now
  have L1 := looks_mroIn (M := model prog w) X Z.m1
  refine codeAny_call_builtin KF.slot_gs.plain KF.entry_gs (KF.slot_gs.check _ _ _ _ _ _ _ _ KF.type_class (KF.args_gs _ _ _) ?_)
  unfold Builtin.«getset_descriptor.__get__» descrGet
  rw [dga_obj]
  refine wpAny_bind (wpAny_pure ?_)
  unfold descrGetter descrCheckInstance descrNameAndClass isInstance
  simp only [KF.owner_class]
  repeat lk
  refine ⟨Code.quiet_builtin _ (by decide +kernel), codeAny_builtin KF.entry_class ?_⟩
  unfold Builtin.«object.__class__» shownTypeOf
  repeat lk
  exact h
theorem qh {M : Model} {nameV : Value} {Q : Unit → Shared → Prop} (X : K.In s.heap) (Z : fH K C) (hx : s.heap.get? e = some o) (hc : o.cls = .ref C) (hq : Q () s) :
    wpAny M A (checkBuiltinCall "BaseException.__getattribute__" ⟨[.ref e, nameV], []⟩) Q E s := by
  have hk : builtinKind "BaseException.__getattribute__" = some .slot := by decide +kernel
  have hsplit : splitId "BaseException.__getattribute__" = some ("BaseException", "__getattribute__") := by decide +kernel
  have ha := F.args_bexc_ga (.ref e) nameV
  obtain ⟨hh, g, dr, t, os⟩ := s
  have L0 : Looks M hh (typeOf (.ref e)) (.ref C) := hc ▸ (Looks.ld hx).andThen .now
  have L1 := looks_mroIn (M := M) X Z.m2
  have LI : Looks M hh (isInstance (.ref e) (.type "BaseException")) true := L0.andThen L1
  simp only [checkBuiltinCall, hk, hsplit]
  refine wpAny_bind (LI.at ?_)
  repeat (first | assumption | wp_step)
theorem pR {tk : Tok} {Q : Fin → Shared → Prop} (X : K.In s.heap) (Z : fH K C) (hx : s.heap.get? e = some o) (hc : o.cls = .ref C) (hq : Q (.done (.ret (.ref C))) s) :
    wpAny (model prog w) A (Builtin.«object.__getattribute__» ⟨[.ref e, .str "__class__" tk], []⟩) Q E s := by
  obtain ⟨hh, g, dr, t, os⟩ := s
  have L0 : Looks (model prog w) hh (typeOf (.ref e)) (.ref C) := hc ▸ (Looks.ld hx).andThen .now
  have L3 := looks_findIn (M := model prog w) X Z.l3
  have f5 := KF.type_class
  have f6 := F.slot_gs_get.lookup
  have f7 := F.slot_gs_set.lookup
  repeat (any_goals (first | assumption | with_reducible refine L0.at ?_ | with_reducible refine L3.at ?_ | wp_step))
  refine n9 X Z hx hc ?_
  repeat (any_goals (first | assumption | wp_step))
theorem m5 {Q : Option Value → Shared → Prop} (X : K.In s.heap) (Z : fH K C) (hx : s.heap.get? e = some o) (hc : o.cls = .ref C) (h : Q (some (.ref C)) { s with toks := s.toks + 1 }) :
    wpAny (model prog w) A (getAttr? (.ref e) "__class__") Q E s := by
  obtain ⟨hh, g, dr, t, os⟩ := s
  have L0 : Looks (model prog w) hh (typeOf (.ref e)) (.ref C) := hc ▸ (Looks.ld hx).andThen .now
  have L1 := looks_findIn (M := model prog w) X Z.l1
  have L2 := looks_findIn (M := model prog w) X Z.l2
  have f3 := F.excAttr_ValueError.ga.bind (.ref e)
  have hx2 : (Value.builtin "BaseException.__getattribute__" == Value.builtin "object.__getattribute__") = false := by decide +kernel
  have hx0 : ∀ ex : Bool, (ex && onTheHeap (Value.builtin "BaseException.__getattribute__")) = false := fun ex => by cases ex <;> rfl
  have hx1 : (onTheHeap (Value.ref C) && Value.builtin "BaseException.__getattribute__" == Value.builtin "object.__getattribute__") = false := by rw [hx2]; rfl
  unfold getAttr?
  repeat (any_goals (first | assumption | with_reducible refine L0.at ?_ | with_reducible refine L1.at ?_ | with_reducible refine L2.at ?_ | wp_step))
  refine codeAny_call_builtin F.excAttr_ValueError.ga.plain F.entry_bexc_ga (qh X Z hx hc (pR X Z hx hc ?_))
  repeat (any_goals (first | assumption | wp_step))
theorem wo (Z : fH K C) : KitX K (.ref e) (.ref C) (fun h => ∃ o, h.get? e = some o ∧ o.cls = .ref C) where
  ty := fun M h _ ⟨o, h1, h2⟩ => h2 ▸ (Looks.ld h1).andThen .now
  it := fun M h X _ => by
    have c1 := Z.c1
    unfold clsIn at c1
    split at c1
    · rename_i c' d' cd' sl' ho
      intro A' Q' E' s' k q
      unfold isType loadHead
      exact wpAny_bind (wpAny_loadPart (k _ _ (X _ _ ho)) (wpAny_pure q))
    · cases c1
  ne := fun h tp dd its n sl X htp => by
    refine Bool.eq_false_iff.mpr fun q => ?_
    have e' : C = tp := Value.ref.inj (beq_iff_eq.mp q)
    subst e'
    have c1 := Z.c1
    unfold clsIn at c1
    split at c1
    · rename_i c' d' cd' sl' ho
      have z := (X _ _ ho).symm.trans htp
      cases z
    · cases c1
  ca := fun X ⟨o, h1, h2⟩ k => m5 X Z h1 h2 k
end
section
variable {X : Cx}
theorem qI : CallR X (.builtin "isinstance") (fun xs H Q => ∃ e c C u b, xs = [.ref e, c] ∧ vS c u ∧ H e = some (jQ (.ref C) e) ∧ fH X.K C ∧ PySem.W.kitOne X.K (.ref C) u = some b ∧ Q (.bl b) H) := by
  intro pins s σ H xs us Q I r h
  obtain ⟨e, c, C, u, b, rfl, rc, he, Z, k, q⟩ := h
  obtain ⟨ux, uc, rfl, rx, rc'⟩ := uR r
  have ec : uc = u := by
    cases rc with
    | ty n => exact rc'
    | own a => exact rc'
  subst ec
  cases (show ux = Value.ref e from rx)
  obtain ⟨⟨o, vs, h1, h2, _⟩, _, _⟩ := (show ObjOk X.prog X.w H s.heap e (jQ (.ref C) e) from I.hok e _ he)
  exact kia_one (wo Z) I.kIn ⟨o, h1, h2⟩ k (fun z => nomatch z) fun tk => ⟨.bl b, H, I.tok _, rfl, q⟩
theorem qE (hc : X.calm = true) : CallR X (.builtin "sum") (fun xs H Q => ∃ (p : Addr) (ns : List Int), xs = [.ref p] ∧ SqT X.K H p (ns.map V.int) ∧ Q (.int ns.sum) H) := by
  intro pins s σ H xs us Q I r h
  obtain ⟨p, ns, rfl, hq, q⟩ := h
  obtain ⟨u, rfl, rx⟩ := eh r
  cases (show u = Value.ref p from rx)
  obtain ⟨its, r', pl, hz⟩ := I.tuple hq
  have hi := mo r'
  obtain ⟨ys, hy⟩ := hi.allInts.items
  have hn : numsOf its.toArray.toList = ns := by rw [show its.toArray.toList = its from rfl, hi.numsOf]
  rw [hy] at pl hn
  rw [nums_intItems] at hn
  refine ktm_sumG (I.ok.hd hc) pl fun h' tk t' hk => ?_
  rw [preSum_eq, List.take_of_length_le (by simp), hn]
  exact ⟨.int ns.sum, H, I.kept hk, ⟨_, rfl⟩, q⟩
end
end L2
namespace L2
open PySem PySem.Spec PyProof.Rows
section
variable {X : Cx} {a b : Expr} {ta : TE}
def AV (xs ys : List V) : Bool := (List.range (min xs.length ys.length)).all (fun j => eqV (xs.getD j .non) (ys.getD j .non)) && xs.length == ys.length
def yK (K : PySem.W.Frag) (neg : Bool) : R2 := fun x y H Q => ∃ p p' xs ys, x = .ref p ∧ y = .ref p' ∧ SqT K H p xs ∧ SqT K H p' ys ∧ xs.all dP = true ∧ ys.all dP = true ∧ Q (.bl (neg ^^ AV xs ys)) H
theorem nz {A : Around} {s : Shared} {xs ys : List V} {us vs : List Value} (r : Vals xs us) (r' : Vals ys vs) (fx : xs.all dP = true) (fy : ys.all dP = true) (j : Nat) (h1 : j < us.toArray.size) (h2 : j < vs.toArray.size) :
    SeqAt.EqAt A s us.toArray[j] vs.toArray[j] (eqV (xs.getD j .non) (ys.getD j .non)) := by
  have e1 : us[j]? = some us.toArray[j] := by simp at h1; simp [h1]
  have e2 : vs[j]? = some vs.toArray[j] := by simp at h2; simp [h2]
  have l1 : j < xs.length := by rw [r.length]; simpa using h1
  have l2 : j < ys.length := by rw [r'.length]; simpa using h2
  have g1 : xs[j]? = some (xs.getD j .non) := by simp [List.getD, l1]
  have g2 : ys[j]? = some (ys.getD j .non) := by simp [List.getD, l2]
  obtain ⟨u, hu, ru⟩ := r.get g1
  obtain ⟨v, hv, rv⟩ := r'.get g2
  rw [e1] at hu
  rw [e2] at hv
  rw [Option.some.inj hu, Option.some.inj hv]
  exact sZ ru rv (List.all_eq_true.mp fx _ (List.mem_of_getElem? g1)) (List.all_eq_true.mp fy _ (List.mem_of_getElem? g2))
theorem Bp (hu : X.A.units < cLine) : OpR X (compareOp .Eq) (yK X.K false) := by
  intro pins s σ H x y v u Q I rx ry h
  obtain ⟨p, p', xs, ys, rfl, rfl, hx, hy, fx, fy, q⟩ := h
  cases (show v = Value.ref p from rx)
  cases (show u = Value.ref p' from ry)
  obtain ⟨its, r, pl, hz⟩ := I.tuple hx
  obtain ⟨its', r', pl', hz'⟩ := I.tuple hy
  refine SeqAt.eq_tupleAt pl pl' hu (fun j h1 h2 => nz r r' fx fy j h1 h2) ⟨.bl _, H, I, rfl, ?_⟩
  rw [List.size_toArray, List.size_toArray, ← r.length, ← r'.length]
  simpa [AV] using q
theorem AZ (hu : X.A.units < cLine) : OpR X (compareOp .NotEq) (yK X.K true) := by
  intro pins s σ H x y v u Q I rx ry h
  obtain ⟨p, p', xs, ys, rfl, rfl, hx, hy, fx, fy, q⟩ := h
  cases (show v = Value.ref p from rx)
  cases (show u = Value.ref p' from ry)
  obtain ⟨its, r, pl, hz⟩ := I.tuple hx
  obtain ⟨its', r', pl', hz'⟩ := I.tuple hy
  refine SeqAt.RcNeAt.tuples pl pl' hu (fun j h1 h2 => nz r r' fx fy j h1 h2) X.prog X.w X.xe _ ⟨.bl _, H, I, rfl, ?_⟩
  rw [List.size_toArray, List.size_toArray, ← r.length, ← r'.length]
  simpa [AV] using q
theorem Ah (hu : X.A.units < cLine) : OpR X (compareOp .Eq) (fun x y H Q => rEq x y H Q ∨ yK X.K false x y H Q) := B9.or (Bp hu)
theorem Bt (hu : X.A.units < cLine) : OpR X (compareOp .NotEq) (fun x y H Q => rNe x y H Q ∨ yK X.K true x y H Q) := BQ.or (AZ hu)
theorem vP : CallR X (.builtin "isinstance") (fun xs H Q => (∃ x c t u b, xs = [x, c] ∧ vS c u ∧ jg X.K H x t ∧ PySem.W.kitOne X.K t u = some b ∧ Q (.bl b) H) ∨
    ∃ e c C u b, xs = [.ref e, c] ∧ vS c u ∧ H e = some (jQ (.ref C) e) ∧ fH X.K C ∧ PySem.W.kitOne X.K (.ref C) u = some b ∧ Q (.bl b) H) := sK.or qI
end
end L2
set_option Elab.async false
set_option linter.all false
set_option maxRecDepth 100000
namespace L2
open PySem PySem.Spec PyProof.Rows
abbrev T (l : List Nat) : V := .str ⟨⟨l⟩⟩
def cs (x : Str) : List Nat := x.cps.toList
theorem CJ (x : Str) : V.str x = T (cs x) := rfl
section
variable {X : Cx} {e a b c : Expr} {pos : Pos}
theorem PE.imp {t t' : TE} (h : PE X e t) (i : ∀ σ H Q, t' σ H Q → t σ H Q) : PE X e t' := fun pins s σ H Q I q => h pins s σ H Q I (i σ H Q q)
theorem OpR.imp {f : Value → Value → Sem Value} {r r' : R2} (h : OpR X f r) (i : ∀ x y H Q, r' x y H Q → r x y H Q) : OpR X f r' := fun pins s σ H x y v u Q I rx ry q => h pins s σ H x y v u Q I rx ry (i _ _ _ _ q)
theorem UnR.imp {f : Value → Sem Value} {r r' : V → Hp → VK → Prop} (h : UnR X f r) (i : ∀ x H Q, r' x H Q → r x H Q) : UnR X f r' := fun pins s σ H x v Q I rx q => h pins s σ H x v Q I rx (i _ _ _ q)
theorem CallR.imp {f : Value} {r r' : List V → Hp → VK → Prop} (h : CallR X f r) (i : ∀ x H Q, r' x H Q → r x H Q) : CallR X f r' := fun pins s σ H x v Q I rx q => h pins s σ H x v Q I rx (i _ _ _ q)
theorem IxR.imp {r r' : R2} (h : IxR X r) (i : ∀ x y H Q, r' x y H Q → r x y H Q) : IxR X r' := fun va sl pins s σ H x y v u Q I rx ry q hs => h va sl pins s σ H x y v u Q I rx ry (i _ _ _ _ q) hs
def tB (i : Nat) : TE := fun σ H Q => match σ[i]? with
  | some (some v) => Q v H
  | _ => False
theorem fv (i : Nat) {x : Str} (hN : X.N[i]? = some x := by rfl) (hv : Vis X.env.scope x := by first | exact Or.inl rfl | exact Or.inr (Or.inl rfl) | exact Or.inr (Or.inr rfl)) (hd : (x == ("__debug__" : Str)) = false := by decide)
    (hcd : (x == ("__classdict__" : Str)) = false := by decide) : PE X (.Name x pos) (tB i) := (A1 hN hv hd hcd).imp fun σ H Q h => by
  unfold tB at h
  split at h
  · exact ⟨_, by assumption, h⟩
  · exact h.elim
theorem aL {x : Str} {j} (l : List Nat) (h : x = ⟨⟨l⟩⟩ := by decide +kernel) : PE X (.Constant (.str x) j pos) (tC (T l)) := h ▸ Ae
def Bm : R2
  | .int i, .int j, H, Q => Q (.int (i + j)) H
  | .str i, .str j, H, Q => (cs i).length + (cs j).length ≤ sizeLine ∧ Q (T (cs i ++ cs j)) H
  | _, _, _, _ => False
theorem BI (i j : Str) : V.str (i ++ j) = T (cs i ++ cs j) := by
  show V.str ⟨i.cps ++ j.cps⟩ = V.str ⟨⟨i.cps.toList ++ j.cps.toList⟩⟩
  congr 1
  congr 1
  exact (Array.ext' (by simp))
theorem aJ : OpR X (binaryOp .Add) Bm := (Bq.or sX).imp fun x y H Q h => by
  unfold Bm at h
  split at h
  · exact .inl ⟨_, _, rfl, rfl, h⟩
  · refine .inr ⟨_, _, rfl, rfl, by simpa [cs, Str.length] using h.1, ?_⟩
    rw [BI]; exact h.2
  · exact h.elim
def gI (g : Int → Int → V) : R2
  | .int i, .int j, H, Q => Q (g i j) H
  | _, _, _, _ => False
def gIC (C : Int → Int → Prop) (g : Int → Int → V) : R2
  | .int i, .int j, H, Q => C i j ∧ Q (g i j) H
  | _, _, _, _ => False
theorem zT {g : Int → Int → V} : ∀ x y H Q, gI g x y H Q → rI0 g x y H Q := fun x y H Q h => by
  unfold gI at h; split at h
  · exact ⟨_, _, rfl, rfl, h⟩
  · exact h.elim
theorem pK {C : Int → Int → Prop} {g : Int → Int → V} : ∀ x y H Q, gIC C g x y H Q → rI C g x y H Q := fun x y H Q h => by
  unfold gIC at h; split at h
  · exact ⟨_, _, rfl, rfl, h.1, h.2⟩
  · exact h.elim
theorem pJ : OpR X (binaryOp .Sub) (gI fun i j => .int (i - j)) := BH.imp zT
theorem dB : OpR X (binaryOp .Mult) (gIC CMul fun i j => .int (i * j)) := Ag.imp pK
theorem aP : OpR X (binaryOp .Mod) (gIC (fun _ j => 0 < j) fun i j => .int (i % j)) := BJ.imp pK
theorem aO : OpR X (binaryOp .FloorDiv) (gIC Ai fun i j => .int (i / j)) := yB.imp pK
theorem yg : OpR X (binaryOp .Pow) (gIC A6 fun i j => .int (i ^ j.toNat)) := AB.imp pK
def AF : V → Hp → VK → Prop
  | .int i, H, Q => Q (.int (-i)) H
  | _, _, _ => False
theorem mB : UnR X (unaryOp .USub) AF := BD.imp fun x H Q h => by
  unfold AF at h; split at h
  · exact ⟨_, rfl, h⟩
  · exact h.elim
def leN (a b : List Nat) : Bool := !decide (b < a)
theorem wa : OpR X (compareOp .LtE) (fun x y H Q => ∃ i j, x = .str i ∧ y = .str j ∧ Q (.bl (leN (cs i) (cs j))) H) := by
  intro pins s σ H x y v u Q I rx ry h
  obtain ⟨i, j, rfl, rfl, q⟩ := h
  obtain ⟨t, rfl⟩ := rx
  obtain ⟨t', rfl⟩ := ry
  exact PySem.P.le_str ⟨.bl _, H, I, rfl, q⟩
def gLe : R2
  | .int i, .int j, H, Q => Q (.bl (decide (i ≤ j))) H
  | .str i, .str j, H, Q => Q (.bl (leN (cs i) (cs j))) H
  | _, _, _, _ => False
theorem h9 : OpR X (compareOp .LtE) gLe := (Ck.or wa).imp fun x y H Q h => by
  unfold gLe at h; split at h
  · exact .inl ⟨_, _, rfl, rfl, h⟩
  · exact .inr ⟨_, _, rfl, rfl, h⟩
  · exact h.elim
def gLt : R2
  | .int i, .int j, H, Q => Q (.bl (decide (i < j))) H
  | .str i, .str j, H, Q => Q (.bl (decide (cs i < cs j))) H
  | _, _, _, _ => False
theorem sP : OpR X (compareOp .Lt) gLt := (B_.or wk).imp fun x y H Q h => by
  unfold gLt at h; split at h
  · exact .inl ⟨_, _, rfl, rfl, h⟩
  · exact .inr ⟨_, _, rfl, rfl, h⟩
  · exact h.elim
theorem zX : OpR X (compareOp .Gt) (gI fun i j => .bl (decide (j < i))) := BZ.imp zT
def eqS : V → V → Option Bool
  | .int i, .int j => some (decide (i = j))
  | .bl i, .bl j => some (decide (i = j))
  | .str i, .str j => some (decide (cs i = cs j))
  | .non, .non => some true
  | .non, .int _ => some false | .int _, .non => some false | .non, .bl _ => some false | .bl _, .non => some false | .non, .str _ => some false | .str _, .non => some false
  | .int _, .str _ => some false | .str _, .int _ => some false | .bl _, .str _ => some false | .str _, .bl _ => some false
  | _, _ => none
theorem tQ (i j : Str) : V.str i = V.str j ↔ cs i = cs j := by
  constructor
  · intro h; injection h with h; rw [h]
  · intro h
    congr 1
    obtain ⟨⟨a⟩⟩ := i
    obtain ⟨⟨b⟩⟩ := j
    have h' : a = b := h
    rw [h']
theorem sB {x y : V} {k : Bool} (h : eqS x y = some k) : BG x y = true ∧ decide (x = y) = k := by
  unfold eqS at h
  split at h <;> (first | cases h) <;> refine ⟨rfl, ?_⟩
  case h_1 i j => exact decide_eq_decide.mpr (by simp)
  case h_2 i j => exact decide_eq_decide.mpr (by simp)
  case h_3 i j => exact decide_eq_decide.mpr (tQ i j)
  all_goals simp
variable {ta tb tc : TE} {rest : List Expr}
def kB (Q : Bool → Hp → Prop) : VK := fun x H => match x with
  | .bl k => Q k H
  | _ => False
def uU (t : TE) : TT := fun σ H Q => t σ H (kB Q)
theorem nw {Q : Bool → Hp → Prop} {x : V} {H : Hp} (h : kB Q x H) : ∃ k, x = .bl k ∧ Q k H := by
  unfold kB at h
  split at h
  · exact ⟨_, rfl, h⟩
  · exact h.elim
theorem bI {op : CmpOp} {r : R2} (ho : OpR X (compareOp op) r) (ha : PE X a ta) (hb : PE X b tb) (hm : behindInMarks op b = false) : PT X (.Compare a [op] [b] pos) (uU (tOp r ta tb)) := by
  intro pins s σ H Q I h
  refine wpAny_isTrue_Compare1 (thn (ha pins s σ H _ I h) fun v s1 ⟨x, H1, I1, r1, q1⟩ => thn (hb pins s1 σ H1 _ I1 q1) fun u s2 ⟨y, H2, I2, r2, q2⟩ =>
    thn (ho pins s2 σ H2 x y v u _ I2 r1 r2 q2) fun c s3 ⟨z, H3, I3, r3, q3⟩ => ?_) hm
  obtain ⟨k, e, q3⟩ := nw q3
  subst e
  cases r3
  exact wpAny_truthy_bool ⟨H3, I3, q3⟩
theorem rG {op : CmpOp} {t : TE} (h : PC X op a b t) (h1 : behindInMarks op b = false := by first | exact sJ _ (by decide) (by decide) | rfl) : PT X (.Compare a [op] [b] pos) (uU t) := by
  intro pins s σ H Q I hw
  refine wpAny_isTrue_Compare1 (thn (h pins s σ H _ I hw) fun v s1 h1 => thn h1 fun u s2 h2 => thn h2 fun c s3 ⟨x, H1, I1, r1, q1⟩ => ?_) h1
  obtain ⟨d, rfl, q⟩ := nw q1
  cases r1
  exact wpAny_truthy_bool ⟨H1, I1, q⟩
theorem cv {t : TE} (h : PE X e t) (he : ∀ whole, isTrue e X.env whole = (do let v ← whole; standAt e.pos; holding [v] (truthy v)) := by intro _; rfl) : PT X e (uU t) := by
  intro pins s σ H Q I hw
  refine isTrue_plain (thn (h pins s σ H _ I hw) fun v s1 ⟨x, H1, I1, r1, q1⟩ => ?_) (he _)
  obtain ⟨d, rfl, q⟩ := nw q1
  cases r1
  exact wpAny_truthy_bool ⟨H1, I1, q⟩
def xm (r r' : R2) (ta tb tc : TE) : TE := fun σ H Q => ta σ H fun x H1 => tb σ H1 fun y H2 => r x y H2 (kB fun k H3 => if k = true then tc σ H3 fun w' H4 => r' y w' H4 Q else Q (.bl false) H3)
theorem kf {op op' : CmpOp} {r r' : R2} (ho : OpR X (compareOp op) r) (ho' : OpR X (compareOp op') r') (ha : PE X a ta) (hb : PE X b tb) (hc : PE X c tc)
    (hm : lastMarks [op, op'] [b, c] = false := by with_unfolding_all rfl) : PE X (.Compare a [op, op'] [b, c] pos) (xm r r' ta tb tc) := by
  intro pins s σ H Q I h
  refine Compare_chain (thn (ha pins s σ H _ I h) fun v s1 ⟨x, H1, I1, r1, q1⟩ => chain_link (thn (hb pins s1 σ H1 _ I1 q1) fun u s2 ⟨y, H2, I2, r2, q2⟩ =>
    thn (ho pins s2 σ H2 x y v u _ I2 r1 r2 q2) fun d s3 ⟨z, H3, I3, r3, q3⟩ => ?_)) hm
  obtain ⟨k, e, q3⟩ := nw q3
  subst e
  cases r3
  refine wpAny_truthy_bool ?_
  cases k with
  | false => exact ite_ff ⟨.bl false, H3, I3, rfl, q3⟩
  | true => exact ite_tt (chain_last (thn (hc pins s3 σ H3 _ I3 q3) fun w' s4 ⟨z', H4, I4, r4, q4⟩ => ho' pins s4 σ H4 y z' u w' Q I4 r2 r4 q4))
def xB (ta tb : TE) : TE := fun σ H Q => ta σ H (kB fun c H1 => if c = true then tb σ H1 Q else Q (.bl false) H1)
def fOr (ta tb : TE) : TE := fun σ H Q => ta σ H (kB fun c H1 => if c = true then Q (.bl true) H1 else tb σ H1 Q)
def zc (ta : TE) : TE := fun σ H Q => ta σ H (kB fun c H1 => Q (.bl (!c)) H1)
theorem dv (ha : PE X a ta) (hb : PE X (.BoolOp .And (b :: rest) pos) tb) : PE X (.BoolOp .And (a :: b :: rest) pos) (xB ta tb) := by
  intro pins s σ H Q I h
  refine BoolOp_and (thn (ha pins s σ H _ I h) fun v s1 ⟨x, H1, I1, r1, q1⟩ => ?_)
  obtain ⟨c, rfl, q1⟩ := nw q1
  cases r1
  refine wpAny_truthy_bool ?_
  cases c with
  | true => exact hb pins s1 σ H1 Q I1 q1
  | false => exact ⟨.bl false, H1, I1, rfl, q1⟩
theorem oU (ha : PE X a ta) (hb : PE X (.BoolOp .Or (b :: rest) pos) tb) : PE X (.BoolOp .Or (a :: b :: rest) pos) (fOr ta tb) := by
  intro pins s σ H Q I h
  refine BoolOp_or (thn (ha pins s σ H _ I h) fun v s1 ⟨x, H1, I1, r1, q1⟩ => ?_)
  obtain ⟨c, rfl, q1⟩ := nw q1
  cases r1
  refine wpAny_truthy_bool ?_
  cases c with
  | false => exact hb pins s1 σ H1 Q I1 q1
  | true => exact ⟨.bl true, H1, I1, rfl, q1⟩
theorem pC (ha : PE X a ta) : PE X (.UnaryOp .Not a pos) (zc ta) := by
  intro pins s σ H Q I h
  refine UnaryOp_ (thn (ha pins s σ H _ I h) fun v s1 ⟨x, H1, I1, r1, q1⟩ => ?_)
  obtain ⟨c, rfl, q1⟩ := nw q1
  cases r1
  exact not_of (wpAny_truthy_bool ⟨.bl (!c), H1, I1, rfl, q1⟩)
def Cw : List V → Hp → VK → Prop
  | [.int i], H, Q => Q (.int (if i < 0 then -i else i)) H
  | _, _, _ => False
def Bi : List V → Hp → VK → Prop
  | [.int i, .int j], H, Q => Q (.int (if j < i then j else i)) H
  | _, _, _ => False
theorem wD (hc : X.calm = true) : CallR X (.builtin "min") Bi := (vX hc).imp fun x H Q h => by
  unfold Bi at h; split at h
  · exact ⟨_, _, rfl, h⟩
  · exact h.elim
def AW : List V → Hp → VK → Prop
  | [.int i, .int j], H, Q => Q (.int (if j > i then j else i)) H
  | _, _, _ => False
theorem Bl (hc : X.calm = true) : CallR X (.builtin "max") AW := (vn hc).imp fun x H Q h => by
  unfold AW at h; split at h
  · exact ⟨_, _, rfl, h⟩
  · exact h.elim
def yM (K : PySem.W.Frag) : List V → Hp → VK → Prop
  | [.str y], H, Q => (cs y).length ≤ sizeLine ∧ Q (.int (cs y).length) H
  | [.ref p], H, Q => ∃ xs, (SqL K H p xs ∨ SqT K H p xs) ∧ Q (.int xs.length) H
  | _, _, _ => False
theorem Ak : CallR X (.builtin "len") (yM X.K) := wz.imp fun x H Q h => by
  unfold yM at h; split at h
  · exact ⟨_, _, rfl, ⟨by simpa [cs, Str.length] using h.1, rfl⟩, by simpa [cs, Str.length] using h.2⟩
  · obtain ⟨xs, hx, q⟩ := h
    rcases hx with hx | hx
    · exact ⟨_, _, rfl, .inl ⟨xs, hx, rfl⟩, q⟩
    · exact ⟨_, _, rfl, .inr ⟨xs, hx, rfl⟩, q⟩
  · exact h.elim
def b4 (H : Hp) : V → Option String
  | .non => some "NoneType"
  | .bl _ => some "bool"
  | .int _ => some "int"
  | .str _ => some "str"
  | .ref p => match H p with
    | some (.lst _) => some "list"
    | some (.frz _ (.lst _)) => some "list"
    | some (.tup _) => some "tuple"
    | some (.dK _) => some "dict"
    | _ => none
  | _ => none
def b5 (t n : String) : Bool := t == n || (t == "bool" && n == "int")
def g9 (t : String) : Prop := t = "NoneType" ∨ t = "bool" ∨ t = "int" ∨ t = "str" ∨ t = "list" ∨ t = "tuple" ∨ t = "dict"
theorem Ca {K : PySem.W.Frag} {t n : String} (h : g9 t) (hn : n = "int" ∨ n = "bool" ∨ n = "str" ∨ n = "list" ∨ n = "tuple" ∨ n = "dict") : PySem.W.kitOne K (.type t) (.type n) = some (b5 t n) := by
  rcases h with rfl | rfl | rfl | rfl | rfl | rfl | rfl <;> rcases hn with rfl | rfl | rfl | rfl | rfl | rfl <;> kernel_rfl
theorem qV {K : PySem.W.Frag} {H : Hp} {x : V} {t : String} (h : b4 H x = some t) : jg K H x (.type t) ∧ g9 t := by
  unfold b4 at h
  split at h
  · cases h; exact ⟨.non, by simp [g9]⟩
  · cases h; exact ⟨.bl _, by simp [g9]⟩
  · cases h; exact ⟨.int _, by simp [g9]⟩
  · cases h; exact ⟨.str _, by simp [g9]⟩
  · split at h
    · rename_i e; cases h; exact ⟨.lst e, by simp [g9]⟩
    · rename_i e; cases h; exact ⟨.frz e, by simp [g9]⟩
    · rename_i e; cases h; exact ⟨.tup e, by simp [g9]⟩
    · rename_i e; cases h; exact ⟨.dK e, by simp [g9]⟩
    · cases h
  · cases h
def qU (n : String) : Bool := n == "int" || n == "bool" || n == "str" || n == "list" || n == "tuple" || n == "dict"
def ui (K : PySem.W.Frag) : List V → Hp → VK → Prop
  | [x, .ty n], H, Q => (match b4 H x with
    | some t => qU n = true ∧ Q (.bl (b5 t n)) H
    | none => ∃ e C b, x = .ref e ∧ H e = some (jQ (.ref C) e) ∧ fH K C ∧ PySem.W.kitOne K (.ref C) (.type n) = some b ∧ Q (.bl b) H)
  | [.ref e, .ref D], H, Q => ∃ C b, H e = some (jQ (.ref C) e) ∧ fH K C ∧ PySem.W.kitOne K (.ref C) (.ref D) = some b ∧ Q (.bl b) H
  | _, _, _ => False
theorem AC : CallR X (.builtin "isinstance") (ui X.K) := vP.imp fun xs H Q h => by
  unfold ui at h
  split at h
  · rename_i x n
    split at h
    · rename_i t ht
      obtain ⟨ty, hb⟩ := qV (K := X.K) ht
      obtain ⟨hn, q⟩ := h
      refine .inl ⟨x, _, _, _, _, rfl, .ty n, ty, Ca hb ?_, q⟩
      simpa [qU, or_assoc] using hn
    · obtain ⟨e, C, b, rfl, he, Z, k, q⟩ := h
      exact .inr ⟨e, _, C, _, b, rfl, .ty n, he, Z, k, q⟩
  · rename_i e D
    obtain ⟨C, b, he, Z, k, q⟩ := h
    exact .inr ⟨e, _, C, _, b, rfl, .own D, he, Z, k, q⟩
  · exact h.elim
end
section
variable {X : Cx} {a b : Expr} {ta tb : TE} {pos pos' : Pos}
def gIx (K : PySem.W.Frag) : R2
  | .str z, .int i, H, Q => (cs z).length ≤ sizeLine ∧ (match atI (cs z) i with
    | some c => Q (T [c]) H
    | none => False)
  | .ref p, .int i, H, Q => ∃ xs v, (SqL K H p xs ∨ SqT K H p xs) ∧ atI xs i = some v ∧ Q v H
  | _, _, _, _ => False
theorem Av : IxR X (gIx X.K) := AT.imp fun x y H Q h => by
  unfold gIx at h
  split at h
  · obtain ⟨hz, h⟩ := h
    split at h
    · rename_i c hc
      exact .inr (.inr ⟨_, _, c, rfl, rfl, by simpa [cs, Str.length] using hz, hc, h⟩)
    · exact h.elim
  · obtain ⟨xs, v, hs | hs, hv, q⟩ := h
    · exact .inl ⟨_, xs, _, v, rfl, rfl, hs, hv, q⟩
    · exact .inr (.inl ⟨_, xs, _, v, rfl, rfl, hs, hv, q⟩)
  · exact h.elim
def gR (xs : List V) (H H1 : Hp) (Q : VK) : V → Prop
  | .int i => (match atI xs i with
    | some (.ref q) => H q = none ∧ (match H1 q with
      | some o => nk o = true ∧ Q (.ref q) (upd H q o)
      | none => False)
    | some v => Q v H
    | none => False)
  | _ => False
def wV (ta : TA) (ti : TE) : TE := fun σ H Q => NoT H ∧ ta σ H fun xs H1 => Same H H1 ∧ xs.length ≤ sizeLine ∧ ∀ p, H1 p = none → ti σ (upd H1 p (.lst xs)) fun y H2 => H2 = upd H1 p (.lst xs) ∧ gR xs H H1 Q y
theorem xz {xs : List V} {H H1 : Hp} {Q : VK} {y : V} {p : Addr} {o : HO} (s : Same H H1) (hp : H1 p = none) (h : gR xs H H1 Q y) : ∃ i v G, y = .int i ∧ atI xs i = some v ∧ Gc H G (upd H1 p o) ∧ Q v G := by
  unfold gR at h
  have s2 : Same H (upd H1 p o) := s.trans (ai o hp)
  split at h
  · rename_i i
    split at h
    · rename_i q hq
      obtain ⟨hn, h⟩ := h
      split at h
      · rename_i o' ho'
        exact ⟨i, _, _, rfl, hq, Gc.one s2 hn (by rw [al (aj ho' hp)]; exact ho') h.1, h.2⟩
      · exact h.elim
    · rename_i v _ hv
      exact ⟨i, v, H, rfl, hv, Gc.none s2, h⟩
    · exact h.elim
  · exact h.elim
theorem ig {es : List Expr} {t : TA} (ha : PA X es t) (hb : PE X b tb) (hs : uC b) : PE X (.Subscript (.List es pos') b pos) (wV t tb) := by
  intro pins s σ H Q I h
  obtain ⟨n, h⟩ := h
  refine Subscript_ (wpAny_List_spliced (thn (ha pos' pins s σ H _ I h) fun us s1 ⟨xs, H1, I1, r, sm, z, q⟩ => ⟨by rw [← r.length]; exact z, ?_⟩))
  have hf : H1 s1.heap.objs.size = none := I1.hok.fresh (Nat.le_refl _)
  refine thn (hb pins _ σ (upd H1 s1.heap.objs.size (.lst xs)) _ (I1.laid (t' := s1.toks) (fun b u e => Heap.get?_push_of_some _ e) (Nat.le_refl _) ⟨z, us, 0, r, Heap.get?_push_size _ rfl⟩) (q _ hf)) fun u s3 ⟨y, H3, I3, ry, e, k⟩ => ?_
  subst e
  obtain ⟨i, v, G, rfl, hv, g, hq⟩ := xz (o := .lst xs) sm hf k
  exact thn (uL (.List es pos') b pins s3 σ _ (.ref _) (.int i) _ u (fun v' H' => v' = v ∧ H' = upd H1 s1.heap.objs.size (.lst xs)) I3 rfl ry ⟨_, xs, i, v, rfl, rfl, SqL.of ae, hv, rfl, rfl⟩ (hs _ _))
    fun u' s4 ⟨v', H4, I4, r4, e1, e2⟩ => ⟨v, G, I.gc n (e2 ▸ I4) g, e1 ▸ r4, hq⟩
end
def sp0 (f : Hp → VK → XK → Prop) : Sp := fun vs H Q E => match vs with
  | [] => f H Q E
  | _ => False
def sp1 (f : V → Hp → VK → XK → Prop) : Sp := fun vs H Q E => match vs with
  | [x] => f x H Q E
  | _ => False
def sp2 (f : V → V → Hp → VK → XK → Prop) : Sp := fun vs H Q E => match vs with
  | [x, y] => f x y H Q E
  | _ => False
def sp3 (f : V → V → V → Hp → VK → XK → Prop) : Sp := fun vs H Q E => match vs with
  | [x, y, z] => f x y z H Q E
  | _ => False
def sp4 (f : V → V → V → V → Hp → VK → XK → Prop) : Sp := fun vs H Q E => match vs with
  | [x, y, z, u] => f x y z u H Q E
  | _ => False
section
variable {vs : List V} {H : Hp} {Q : VK} {E : XK}
theorem sp1.inv {f} (h : sp1 f vs H Q E) : ∃ x, vs = [x] ∧ f x H Q E := by
  unfold sp1 at h; split at h
  · exact ⟨_, rfl, h⟩
  · exact h.elim
theorem sp2.inv {f} (h : sp2 f vs H Q E) : ∃ x y, vs = [x, y] ∧ f x y H Q E := by
  unfold sp2 at h; split at h
  · exact ⟨_, _, rfl, h⟩
  · exact h.elim
theorem sp3.inv {f} (h : sp3 f vs H Q E) : ∃ x y z, vs = [x, y, z] ∧ f x y z H Q E := by
  unfold sp3 at h; split at h
  · exact ⟨_, _, _, rfl, h⟩
  · exact h.elim
theorem sp4.inv {f} (h : sp4 f vs H Q E) : ∃ x y z u, vs = [x, y, z, u] ∧ f x y z u H Q E := by
  unfold sp4 at h; split at h
  · exact ⟨_, _, _, _, rfl, h⟩
  · exact h.elim
theorem sp1.len {f} (h : sp1 f vs H Q E) : vs.length = 1 := by obtain ⟨_, rfl, _⟩ := sp1.inv h; rfl
theorem sp2.len {f} (h : sp2 f vs H Q E) : vs.length = 2 := by obtain ⟨_, _, rfl, _⟩ := sp2.inv h; rfl
theorem sp3.len {f} (h : sp3 f vs H Q E) : vs.length = 3 := by obtain ⟨_, _, _, rfl, _⟩ := sp3.inv h; rfl
theorem sp4.len {f} (h : sp4 f vs H Q E) : vs.length = 4 := by obtain ⟨_, _, _, _, rfl, _⟩ := sp4.inv h; rfl
end
def asI (x : V) (f : Int → Prop) : Prop := match x with
  | .int i => f i
  | _ => False
def asT (x : V) (f : List Nat → Prop) : Prop := match x with
  | .str y => f (cs y)
  | _ => False
def asB (x : V) (f : Bool → Prop) : Prop := match x with
  | .bl y => f y
  | _ => False
def asR (x : V) (f : Addr → Prop) : Prop := match x with
  | .ref y => f y
  | _ => False
theorem asI.inv {x : V} {f : Int → Prop} (h : asI x f) : ∃ i, x = .int i ∧ f i := by
  unfold asI at h; split at h
  · exact ⟨_, rfl, h⟩
  · exact h.elim
theorem asT.inv {x : V} {f : List Nat → Prop} (h : asT x f) : ∃ l, x = T l ∧ f l := by
  unfold asT at h; split at h
  · exact ⟨_, rfl, h⟩
  · exact h.elim
theorem asR.inv {x : V} {f : Addr → Prop} (h : asR x f) : ∃ i, x = .ref i ∧ f i := by
  unfold asR at h; split at h
  · exact ⟨_, rfl, h⟩
  · exact h.elim
def asK (H : Hp) (x : V) (f : String → Prop) : Prop := match b4 H x with
  | some t => f t
  | none => False
theorem asK.inv {H : Hp} {x : V} {f : String → Prop} (h : asK H x f) : ∃ t, b4 H x = some t ∧ g9 t ∧ f t := by
  unfold asK at h; split at h
  · rename_i t ht
    exact ⟨t, ht, (qV (K := default) ht).2, h⟩
  · exact h.elim
theorem asK.of {H : Hp} {x : V} {f : String → Prop} {t : String} (e : b4 H x = some t) (h : f t) : asK H x f := by unfold asK; rw [e]; exact h
theorem tK {ns : List Int} {k : Int} (h0 : 0 ≤ k) (h1 : k < ns.length) : atI (ns.map V.int) k = some (.int (ns.getD k.toNat 0)) := by
  obtain ⟨j, rfl⟩ : ∃ j : Nat, k = j := ⟨k.toNat, by omega⟩
  refine bz ?_
  have l : j < ns.length := by omega
  simp [List.getD, l]
theorem kL {ns : List Int} {H H1 : Hp} {Q : VK} {i : Int} (h0 : 0 ≤ i) (h1 : i < ns.length) (q : Q (.int (ns.getD i.toNat 0)) H) : gR (ns.map V.int) H H1 Q (.int i) := by
  unfold gR
  simp only [tK h0 h1]
  exact q
section
variable {X : Cx} (K : PySem.W.Frag)
theorem b7 (h : X.K = K := by rfl) : CallR X (.builtin "isinstance") (ui K) := h ▸ AC
theorem cy (h : X.K = K := by rfl) : CallR X (.builtin "len") (yM K) := h ▸ Ak
theorem az (h : X.K = K := by rfl) : IxR X (gIx K) := h ▸ Av
theorem qN {tg l : Expr} {tl : TE} (hl : PE X l tl) (h : X.K = K := by rfl) : PI X tg l (vo K tl) := h ▸ Bj hl
theorem d9 {tg l : Expr} {tl : TE} (hl : PE X l tl) (h : X.K = K := by rfl) : PI X tg l (oH K tl) := h ▸ yX hl
end
theorem xY {H : Hp} {e : Addr} {C : Value} : b4 (upd H e (jQ C e)) (.ref e) = none := by simp [b4, ae, jQ]
theorem Cc {H : Hp} {b : Bool} : b4 H (.bl b) = some "bool" := rfl
theorem Bx {H : Hp} {i : Int} : b4 H (.int i) = some "int" := rfl
theorem A8 {H : Hp} {s : Str} : b4 H (.str s) = some "str" := rfl
theorem AL {H : Hp} : b4 H .non = some "NoneType" := rfl
theorem A0 : qU "int" = true := by decide
theorem lV : b5 "NoneType" "int" = false := by decide
theorem rd : b5 "bool" "int" = true := by decide
theorem tm : b5 "int" "int" = true := by decide
theorem tF : b5 "str" "int" = false := by decide
theorem rN : b5 "list" "int" = false := by decide
theorem qd : b5 "tuple" "int" = false := by decide
theorem rp : b5 "dict" "int" = false := by decide
theorem zJ : qU "bool" = true := by decide
theorem kQ : b5 "NoneType" "bool" = false := by decide
theorem px : b5 "bool" "bool" = true := by decide
theorem q_ : b5 "int" "bool" = false := by decide
theorem si : b5 "str" "bool" = false := by decide
theorem qG : b5 "list" "bool" = false := by decide
theorem nK : b5 "tuple" "bool" = false := by decide
theorem pk : b5 "dict" "bool" = false := by decide
theorem Au : qU "str" = true := by decide
theorem lS : b5 "NoneType" "str" = false := by decide
theorem rZ : b5 "bool" "str" = false := by decide
theorem uj : b5 "int" "str" = false := by decide
theorem tV : b5 "str" "str" = true := by decide
theorem rX : b5 "list" "str" = false := by decide
theorem qf : b5 "tuple" "str" = false := by decide
theorem rA : b5 "dict" "str" = false := by decide
theorem zt : qU "list" = true := by decide
theorem kC : b5 "NoneType" "list" = false := by decide
theorem qF : b5 "bool" "list" = false := by decide
theorem rO : b5 "int" "list" = false := by decide
theorem sM : b5 "str" "list" = false := by decide
theorem qz : b5 "list" "list" = true := by decide
theorem n_ : b5 "tuple" "list" = false := by decide
theorem pY : b5 "dict" "list" = false := by decide
theorem yo : qU "tuple" = true := by decide
theorem jX : b5 "NoneType" "tuple" = false := by decide
theorem nX : b5 "bool" "tuple" = false := by decide
theorem qi : b5 "int" "tuple" = false := by decide
theorem qe : b5 "str" "tuple" = false := by decide
theorem oa : b5 "list" "tuple" = false := by decide
theorem mH : b5 "tuple" "tuple" = true := by decide
theorem ow : b5 "dict" "tuple" = false := by decide
theorem yT : qU "dict" = true := by decide
theorem kz : b5 "NoneType" "dict" = false := by decide
theorem pB : b5 "bool" "dict" = false := by decide
theorem sk : b5 "int" "dict" = false := by decide
theorem sy : b5 "str" "dict" = false := by decide
theorem qo : b5 "list" "dict" = false := by decide
theorem ox : b5 "tuple" "dict" = false := by decide
theorem pr : b5 "dict" "dict" = true := by decide
theorem Co {H : Hp} {b : Bool} {f : String → Prop} : asK H (.bl b) f = f "bool" := rfl
theorem AU {H : Hp} {i : Int} {f : String → Prop} : asK H (.int i) f = f "int" := rfl
theorem Al {H : Hp} {i : Str} {f : String → Prop} : asK H (.str i) f = f "str" := rfl
theorem AD {H : Hp} {f : String → Prop} : asK H .non f = f "NoneType" := rfl
def ya : Expr → Bool
  | .Starred _ _ => false
  | _ => true
theorem vk {e : Expr} {es : List Expr} {env : Env} (h : ya e = true) : starEach (e :: es) env = (false, eval e env) :: starEach es env := by
  cases e <;> first | rfl | cases h
structure FA (X : Cx) (es : List Expr) (t : TA) : Prop where
  pa : PA X es t
theorem af {X : Cx} : FA X [] qS := ⟨Bf⟩
theorem aa {X : Cx} {e : Expr} {es : List Expr} {te : TE} {t : TA} (ha : PE X e te) (hr : FA X es t) (h : ya e = true := by rfl) : FA X (e :: es) (j7 te t) := ⟨zo ha hr.pa (vk h)⟩
theorem yG {H : Hp} {P : Hp → Prop} : (∃ G, Gc H G H ∧ P G) ↔ P H := by
  constructor
  · rintro ⟨G, g, p⟩
    have e : G = H := by
      funext b
      cases h : H b with
      | none => exact g.b.free h
      | some o => exact g.a b o h
    rw [← e]; exact p
  · exact fun p => ⟨H, Gc.refl, p⟩
theorem CF {CX : CXT} {P : Program} {w : World} {K : PySem.W.Frag} {mg : Str → Option Value} {base : Heap} {N : List Str} {qual : Str} {scope : Scope} {f : Addr} {cd : Value} {A : Around} {outer : List Env} {s : Shared} {H : Hp} {E : XK} :
    (cG CX P w K mg base N qual scope f cd A outer s H E).K = K := rfl
def isI : V → Bool
  | .int _ => true
  | _ => false
def isS : V → Bool
  | .str _ => true
  | _ => false
theorem sI {H : Hp} {x : V} {t : String} (h : b4 H x = some t) : (t == "int") = isI x := by
  unfold b4 at h
  split at h
  case h_5 => split at h <;> cases h <;> simp [isI]
  all_goals (cases h <;> simp [isI])
theorem vF {H : Hp} : Same H H ↔ True := ⟨fun _ => trivial, fun _ => Same.refl H⟩
theorem ao {H : Hp} {p : Addr} {o : HO} (hN : NoT H) (d : mY o = true) : NoT (upd H p o) := hN.upd d
theorem yR {i : Int} : isI (.int i) = true := rfl
theorem Ar {i : Bool} : isI (.bl i) = false := rfl
theorem zh {i : Str} : isI (.str i) = false := rfl
theorem yJ {i : Addr} : isI (.ref i) = false := rfl
theorem yF  : isI (.non) = false := rfl
theorem zl {i : Int} : isS (.int i) = false := rfl
theorem BB {i : Bool} : isS (.bl i) = false := rfl
theorem zG {i : Str} : isS (.str i) = true := rfl
theorem y_ {i : Addr} : isS (.ref i) = false := rfl
theorem zp  : isS (.non) = false := rfl
theorem xO {H : Hp} (h : v3 H) : NoT H := fun b o e => by
  rcases h b with z | ⟨ob, xs, z⟩
  · rw [e] at z; cases z
  · rw [e] at z; cases z; rfl
def gcE (H : Hp) (E : XK) : XK := fun C d H' => ∃ G, Gc H G H' ∧ E C d G
theorem Fun.okG {P : Program} {w : World} {K : PySem.W.Frag} {mg : Str → Option Value} {base : Heap} {x qual : Str} {st : Stmt} {f : Addr} {fd : FuncData} {N ps : List Str} {k : Nat} {sp : Sp} (F : Fun K x qual st f fd) (S : aB N ps (ag st))
    (len : ∀ vs H Q E, sp vs H Q E → vs.length = ps.length)
    (hbody : ∀ (cdv : Value) (A : Around) (outer : List Env) (s : Shared) (H : Hp) (vs : List V) (Q : VK) (E : XK), Room k (A.deeper (envOfC qual (ag st) s.heap.objs.size f cdv)) → sp vs H Q E →
      NoT H ∧ ∃ t, PSs (cG (XE P w) P w K mg base N qual (ag st) f cdv A outer s H (gcE H E)) (av st) t ∧ t { nx := fun _ H' => ∃ G, Gc H G H' ∧ Q .non G, rt := fun v H' => ∃ G, Gc H G H' ∧ Q v G } (gK N vs) H) : bD P w K mg base (XE P w) (k + 1) f fd ps sp := by
  have F' : bD P w K mg base (XE P w) (k + 1) f fd ps (fun vs H Q' E' => ∃ Q E, sp vs H Q E ∧ Q' = (fun v H' => ∃ G, Gc H G H' ∧ Q v G) ∧ E' = gcE H E) := by
    refine F.okX S (fun vs H Q' E' ⟨Q, E, h, _⟩ => len vs H Q E h) (fun cdv A outer s H vs Q' E' hr h => ?_)
    obtain ⟨Q, E, h, rfl, rfl⟩ := h
    exact (hbody cdv A outer s H vs Q E hr h).2
  refine ⟨len, fun A outer s H args us vs Q E hr e0 hb r hsp => ?_⟩
  have nT : NoT H := by
    obtain ⟨oc, od, kV, doc, pm, an, cdv, ct, osl, rfl, lk, hcd⟩ := F.ex
    exact (hbody cdv A outer s H vs Q E (hr.deeper _) hsp).1
  refine codeAny_mono (F'.run A outer s H args us vs _ _ hr e0 hb r ⟨Q, E, hsp, rfl, rfl⟩) fun res s' h => ?_
  cases res with
  | error e =>
    obtain ⟨ea, C, rs, H', h1, h2, h3, un, hok, hrs, fly, G, g, q⟩ := h
    exact ⟨ea, C, rs, G, h1, h2, h3, un.gc g, HOk.gc nT e0.hok hok g, fun b hb => ⟨(hrs b hb).1, g.b.free (hrs b hb).2⟩, fly, q⟩
  | ok fl =>
    cases fl with
    | ret u =>
      obtain ⟨v, H', h1, h2, un, hok, rv, G, g, q⟩ := h
      exact ⟨v, G, h1, h2, un.gc g, HOk.gc nT e0.hok hok g, rv, q⟩
    | next => exact h
    | brk => exact h
    | cont => exact h
section
variable {K : PySem.W.Frag} {C D : Addr} {b : Bool} {cl : ClassData}
theorem oX (o : PySem.W.clsIn K D = some cl) (t : PySem.W.typeIn K (.ref D) = some (.type "type")) (m : PySem.W.mroIn K C (.ref D) = some b) : PySem.W.kitCls K (.ref C) (.ref D) = some b := by
  unfold PySem.W.kitCls
  simp only [o, t, Option.isSome_some, beq_self_eq_true, Bool.and_self, if_true]
  exact m
theorem vz (o : PySem.W.clsIn K D = some cl) (t : PySem.W.typeIn K (.ref D) = some (.type "type")) (s : PySem.W.mroIn K D (.type "BaseException") = some true) (m : PySem.W.mroIn K C (.ref D) = some b) : PySem.W.exmOne K (.ref C) (.ref D) = some b := by
  unfold PySem.W.exmOne
  have e : PySem.W.subIn K (.ref D) (.type "BaseException") = some true := s
  rw [e, if_pos (by rfl)]
  exact oX o t m
theorem eG (o : PySem.W.clsIn K D = some cl) (t : PySem.W.typeIn K (.ref D) = some (.type "type")) (s : PySem.W.mroIn K C (.ref C) = some true) (m : PySem.W.mroIn K C (.ref D) = some b) : PySem.W.kitOne K (.ref C) (.ref D) = some b := by
  unfold PySem.W.kitOne
  by_cases e : ((Value.ref C == Value.ref D) = true)
  · rw [if_pos e]
    have e' : C = D := Value.ref.inj (beq_iff_eq.mp e)
    subst e'
    rw [s] at m; exact m
  · rw [if_neg e]; exact oX o t m
theorem t6 : PySem.W.kitMeta "ValueError" = true := by kernel_rfl
theorem vU (m : PySem.W.mroIn K C (.type "ValueError") = some b) : PySem.W.kitOne K (.ref C) (.type "ValueError") = some b := by
  unfold PySem.W.kitOne
  rw [if_neg (by intro z; cases (beq_iff_eq.mp z))]
  unfold PySem.W.kitCls
  simp only [t6, if_true]
  exact m
end
theorem w_ {l : PySem.W.OpenLaw} {n k : Nat} {q : Program} {loose : List Str} {XP : (Str → Option Value) → Heap → Prop} {YP : World → Heap → Prop} {d : DefRec} {K : Params → PySem.W.Frag} {sp : PySem.W.Frag → Sp} {x : Str}
    (hn : l.most = some n) (hn2 : n ≤ sizeLine) (hdf : d.params.defaults = []) (hr : Room k callerA)
    (hY : ∀ (w : World) (h : Heap), YP w h → (K w.params).In h)
    (F : ∀ (w : World) (mg : Str → Option Value) (fa : Addr) (h : Heap), (K w.params).In h → h.Ns mainGlobals mg → mg d.name = some (.ref fa) →
      ∃ fd : FuncData, (∀ (s : Shared) (u : Value), BindsTo s fd ⟨[u], []⟩ [(x, u)]) ∧
        ∀ base : Heap, (K w.params).In base → base.Ns mainGlobals mg → bD l.prog w (K w.params) mg base (XE l.prog w) k fa fd [x] (sp (K w.params)))
    (hsp : ∀ (K : PySem.W.Frag) (H : Hp) (a : Addr) (ns : List Int), ns.length ≤ n → v3 H → SqL K H a (ns.map V.int) → sp K [.ref a] H (fun v _ => v = .bl true) fun _ _ _ => False) :
    PySem.W.WalkO q loose XP YP l.row.toRowW d [] (fun f vs => PySem.call f vs) :=
  zd (K := K) (CX := fun w => XE l.prog w) (sp := fun w => sp (K w.params)) hn hn2 hdf hr hY F (fun w H a ns h1 h2 h3 => hsp (K w.params) H a ns h1 h2 h3) fun w H s e s' ⟨_, _, _, _, _, _, _, _, _, _, _, z⟩ => z
end L2
set_option Elab.async false
set_option linter.all false
set_option maxRecDepth 100000
namespace L2
open PySem PySem.Spec PyProof.Rows
section
variable {prog : Program} {w : World} {A : Around} {R : Result → Shared → Prop} {s : Shared}
theorem pP {elt target iter : Expr} {ifs : List Expr} {scope : Scope} {pos : Pos} {it acc : Value} {env : Env} (I : Nat → Shared → Prop)
    (turn : ∀ n s, I n s → wpAny (model prog w) A (pyNext it) (fun r s₁ => match r with
      | none => R (.ok .next) s₁
      | some v => wpAny (model prog w) A (letOwnedTupleGo target it v) (fun _ s₁' => wpAny (model prog w) A (assign target env v) (fun _ s₂ =>
          wpAny (model prog w) A (forIn ifs true fun c r => if r = true then do let ok ← isTrue c env (eval c env); pure (ForInStep.yield ok) else pure (ForInStep.yield r)) (fun ok s₃ =>
            if ok = true then wpAny (model prog w) A (eval elt env) (fun x s₄ =>
              wpAny (model prog w) A (call (.builtin "list.append") [acc, x]) (fun _ s₅ => ∃ m, m < n ∧ I m s₅) (notedBy (model prog w) A env fun e s' => R (.error e) s') s₄) (notedBy (model prog w) A env fun e s' => R (.error e) s') s₃
            else ∃ m, m < n ∧ I m s₃) (notedBy (model prog w) A env fun e s' => R (.error e) s') s₂) (notedBy (model prog w) A env fun e s' => R (.error e) s') s₁') (notedBy (model prog w) A env fun e s' => R (.error e) s') s₁) (notedBy (model prog w) A env fun e s' => R (.error e) s') s)
    (n : Nat) (h : I n s) :
    codeAny (model prog w) A (.compLoop (.ListComp elt [⟨target, iter, ifs, 0⟩] scope pos) 0 it acc env) R s := by
  refine codeAny_loop rfl I (fun n s hI => ?_) n h
  show wpAny _ A ((compTurn (.ListComp elt [⟨target, iter, ifs, 0⟩] scope pos) 0 it acc env).onRaise (fun x => do noteFrame x env; theTreesLotGoes x)) _ _ s
  refine wpAny_noted ?_
  rw [compTurn_list]
  refine wpAny_bind (wpAny_standAt (wpAny_bind (wpAny_mono (turn n s hI) (fun r s₁ h₁ => ?_) fun _ _ h' => h')))
  cases r with
  | none => exact wpAny_pure h₁
  | some v =>
    refine wpAny_bind (wpAny_mono h₁ (fun _ s₁' h₁' => ?_) fun _ _ h' => h')
    refine wpAny_bind (wpAny_mono h₁' (fun _ s₂ h₂ => wpAny_bind (wpAny_mono h₂ (fun ok s₃ h₃ => ?_) fun _ _ h' => h')) fun _ _ h' => h')
    cases ok with
    | false => exact wpAny_pure ⟨rfl, h₃⟩
    | true =>
      exact wpAny_bind (wpAny_bind (wpAny_mono h₃ (fun x s₄ h₄ => wpAny_bind (wpAny_mono h₄ (fun _ s₅ h₅ => wpAny_pure (wpAny_pure ⟨rfl, h₅⟩)) fun _ _ h' => h')) fun _ _ h' => h'))
end
def cF (X : Cx) (N : List Str) (scope : Scope) (cl : List (Str × Addr)) (C : Addr) (s₂ : Shared) (H₂ : Hp) (ex : List Addr) (pn : List (Addr × Obj)) : Cx :=
  { X with N := N, s₀ := s₂, H₀ := H₂, env := compEnvC scope cl C X.env, outer := X.stack, stack := X.stack, ex := ex, fn := fun _ => false, pn := pn, xe := fun _ _ => False }
structure CompScope (X : Cx) (scope : Scope) (cl : List (Str × Addr)) (x : Str) (fr : List Str) : Prop where
  clos : closureFor scope X.env = pure cl
  nocell : ∀ y ∈ scope.names, y.2 ≠ .cell
  kind : scope.kind = .function
  names : ∀ y ∈ scope.names, y.2 = .local → scope.names.lookup y.1 = some .local
  own : scope.names.lookup x = some .local
  keys : ∀ y ∈ cl, y.1 ∈ fr
  cells : fr.map (fun y => cl.lookup y) = fr.map (fun y => X.env.cells.lookup y)
  kinds : ∀ y ∈ fr, X.env.kindOf y = some .cell ∨ X.env.kindOf y = some .free
  kin : ∀ y ∈ fr, (relabel scope X.env).names.lookup y = some .cell ∨ (relabel scope X.env).names.lookup y = some .free
  only : ∀ y, ((relabel scope X.env).names.lookup y = some .cell ∨ (relabel scope X.env).names.lookup y = some .free) → y ∈ fr
theorem tN {α : Type} {l : List (Str × α)} {y : Str} {c : α} (h : l.lookup y = some c) : (y, c) ∈ l := PySem.mem_of_lookup h
theorem CompScope.cell {X : Cx} {scope : Scope} {cl : List (Str × Addr)} {x : Str} {fr : List Str} (S : CompScope X scope cl x fr) {y : Str} (h : y ∈ fr) : cl.lookup y = X.env.cells.lookup y := by
  have e := S.cells
  obtain ⟨i, hi, rfl⟩ := List.getElem_of_mem h
  have := congrArg (fun l => l[i]?) e
  simpa [hi] using this
theorem CompScope.sub {X : Cx} {scope : Scope} {cl : List (Str × Addr)} {x : Str} {fr : List Str} (S : CompScope X scope cl x fr) {y : Str} {c : Addr} (h : cl.lookup y = some c) : X.env.cells.lookup y = some c := by
  rw [← S.cell (S.keys _ (tN h))]; exact h
def PTs (X : Cx) (ifs : List Expr) (t : TT) : Prop :=
  ∀ (pins : List (Addr × Obj)) (s : Shared) (σ : St) (H : Hp) (Q : Bool → Hp → Prop), Inv X pins σ H s → t σ H Q →
    wpAny (model X.prog X.w) X.A (forIn ifs true fun c r => if r = true then do let ok ← isTrue c X.env (eval c X.env); pure (ForInStep.yield ok) else pure (ForInStep.yield r)) (TP X pins σ Q) X.xe s
theorem eZ {X : Cx} : PTs X [] (fun _ H Q => Q true H) := fun pins s σ H Q I h => wpAny_tests_nil ⟨H, I, h⟩
theorem uW {X : Cx} {c : Expr} {t : TT} (h : PT X c t) : PTs X [c] t := fun pins s σ H Q I hw => wpAny_tests_one (h pins s σ H Q I hw)
end L2
set_option Elab.async false
set_option maxHeartbeats 4000000
namespace MT
def isD (c : Nat) : Bool := decide (48 ≤ c) && decide (c ≤ 57)
def vl (t : List Nat) : Nat := t.foldl (fun n c => 10 * n + (c - 48)) 0
def nin (t : List Nat) : Nat := t.foldl (fun n c => if isD c then 10 * n + (c - 48) else n) 0
def fg (t : List Nat) : List Nat := if t.take 1 = [45] then t.drop 1 else t
def good (t : List Nat) : Prop := fg t ≠ [] ∧ (∀ c ∈ fg t, isD c = true) ∧ ((fg t).head? = some 48 → t = [48])
end MT
set_option Elab.async false
set_option linter.all false
set_option maxRecDepth 100000
namespace L2
open PySem PySem.Spec PyProof.Rows Builtin Builtin.Str
section
variable {X : Cx} {e a b c : Expr} {pos : Pos}
def gIn (neg : Bool) : R2
  | .str i, .str j, H, Q => (match cs i with
    | [c] => Q (.bl (neg ^^ decide (c ∈ cs j))) H
    | _ => False)
  | _, _, _, _ => False
theorem tM {i : Str} {c : Nat} (h : cs i = [c]) : i = ⟨#[c]⟩ := by
  obtain ⟨⟨l⟩⟩ := i
  have h' : l = [c] := h
  rw [h']
theorem Cg : OpR X (compareOp .In) (gIn false) := vC.imp fun x y H Q h => by
  unfold gIn at h; split at h
  · split at h
    · rename_i i j c hc
      refine ⟨_, _, rfl, rfl, ?_⟩
      rw [tM hc, PySem.StrLaws.found_one]
      simpa [cs] using h
    · exact h.elim
  · exact h.elim
def iE (l : List Nat) (lo hi : Option Int) : List Nat := (l.drop (HT.sIx l.length 0 lo)).take (HT.sIx l.length l.length hi - HT.sIx l.length 0 lo)
def gSl : V → Option Int → Option Int → Hp → VK → Prop
  | .str y, lo, hi, H, Q => (cs y).length ≤ sizeLine ∧ Q (T (iE (cs y) lo hi)) H
  | _, _, _, _, _ => False
theorem AQ (lo hi : Option Int) (n : Nat) : Builtin.Str.strSliceIndices lo hi 1 n = (List.range (HT.sIx n n hi - HT.sIx n 0 lo)).map (HT.sIx n 0 lo + ·) := by
  obtain ⟨h1, h2, h3⟩ := jW lo hi n
  have e : Builtin.Str.strSliceIndices lo hi 1 n = sliceRange (sliceBounds lo hi none n).1 (sliceBounds lo hi none n).2.1 1 := by
    unfold Builtin.Str.strSliceIndices sliceBounds
    cases lo <;> cases hi <;> rfl
  rw [e, h1, h2, sliceRange_one]
theorem vA (y : Str) (lo hi : Option Int) : V.str (Txt.slice y lo hi) = T (iE (cs y) lo hi) := by
  have hl : y.length = (cs y).length := by simp [cs, Str.length]
  have ha : HT.sIx y.length 0 lo ≤ y.length := HT.sIx_le _ _ (Nat.zero_le _) lo
  have hb : HT.sIx y.length y.length hi ≤ y.length := HT.sIx_le _ _ (Nat.le_refl _) hi
  unfold Txt.slice
  rw [AQ]
  split
  · rename_i h
    simp only [beq_self_eq_true, Bool.true_and, List.length_map, List.length_range, beq_iff_eq] at h
    have e1 : HT.sIx y.length 0 lo = 0 := by omega
    have e2 : HT.sIx y.length y.length hi = y.length := by omega
    rw [CJ]
    congr 3
    unfold iE
    rw [← hl, e1, e2, List.drop_zero, Nat.sub_zero, hl, List.take_length]
  · rw [pick_run]
    show V.str ⟨_⟩ = V.str ⟨⟨_⟩⟩
    unfold iE cs
    rw [Array.length_toList]
    rfl
theorem m7 : SlR X gSl := by
  intro pins s σ H x v vl vu lo hi sl Q I rx hs pl pu h
  unfold gSl at h
  split at h
  · rename_i y
    obtain ⟨hz, q⟩ := h
    obtain ⟨t, rfl⟩ := rx
    have hz' : y.length ≤ sizeLine := by simpa [cs, Str.length] using hz
    refine ⟨"str", _, F.slot_str_getitem.lookup, typeIs_str _ _ _, ?_⟩
    have fin : ∀ t' k, EP X pins σ Q (.str (Txt.slice y lo hi) t') { s with toks := k } := fun t' k => ⟨.str (Txt.slice y lo hi), H, I.tok _, ⟨_, rfl⟩, by rw [vA]; exact q⟩
    cases pl with
    | none => cases pu with
      | none => exact wpAny_getItem_str_slice (l := none) (u := none) (st := none) hs rfl (post_val_or_str ⟨Nat.le_trans (Txt.slice_le y _ _) hz', fin⟩)
      | int j u => exact wpAny_getItem_str_slice (l := none) (u := some (j, u)) (st := none) hs rfl (post_val_or_str ⟨Nat.le_trans (Txt.slice_le y _ _) hz', fin⟩)
    | int i u' => cases pu with
      | none => exact wpAny_getItem_str_slice (l := some (i, u')) (u := none) (st := none) hs rfl (post_val_or_str ⟨Nat.le_trans (Txt.slice_le y _ _) hz', fin⟩)
      | int j u => exact wpAny_getItem_str_slice (l := some (i, u')) (u := some (j, u)) (st := none) hs rfl (post_val_or_str ⟨Nat.le_trans (Txt.slice_le y _ _) hz', fin⟩)
  · exact h.elim
def Cz : V → List V → Hp → VK → Prop
  | .str x, [.str y], H, Q => (match cs y with
    | [c] => c ∈ cs x ∧ ∀ i : Nat, (cs x)[i]? = some c → Q (.int i) H
    | _ => False)
  | _, _, _, _ => False
def wZ : List V → Hp → VK → Prop
  | [.int i], H, Q => Q (.int i) H
  | [.bl k], H, Q => Q (.int (if k then 1 else 0)) H
  | [.str x], H, Q => ((cs x) ≠ [] ∧ (∀ c ∈ cs x, MT.isD c = true) ∧ (cs x).length ≤ 640) ∧ Q (.int (MT.vl (cs x))) H
  | _, _, _ => False
theorem nV : CallR X (.type "int") (fun xs H Q => ∃ x, xs = [.str x] ∧ ((cs x) ≠ [] ∧ (∀ c ∈ cs x, MT.isD c = true) ∧ (cs x).length ≤ 640) ∧ Q (.int (MT.vl (cs x))) H) := by
  intro pins s σ H xs us Q I r h
  obtain ⟨x, rfl, ⟨h0, hd, hl⟩, q⟩ := h
  obtain ⟨u, rfl, t, rfl⟩ := eh r
  have hl' : x.length ≤ 640 := by simpa [cs, Str.length] using hl
  have e : PySem.NumText.digitsVal x.cps.toList = MT.vl (cs x) := by
    unfold PySem.NumText.digitsVal MT.vl cs
    congr 1
    funext a c; omega
  have hn : intText? x = some ((MT.vl (cs x) : Nat) : Int) := by
    rw [PySem.intText_digits (fun c hc => by have := hd c hc; simpa [MT.isD] using this) h0 (by omega), e]
  exact PySem.W.KIN.call_text hn hl' ⟨.int _, H, I.tok _, ⟨_, rfl⟩, q⟩
theorem zu : CallR X (.type "int") wZ := (vW.or nV).imp fun xs H Q h => by
  unfold wZ at h; split at h
  · exact .inl (.inl ⟨_, rfl, h⟩)
  · exact .inl (.inr ⟨_, rfl, h⟩)
  · exact .inr ⟨_, rfl, h.1, h.2⟩
  · exact h.elim
end
end L2
set_option Elab.async false
set_option linter.all false
set_option maxRecDepth 100000
namespace L2
open PySem PySem.Spec PyProof.Rows
def Its (x : Str) : It := ⟨fun i _ => i < x.cps.size, fun i H v H' => H' = H ∧ ∃ c, x.cps[i]? = some c ∧ v = .str ⟨#[c]⟩, fun i _ => x.cps.size ≤ i⟩
theorem yr {P : Program} {w : World} {K : PySem.W.Frag} {tg : Expr} (x : Str) (t : Tok) (it : Addr) : rL P w K tg (Its x) [it] it (fun i h => h.IsStrIter it "str_ascii_iterator" x t i) where
  mem := by simp
  obj := fun i h st b hb => by
    have e : b = it := by simpa using hb
    subst e
    obtain ⟨o, e, c, d⟩ := st
    exact ⟨o, e, fun v z => by rw [d] at z; cases z⟩
  keep := fun i h h' st k => by
    obtain ⟨o, e, c, d⟩ := st
    exact ⟨o, k it (by simp) o e, c, d⟩
  item := by
    intro X hP hw hK hc i pins s σ H E I hf st hg
    subst hP hw hK
    have hg' : i < x.cps.size := hg
    obtain ⟨f0, f1, f2, f3, f4, f5⟩ := hf it (by simp)
    have hx : x.cps[i]? = some x.cps[i] := by simp [hg']
    refine wpAny_pyNext_ascii_item st hx fun h' st' sb => ?_
    have I1 : Inv X pins σ H { s with heap := h', toks := s.toks + 1 } := I.turned (fun b o hb e => (sb.2 b hb).trans e) f0 f1 f3 f4 f5
    obtain ⟨o, e, c, d⟩ := id st'
    exact ⟨_, rfl, nA (s := { s with heap := h', toks := s.toks + 1 }) e c d (by decide) ⟨.str ⟨#[x.cps[i]]⟩, H, I1, ⟨_, rfl⟩, ⟨rfl, _, hx, rfl⟩, st', fun b hb => (hf b hb).1⟩⟩
  done := by
    intro X hP hw hK hc i pins s σ H E I hf st hg
    subst hP hw hK
    have hg' : x.cps.size ≤ i := hg
    obtain ⟨f0, f1, f2, f3, f4, f5⟩ := hf it (by simp)
    have hx : x.cps[i]? = none := by simp [hg']
    exact wpAny_pyNext_ascii_end (I.ok.hd hc) st hx fun h' eb => ⟨rfl, I.turned (fun b o hb e => eb b o hb e) f0 f1 f3 f4 f5⟩
  self := fun _ _ _ _ _ st h => wpAny_pyIter_striter_ascii st h
def BN (tl : TE) : TI := fun σ H R => tl σ H fun v H1 => match v with
  | .str x => (∀ c ∈ cs x, c < 128) ∧ R (Its x) H1
  | _ => False
theorem A5 {X : Cx} {tg l : Expr} {tl : TE} (hl : PE X l tl) : PI X tg l (BN tl) := by
  intro pins s σ H R I h
  refine thn (hl pins s σ H _ I h) fun v s1 ⟨y, H1, I1, r1, q⟩ => ?_
  dsimp only at q
  split at q
  · rename_i x
    obtain ⟨ha, q⟩ := q
    obtain ⟨t, rfl⟩ := r1
    have ha' : x.cps.all (· < 128) = true := by
      rw [Array.all_eq_true]
      intro i hi
      exact decide_eq_true (ha _ (by unfold cs; rw [Array.mem_toList_iff]; exact Array.getElem_mem hi))
    refine wpAny_pyIter_ascii ha' ?_
    refine ⟨s1.heap.objs.size, [s1.heap.objs.size], _, _, H1, rfl, I1.kept (t' := s1.toks) fun b o e => Heap.get?_push_of_some _ e, yr x t _, ⟨_, Heap.get?_push_size _ rfl, rfl, rfl⟩, fun b hb => ?_, q⟩
    have e : b = s1.heap.objs.size := by simpa using hb
    subst e
    exact I1.fpOk (Nat.le_refl _) (I1.hok.fresh (Nat.le_refl _))
  · exact q.elim
section
variable {X : Cx}
theorem rF : ∀ {bs : List Bool} {us : List Value}, Vals (bs.map V.bl) us → LSm.BoolsAre us bs
  | [], _, .nil => .nil
  | b :: r, _, .cons e t => by
    cases (show _ = Value.bool b from e)
    exact .cons b (rF t)
def Am (K : PySem.W.Frag) : List V → Hp → VK → Prop
  | [.ref p], H, Q => ∃ bs : List Bool, SqL K H p (bs.map V.bl) ∧ Q (.bl (bs.all id)) H
  | _, _, _ => False
theorem l_ (K : PySem.W.Frag) (hc : X.calm = true) (hK : X.K = K := by rfl) : CallR X (.builtin "all") (Am K) := by
  subst hK
  intro pins s σ H xs us Q I r h
  unfold Am at h
  split at h
  · rename_i p
    obtain ⟨bs, hq, q⟩ := h
    obtain ⟨u, rfl, rx⟩ := eh r
    cases (show u = Value.ref p from rx)
    obtain ⟨its, rv, pl, hz⟩ := I.list hq
    have hne : p ≠ s.heap.objs.size := Nat.ne_of_lt (by obtain ⟨_, e, _⟩ := pl.isList; exact Heap.lt_size e)
    have hb : LSm.BoolsAre its bs := rF rv
    refine call_all_walk (wpAny_pyIter_list pl.isList ?_)
    refine ⟨s.heap.objs.size, [s.heap.objs.size, p], [s.heap.objs.size], its.toArray.size, _, _, fun i => (bs[i]?).getD true, rfl, Walks.list (A := X.A.in1) (I.ok.hd hc) _ p hne its.toArray,
      ⟨⟨_, Heap.get?_push_size _ rfl, rfl, rfl⟩, pl.isList.push _⟩, fun i v s' Q' E' hP hQ => ?_, fun h' tk hk => ?_⟩
    · obtain ⟨b, e, rfl⟩ := hb.get i v (by simpa using hP)
      simp only [e, Option.getD_some] at hQ
      exact wpAny_truthy_bool hQ
    · have e : ((List.range its.toArray.size).all fun i => (bs[i]?).getD true) = bs.all id := by
        rw [List.size_toArray, hb.length]; exact LSm.range_all bs
      rw [e]
      exact ⟨.bl (bs.all id), H, I.kept (LSm.kept_iter hk), rfl, q⟩
  · exact h.elim
end
end L2
set_option Elab.async false
set_option linter.all false
set_option maxRecDepth 100000
namespace L2
open PySem PySem.Spec PyProof.Rows Builtin Builtin.Str
def bZ (sep : List Nat) : List (List Nat) → List Nat
  | [] => []
  | [x] => x
  | x :: y :: r => x ++ sep ++ bZ sep (y :: r)
theorem o5 : ∀ ls : List (List Nat), bZ [] ls = ls.flatten
  | [] => rfl
  | [x] => by simp [bZ]
  | x :: y :: r => by rw [bZ, o5 (y :: r)]; simp
def S (l : List Nat) : Str := ⟨⟨l⟩⟩
theorem o_ (sep : List Nat) : ∀ (r : List (List Nat)) (x : List Nat), ((r.map S).foldl (fun acc p => acc ++ (S sep).cps ++ p.cps) (S x).cps) = (S (bZ sep (x :: r))).cps
  | [], x => rfl
  | y :: r, x => by
    rw [List.map_cons, List.foldl_cons]
    have e : (S x).cps ++ (S sep).cps ++ (S y).cps = (S (x ++ sep ++ y)).cps := by
      apply Array.ext'; simp [S]
    rw [e, o_ sep r]
    congr 1
    cases r with
    | nil => rfl
    | cons z r' => unfold bZ; simp [bZ, List.append_assoc]
theorem uZ (sep : List Nat) (ls : List (List Nat)) : Txt.join (S sep) (ls.map S) = S (bZ sep ls) := by
  unfold Txt.join glued
  cases ls with
  | nil => rfl
  | cons x r =>
    show (⟨((x :: r).map S).drop 1 |>.foldl _ _⟩ : Str) = _
    rw [List.map_cons, List.drop_one, List.tail_cons, List.headD_cons, o_]
theorem uN : ∀ {ls : List (List Nat)} {us : List Value}, Vals (ls.map T) us → StrsAre us (ls.map S)
  | [], _, .nil => .nil
  | l :: r, _, .cons e t => by
    obtain ⟨k, rfl⟩ := e
    exact .cons _ k (uN t)
def wE (sep : List Nat) (ls : List (List Nat)) : Prop := (ls.map List.length).sum + ls.length * sep.length ≤ 16777216
theorem zD {sep : List Nat} {ls : List (List Nat)} (h : wE sep ls) : (((ls.map S).map (·.length)).sum + (ls.map S).length * (S sep).length ≤ 16777216) := by
  have e : (ls.map S).map (·.length) = ls.map List.length := by rw [List.map_map]; apply List.map_congr_left; intro l _; rfl
  rw [e, List.length_map]; exact h
section
variable {X : Cx}
def xA (K : PySem.W.Frag) : V → List V → Hp → VK → Prop
  | .str x, [.ref p], H, Q => ∃ ls : List (List Nat), SqL K H p (ls.map T) ∧ wE (cs x) ls ∧ Q (T (bZ (cs x) ls)) H
  | _, _, _, _ => False
theorem rq (K : PySem.W.Frag) (hK : X.K = K := by rfl) : MtR X "str.join" (xA K) := by
  subst hK
  intro pins s σ H x xs v us Q I rx rs h
  unfold xA at h
  split at h
  · rename_i y p
    obtain ⟨ls, hq, hf, q⟩ := h
    obtain ⟨t, rfl⟩ := rx
    obtain ⟨u, rfl, ru⟩ := eh rs
    cases (show u = Value.ref p from ru)
    obtain ⟨its, rv, pl, hz⟩ := I.list hq
    refine join_list pl.isList (uN rv) (zD hf) fun t' k => ?_
    exact ⟨.str (Txt.join y (ls.map S)), H, I.tok _, ⟨_, rfl⟩, by rw [show y = S (cs y) from rfl, uZ]; exact q⟩
  · exact h.elim
end
end L2
namespace PySem
open Sem (wp)
open Builtin Builtin.Str Builtin.Int
set_option maxRecDepth 100000
namespace F
end F
section
variable {prog : Program} {w : World} {A : Around} {E : Value → Shared → Prop} {s : Shared} {I : Addr} {fp wr : List Addr} {G : Array GenState → Array GenState → Prop} {n : Nat} {P : Nat → Value → Prop} {St : Nat → Shared → Prop}
end
end PySem
set_option Elab.async false
set_option linter.all false
set_option maxRecDepth 100000
namespace L2
open PySem PySem.Spec PyProof.Rows Builtin Builtin.Str
section
variable {X : Cx} {o e : Expr} {to te : TE} {apos cpos p pos : Pos}
end
end L2
set_option Elab.async false
set_option linter.all false
set_option maxRecDepth 100000
namespace L2
open PySem PySem.Spec PyProof.Rows Builtin Builtin.Str
section
variable {X : Cx}
structure yY (J : It) (vs : List V) : Prop where
  go : ∀ i H, i < vs.length → J.go i H
  yld : ∀ i H x H', i < vs.length → J.yld i H x H' → H' = H ∧ vs[i]? = some x
  stop : ∀ H, J.stop vs.length H
theorem xG (l : List Nat) : yY (Its ⟨⟨l⟩⟩) (l.map fun c => T [c]) := by
  refine ⟨fun i H h => by simpa [Its] using h, fun i H x H' _ y => ?_, fun H => by simp [Its]⟩
  obtain ⟨e, c, hc, rfl⟩ := y
  refine ⟨e, ?_⟩
  have : l[i]? = some c := by simpa using hc
  rw [List.getElem?_map, this]; rfl
theorem xJ (n : Nat) : yY (Itr 0 n) ((List.range n).map fun k => .int (k : Nat)) := by
  refine ⟨fun i H h => by simpa [Itr] using h, fun i H x H' hi y => ?_, fun H => by simp [Itr]⟩
  obtain ⟨e, rfl⟩ := y
  refine ⟨e, ?_⟩
  have hi' : i < n := by simpa using hi
  simp [hi']
theorem kG {J : It} {vs : List V} (E : yY J vs) {σ' : St} {H1 : Hp} {Q : VK} {tt : TT} {te : TE} (C : Hp → Prop) (p : V → Bool) (f : V → V) (hlen : vs.length ≤ sizeLine)
    (hp : ∀ x ∈ vs, ∀ H (R : Bool → Hp → Prop), C H → R (p x) H → tt (some x :: σ') H R) (hf : ∀ x ∈ vs, p x = true → ∀ H (R : VK), C H → R (f x) H → te (some x :: σ') H R)
    (D : Addr) (hD : H1 D = none) (hC : ∀ ys, C (upd H1 D (.lst ys))) (q : Q (.ref D) (upd H1 D (.lst ((vs.filter p).map f)))) :
    ∃ W : Nat → Nat → List V → Hp → Prop, (∃ m, W 0 m [] (upd H1 D (.lst []))) ∧
      ∀ i m ys H2, W i m ys H2 → H2 D = some (.lst ys) ∧ ((J.stop i H2 ∧ Q (.ref D) H2) ∨ (J.go i H2 ∧ ∀ x H3, J.yld i H2 x H3 →
        tt (some x :: σ') H3 fun b H4 => if b = true then te (some x :: σ') H4 fun y H5 => H5 D = some (.lst ys) ∧ ys.length < sizeLine ∧ ∃ m', m' < m ∧ W (i + 1) m' (ys ++ [y]) (upd H5 D (.lst (ys ++ [y])))
          else ∃ m', m' < m ∧ W (i + 1) m' ys H4)) := by
  refine ⟨fun i m ys H2 => m = vs.length - i ∧ i ≤ vs.length ∧ ys = ((vs.take i).filter p).map f ∧ H2 = upd H1 D (.lst ys), ⟨vs.length, by simp, Nat.zero_le _, by simp, rfl⟩, ?_⟩
  rintro i m ys H2 ⟨rfl, hi, hys, rfl⟩
  refine ⟨ae, ?_⟩
  by_cases hlt : i < vs.length
  · refine .inr ⟨E.go i _ hlt, fun x H3 y => ?_⟩
    obtain ⟨e, hx⟩ := E.yld i _ x H3 hlt y
    subst e
    have hm : x ∈ vs := List.mem_of_getElem? hx
    have htk : vs.take (i + 1) = vs.take i ++ [x] := by
      rw [List.take_succ, hx]; rfl
    have hyl : ys.length ≤ i := by
      rw [hys, List.length_map]
      exact Nat.le_trans (List.length_filter_le _ _) (by simp [List.length_take]; omega)
    refine hp x hm _ _ (hC _) ?_
    cases hb : p x with
    | true =>
      rw [if_pos rfl]
      refine hf x hm hb _ _ (hC _) ⟨ae, by omega, vs.length - (i + 1), by omega, rfl, hlt, ?_, ?_⟩
      · rw [htk, List.filter_append, List.map_append, ← hys]
        simp [hb]
      · funext z
        by_cases hz : z = D
        · subst hz; rw [ae, ae]
        · rw [al hz, al hz, al hz]
    | false =>
      rw [if_neg Bool.false_ne_true]
      refine ⟨vs.length - (i + 1), by omega, rfl, hlt, ?_, rfl⟩
      rw [htk, List.filter_append, List.map_append, ← hys]
      simp [hb]
  · have e : i = vs.length := by omega
    subst e
    refine .inl ⟨E.stop _, ?_⟩
    rw [List.take_length] at hys
    rw [hys]; exact q
end
theorem SqL.same {K : PySem.W.Frag} {H H' : Hp} {a : Addr} {xs : List V} (s : Same H H') (h : SqL K H a xs) : SqL K H' a xs := by
  rcases h with (h | ⟨o, h⟩) | h
  · exact .inl (.inl (s _ _ h))
  · exact .inl (.inr ⟨o, s _ _ h⟩)
  · exact .inr h
theorem qW (g : Nat → Nat) : ∀ l : List Nat, (l.map fun k => [g k]).flatten = l.map g
  | [] => rfl
  | a :: r => by rw [List.map_cons, List.flatten_cons, qW g r]; rfl
theorem vd (g : Nat → Nat) : ∀ l : List Nat, ((l.map fun k => [g k]).map List.length).sum = l.length
  | [] => rfl
  | a :: r => by have := vd g r; simp only [List.map_cons, List.sum_cons, List.length_cons, List.length_nil, this]; omega
theorem yq {K : PySem.W.Frag} {H1 : Hp} {D : Addr} {Q : VK} (l : List Nat) (g : Nat → Nat) (hs : H1 D = some (.lst (l.map fun k => T [g k]))) (hl : l.length ≤ 1000) (q : Q (T (l.map g)) H1) : xA K (T []) [.ref D] H1 Q := by
  refine ⟨l.map fun k => [g k], SqL.of (by rw [hs, List.map_map]; rfl), ?_, ?_⟩
  · unfold wE; rw [vd]; simp [cs]; omega
  · show Q (T (bZ [] _)) H1
    rw [o5, qW]; exact q
theorem xD {P : Program} {w : World} {X : Cx} : d6 (XE P w) X (fun _ _ _ _ => False) := fun _ _ _ _ _ _ _ ⟨_, _, _, _, _, _, _, _, _, _, _, q⟩ => q.elim
def wu : Option NameKind → Bool
  | some .cell => true
  | some .free => true
  | _ => false
theorem sH {k : Option NameKind} : wu k = true ↔ (k = some .cell ∨ k = some .free) := by
  cases k with
  | none => simp [wu]
  | some k => cases k <;> simp [wu]
theorem d8 {cl : List (Str × Addr)} {fr : List Str} (h : (cl.map (·.1)).all (fun y => fr.elem y) = true) : ∀ y ∈ cl, y.1 ∈ fr := fun y hy => by
  have := List.all_eq_true.mp h y.1 (List.mem_map_of_mem hy)
  simpa using this
theorem bo {fr : List Str} {k : Str → Option NameKind} (h : fr.all (fun y => wu (k y)) = true) : ∀ y ∈ fr, k y = some .cell ∨ k y = some .free := fun y hy => sH.mp (List.all_eq_true.mp h y hy)
theorem dX {names : List (Str × NameKind)} {fr : List Str} (h : names.all (fun p => !wu (some p.2) || fr.elem p.1) = true) : ∀ y, (names.lookup y = some .cell ∨ names.lookup y = some .free) → y ∈ fr := fun y hy => by
  have hy' := sH.mpr hy
  cases e : names.lookup y with
  | none => rw [e] at hy'; cases hy'
  | some k =>
    rw [e] at hy'
    have := List.all_eq_true.mp h (y, k) (PySem.mem_of_lookup e)
    simpa [hy'] using this
end L2
set_option Elab.async false
set_option linter.all false
set_option maxRecDepth 100000
namespace L2
open PySem PySem.Spec PyProof.Rows Builtin Builtin.Str
section
variable {X : Cx} {pos : Pos}
theorem AG {pins : List (Addr × Obj)} {σ : St} {H : Hp} {s : Shared} (I : Inv X pins σ H s) : sysModules < s.heap.objs.size :=
  Nat.lt_trans (by decide) (show mainGlobals < s.heap.objs.size from (I.mod.glob.keeps I.bk).lt)
def zP : TE := fun _ H Q => ∀ p, H p = none → Q (.ref p) (upd H p (.dK []))
theorem uI : PE X (.Dict [] [] pos) zP := by
  intro pins s σ H Q I h
  have new : ObjOk X.prog X.w (upd H s.heap.objs.size (.dK [])) (s.heap.push { cls := .type "dict", data := .dict #[] }) s.heap.objs.size (.dK []) :=
    ⟨Nat.zero_le _, beq_eq_false_iff_ne.mpr (Ne.symm (Nat.ne_of_lt (AG I))), [], .nil, Heap.DictOf.new s.heap⟩
  exact wpAny_Dict_empty ⟨.ref s.heap.objs.size, _, I.laid (t' := s.toks) (fun _ _ q => Heap.get?_push_of_some _ q) (Nat.le_refl _) new, rfl, h _ (I.hok.fresh (Nat.le_refl _))⟩
end
end L2
set_option Elab.async false
set_option linter.all false
set_option maxRecDepth 100000
namespace L2
open PySem PySem.Spec PyProof.Rows Builtin Builtin.Str
section
variable {X : Cx}
structure ww (C : Hp → Prop) (J : It) (vs : List V) : Prop where
  go : ∀ i H, C H → i < vs.length → J.go i H
  yld : ∀ i H x H', C H → i < vs.length → J.yld i H x H' → H' = H ∧ vs[i]? = some x
  stop : ∀ H, C H → J.stop vs.length H
theorem nF {J : It} {vs : List V} {σ' : St} {H1 : Hp} {Q : VK} {tt : TT} {te : TE} (C : Hp → Prop) (E : ww C J vs) (p : V → Bool) (f : V → V) (hlen : vs.length ≤ sizeLine)
    (hp : ∀ x ∈ vs, ∀ H (R : Bool → Hp → Prop), C H → R (p x) H → tt (some x :: σ') H R) (hf : ∀ x ∈ vs, p x = true → ∀ H (R : VK), C H → R (f x) H → te (some x :: σ') H R)
    (D : Addr) (hD : H1 D = none) (hC : ∀ ys, C (upd H1 D (.lst ys))) (q : Q (.ref D) (upd H1 D (.lst ((vs.filter p).map f)))) :
    ∃ W : Nat → Nat → List V → Hp → Prop, (∃ m, W 0 m [] (upd H1 D (.lst []))) ∧
      ∀ i m ys H2, W i m ys H2 → H2 D = some (.lst ys) ∧ ((J.stop i H2 ∧ Q (.ref D) H2) ∨ (J.go i H2 ∧ ∀ x H3, J.yld i H2 x H3 →
        tt (some x :: σ') H3 fun b H4 => if b = true then te (some x :: σ') H4 fun y H5 => H5 D = some (.lst ys) ∧ ys.length < sizeLine ∧ ∃ m', m' < m ∧ W (i + 1) m' (ys ++ [y]) (upd H5 D (.lst (ys ++ [y])))
          else ∃ m', m' < m ∧ W (i + 1) m' ys H4)) := by
  refine ⟨fun i m ys H2 => m = vs.length - i ∧ i ≤ vs.length ∧ ys = ((vs.take i).filter p).map f ∧ H2 = upd H1 D (.lst ys), ⟨vs.length, by simp, Nat.zero_le _, by simp, rfl⟩, ?_⟩
  rintro i m ys H2 ⟨rfl, hi, hys, rfl⟩
  refine ⟨ae, ?_⟩
  by_cases hlt : i < vs.length
  · refine .inr ⟨E.go i _ (hC _) hlt, fun x H3 y => ?_⟩
    obtain ⟨e, hx⟩ := E.yld i _ x H3 (hC _) hlt y
    subst e
    have hm : x ∈ vs := List.mem_of_getElem? hx
    have htk : vs.take (i + 1) = vs.take i ++ [x] := by
      rw [List.take_succ, hx]; rfl
    have hyl : ys.length ≤ i := by
      rw [hys, List.length_map]
      exact Nat.le_trans (List.length_filter_le _ _) (by simp [List.length_take]; omega)
    refine hp x hm _ _ (hC _) ?_
    cases hb : p x with
    | true =>
      rw [if_pos rfl]
      refine hf x hm hb _ _ (hC _) ⟨ae, by omega, vs.length - (i + 1), by omega, rfl, hlt, ?_, ?_⟩
      · rw [htk, List.filter_append, List.map_append, ← hys]
        simp [hb]
      · funext z
        by_cases hz : z = D
        · subst hz; rw [ae, ae]
        · rw [al hz, al hz, al hz]
    | false =>
      rw [if_neg Bool.false_ne_true]
      refine ⟨vs.length - (i + 1), by omega, rfl, hlt, ?_, rfl⟩
      rw [htk, List.filter_append, List.map_append, ← hys]
      simp [hb]
  · have e : i = vs.length := by omega
    subst e
    refine .inl ⟨E.stop _ (hC _), ?_⟩
    rw [List.take_length] at hys
    rw [hys]; exact q
theorem xZ {K : PySem.W.Frag} {C : Hp → Prop} {a : Addr} {vs : List V} (h : ∀ H, C H → SqT K H a vs) : ww C (Itt K a) vs :=
  ⟨fun i H c hi => ⟨vs, vs[i], h H c, List.getElem?_eq_getElem hi⟩, fun i H x H' c _ y => ⟨y.1, y.2 vs (h H c)⟩, fun H c => ⟨vs, h H c, Nat.le_refl _⟩⟩
theorem ye {K : PySem.W.Frag} {C : Hp → Prop} {a : Addr} {vs : List V} (h : ∀ H, C H → SqL K H a vs) : ww C (Itl K a) vs :=
  ⟨fun i H c hi => ⟨vs, vs[i], h H c, List.getElem?_eq_getElem hi⟩, fun i H x H' c _ y => ⟨y.1, y.2 vs (h H c)⟩, fun H c => ⟨vs, h H c, Nat.le_refl _⟩⟩
end
end L2
set_option Elab.async false
set_option linter.all false
set_option maxRecDepth 100000
namespace L2
open PySem PySem.Spec PyProof.Rows
section
variable {X : Cx} {K : PySem.W.Frag} {pos : Pos}
theorem gw (K : PySem.W.Frag) {es : List Expr} {k : Nat} {t : TGs} {n : Nat} (hc : X.calm = true) (h : PGs X es t) (hK : X.K = K := by rfl)
    (hn : (assignEach es X.env).length = n := by rfl) (hst : (assignEach es X.env).findIdx? (·.1) = none := by rfl) : PG X (.Tuple es k pos) (BF K n t) := by
  subst hK; exact Af hc h hn hst
end
section
variable {X : Cx} {T name id : String} {r : V → List V → Hp → VK → Prop} {o e : Expr} {es : List Expr} {to : TE} {t : TA} {apos cpos : Pos}
theorem cr (K : PySem.W.Frag) (pa : PlainAttrs T) (slot : Slot T name id) (hty : typeOf (.builtin id) = pure (.type "method_descriptor")) (hm : MtR X id r) (ho : PE X o to) (ha : PA X (e :: es) t) (hK : X.K = K := by rfl)
    (hbase : attributeBase o name X.env (eval o X.env) = eval o X.env := by rfl)
    (hfew : ((backTo cpos (starEach (e :: es) X.env)).all (fun x => !x.1) && (backToKw cpos (keywordEach [] X.env)).all (fun x => x.1.isSome)
      && decide ((e :: es).length + ([] : List Keyword).length + (if ([] : List Keyword).isEmpty then 0 else 1) < 30)) = true := by rfl)
    (hline : (apos.endLine == cpos.line) = true := by rfl) (hs : starEach (e :: es) X.env = (false, eval e X.env) :: starEach es X.env := by rfl) (hplain : (backTo cpos (starEach es X.env)).any (·.1) = false := by rfl) :
    PE X (.Call (.Attribute o name apos) (e :: es) [] cpos) (tBM K T r to t) := by
  subst hK; exact Cj pa slot hty hm ho ha hbase hfew hline hs hplain
end
section
variable {K : PySem.W.Frag} {tl : TE} {ks : List Nat} {σ : St} {H : Hp} {Q : VK} {tt : TT} {te : TE}
end
end L2
set_option Elab.async false
set_option linter.all false
set_option maxRecDepth 100000
namespace L2
end L2
set_option Elab.async false
set_option linter.all false
set_option maxRecDepth 100000
namespace L2
open PySem PySem.Spec PyProof.Rows Builtin Builtin.Str
def spN (c : Nat) : List Nat → List (List Nat)
  | [] => [[]]
  | a :: r => if a = c then [] :: spN c r else match spN c r with
    | h :: t => (a :: h) :: t
    | [] => [[a]]
theorem ji (c : Nat) : ∀ l, spN c l ≠ []
  | [] => by simp [spN]
  | a :: r => by
    unfold spN
    split
    · simp
    · split <;> simp
theorem ka (c : Nat) : ∀ l : List Nat, c ∉ l → spN c l = [l]
  | [], _ => rfl
  | a :: r, h => by
    have h1 : ¬ a = c := fun z => h (by rw [z]; simp)
    have h2 : c ∉ r := fun z => h (List.mem_cons_of_mem _ z)
    unfold spN
    rw [if_neg h1, ka c r h2]
theorem u_ (c : Nat) : ∀ (l r : List Nat), c ∉ l → spN c (l ++ c :: r) = l :: spN c r
  | [], r, _ => by simp [spN]
  | a :: l, r, h => by
    have h1 : ¬ a = c := fun z => h (by rw [z]; simp)
    have h2 : c ∉ l := fun z => h (List.mem_cons_of_mem _ z)
    rw [List.cons_append]
    show (if a = c then _ else _) = _
    rw [if_neg h1, u_ c l r h2]
theorem mM (c : Nat) : ∀ ps : List (List Nat), ps ≠ [] → (∀ p ∈ ps, c ∉ p) → spN c (bZ [c] ps) = ps
  | [], h, _ => absurd rfl h
  | [p], _, h => ka c p (h p (by simp))
  | p :: q :: r, _, h => by
    rw [bZ, List.append_assoc, List.singleton_append, u_ c p _ (h p (by simp)), mM c (q :: r) (by simp) fun x hx => h x (List.mem_cons_of_mem _ hx)]
theorem hU (c : Nat) : ∀ l : List Nat, bZ [c] (spN c l) = l
  | [] => rfl
  | a :: r => by
    have ih := hU c r
    unfold spN
    split
    · rename_i e
      cases es : spN c r with
      | nil => exact absurd es (ji c r)
      | cons h t => rw [es] at ih; rw [bZ, ih, e]; rfl
    · cases es : spN c r with
      | nil => exact absurd es (ji c r)
      | cons h t =>
        rw [es] at ih
        cases t with
        | nil => simp [bZ] at ih ⊢; exact ih
        | cons h2 t => rw [bZ] at ih ⊢; rw [← ih]; simp
theorem ir (c : Nat) : ∀ (l : List Nat), ∀ p ∈ spN c l, c ∉ p
  | [], p, hp => by simp [spN] at hp; rw [hp]; simp
  | a :: r, p, hp => by
    unfold spN at hp
    split at hp
    · rcases List.mem_cons.mp hp with h | h
      · rw [h]; simp
      · exact ir c r p h
    · rename_i hne
      split at hp
      · rename_i h t es
        rcases List.mem_cons.mp hp with e | e
        · rw [e]
          have := ir c r h (by rw [es]; simp)
          simp only [List.mem_cons, not_or]
          exact ⟨fun z => hne z.symm, this⟩
        · exact ir c r p (by rw [es]; exact List.mem_cons_of_mem _ e)
      · rename_i es; exact absurd es (ji c r)
theorem mj (c : Nat) : ∀ l : List Nat, (spN c l).length ≤ l.length + 1
  | [] => by simp [spN]
  | a :: r => by
    have ih := mj c r
    unfold spN
    split
    · simp; omega
    · split
      · rename_i es; rw [es] at ih; simp at ih ⊢; omega
      · simp
theorem kb (c : Nat) : ∀ l : List Nat, ∀ p ∈ spN c l, p.length ≤ l.length ∧ ∀ d ∈ p, d ∈ l
  | [], p, hp => by simp [spN] at hp; rw [hp]; simp
  | a :: r, p, hp => by
    unfold spN at hp
    split at hp
    · rcases List.mem_cons.mp hp with h | h
      · rw [h]; simp
      · obtain ⟨h1, h2⟩ := kb c r p h
        exact ⟨by rw [List.length_cons]; omega, fun d hd => List.mem_cons_of_mem _ (h2 d hd)⟩
    · split at hp
      · rename_i h t es
        rcases List.mem_cons.mp hp with e | e
        · obtain ⟨h1, h2⟩ := kb c r h (by rw [es]; simp)
          rw [e]
          refine ⟨by rw [List.length_cons, List.length_cons]; omega, fun d hd => ?_⟩
          rcases List.mem_cons.mp hd with z | z
          · rw [z]; simp
          · exact List.mem_cons_of_mem _ (h2 d z)
        · obtain ⟨h1, h2⟩ := kb c r p (by rw [es]; exact List.mem_cons_of_mem _ e)
          exact ⟨by rw [List.length_cons]; omega, fun d hd => List.mem_cons_of_mem _ (h2 d hd)⟩
      · rename_i es; exact absurd es (ji c r)
theorem xw (x y : Str) : Txt.split x y ≠ [] := by
  unfold Txt.split
  split
  · simp
  · split
    · simp
    · rw [StrLaws.partsBetween_eq]
      obtain ⟨p, r, e⟩ := StrLaws.partsFrom_ne x y.length 0 (occurrences x y 0 x.length (x.length + 1))
      rw [e]; simp
theorem qX (l : List Nat) (c : Nat) : (Txt.split ⟨⟨l⟩⟩ ⟨#[c]⟩).map (fun x => cs x) = spN c l := by
  have h1 := StrLaws.join_split ⟨⟨l⟩⟩ ⟨#[c]⟩
  have h2 := StrLaws.split_free ⟨⟨l⟩⟩ c
  have h0 := xw ⟨⟨l⟩⟩ ⟨#[c]⟩
  generalize Txt.split ⟨⟨l⟩⟩ ⟨#[c]⟩ = ps at h0 h1 h2
  have hj : bZ [c] (ps.map fun x => cs x) = l := by
    have e : ps = (ps.map fun x => cs x).map S := by rw [List.map_map]; conv => lhs; rw [← List.map_id ps]
                                                     apply List.map_congr_left; intro x _; rfl
    rw [e] at h1
    have h3 : Str.join (S [c]) ((ps.map fun x => cs x).map S) = S (bZ [c] (ps.map fun x => cs x)) := by
      have := uZ [c] (ps.map fun x => cs x)
      exact (StrLaws.glued_eq_join _ _).symm.trans this
    have h4 : S (bZ [c] (ps.map fun x => cs x)) = ⟨⟨l⟩⟩ := h3.symm.trans h1
    have h5 := congrArg cs h4
    exact h5
  have hne : (ps.map fun x => cs x) ≠ [] := by
    intro z
    exact h0 (List.map_eq_nil_iff.mp z)
  rw [← hj, mM c _ hne]
  intro p hp
  obtain ⟨x, hx, rfl⟩ := List.mem_map.mp hp
  exact h2 x hx
section
variable {X : Cx} {e a b c : Expr} {pos : Pos}
def AJ : V → List V → Hp → VK → Prop
  | .str x, [.str y], H, Q => (∃ c, cs y = [c] ∧ (cs x).length + 2 ≤ sizeLine ∧ ∀ p, H p = none → Q (.ref p) (upd H p (.lst ((spN c (cs x)).map T))))
  | _, _, _, _ => False
theorem pe : ∀ (l : List (Str × Tok)), Vals (l.map fun p => V.str p.1) (strValues l)
  | [] => .nil
  | p :: r => .cons ⟨p.2, rfl⟩ (pe r)
theorem mD : MtR X "str.split" AJ := by
  intro pins s σ H x xs v us Q I rx rs h
  unfold AJ at h
  split at h
  · rename_i x y
    obtain ⟨c, hc, hz, q⟩ := h
    obtain ⟨t, rfl⟩ := rx
    obtain ⟨u, rfl, t', rfl⟩ := eh rs
    have hy := tM hc
    subst hy
    obtain ⟨⟨l⟩⟩ := x
    have hx : (⟨⟨l⟩⟩ : Str).length + 2 ≤ sizeLine := hz
    have fin : ∀ (l' : List (Str × Tok)) (k : Nat), l'.map (·.1) = Txt.split ⟨⟨l⟩⟩ ⟨#[c]⟩ → EP X pins σ Q (.ref s.heap.objs.size) { s with toks := k, heap := s.heap.push { cls := .type "list", data := .seq (strValues l').toArray } } := fun l' k hl => by
      have e : (spN c l).map T = l'.map fun p => V.str p.1 := by
        rw [← qX, ← hl, List.map_map, List.map_map]
        apply List.map_congr_left
        intro p _; rfl
      have hlen : ((spN c l).map T).length ≤ sizeLine := by
        rw [List.length_map]
        have := mj c l
        have hz' : l.length + 2 ≤ sizeLine := hz
        omega
      have hv : Vals ((spN c l).map T) (strValues l') := by rw [e]; exact pe l'
      exact ⟨.ref s.heap.objs.size, _, I.lnew (t' := k) hv hlen, rfl, q _ I.fresh⟩
    have hn : (partsBetween ⟨⟨l⟩⟩ (occurrences ⟨⟨l⟩⟩ ⟨#[c]⟩ 0 (⟨⟨l⟩⟩ : Str).length ((⟨⟨l⟩⟩ : Str).length + 1)) (⟨#[c]⟩ : Str).length).length ≤ sizeLine := by
      have e1 := StrLaws.occ_length_le ⟨⟨l⟩⟩ ⟨#[c]⟩ 0 (⟨⟨l⟩⟩ : Str).length ((⟨⟨l⟩⟩ : Str).length + 1)
      rw [length_partsBetween]; omega
    have hy : ((⟨#[c]⟩ : Str).length == 0) = false := rfl
    cases h1 : (decide ((⟨⟨l⟩⟩ : Str).length < (⟨#[c]⟩ : Str).length) || decide (strKind ⟨⟨l⟩⟩ < strKind ⟨#[c]⟩))
    · cases hf : (occurrences ⟨⟨l⟩⟩ ⟨#[c]⟩ 0 (⟨⟨l⟩⟩ : Str).length ((⟨⟨l⟩⟩ : Str).length + 1)).isEmpty
      · refine call_meets F.slot_str_split (typeIs_str _ _ _) F.entry_str_split (F.args_str_split_2 _ _) (meets_str_split_sep ⟨⟨l⟩⟩ ⟨#[c]⟩ t t' h1 hy hf (by omega) hn) ?_
        show wants _ _ _ { s with toks := _, heap := s.heap.push { cls := .type "list", data := .seq (strsFrom s.toks (partsBetween ⟨⟨l⟩⟩ (occurrences ⟨⟨l⟩⟩ ⟨#[c]⟩ 0 (⟨⟨l⟩⟩ : Str).length ((⟨⟨l⟩⟩ : Str).length + 1)) (⟨#[c]⟩ : Str).length)).toArray } }
        rw [strsFrom_eq]
        exact fin (numbered s.toks _) _ ((numbered_texts _ _).trans ((if_neg (ne_true_of_eq_false h1)).trans (if_neg (ne_true_of_eq_false hf))).symm)
      · refine call_meets F.slot_str_split (typeIs_str _ _ _) F.entry_str_split (F.args_str_split_2 _ _) (meets_str_split_not_found ⟨⟨l⟩⟩ ⟨#[c]⟩ t t' h1 hy hf) ?_
        exact fin [(⟨⟨l⟩⟩, t)] s.toks ((if_neg (ne_true_of_eq_false h1)).trans (if_pos hf)).symm
    · refine call_meets F.slot_str_split (typeIs_str _ _ _) F.entry_str_split (F.args_str_split_2 _ _) (meets_str_split_cannot_occur ⟨⟨l⟩⟩ ⟨#[c]⟩ t t' h1) ?_
      exact fin [(⟨⟨l⟩⟩, t)] s.toks (if_pos h1).symm
  · exact h.elim
def oh : List Nat → List Nat → Bool
  | _, [] => true
  | [], _ :: _ => false
  | a :: l, b :: r => decide (a = b) && oh l r
theorem mZ : ∀ (x y : List Nat), oh x y = true ↔ x.take y.length = y
  | x, [] => by simp [oh]
  | [], b :: r => by simp [oh]
  | a :: l, b :: r => by simp [oh, mZ l r]
def Bu : V → List V → Hp → VK → Prop
  | .str x, [.str y], H, Q => Q (.bl (oh (cs x) (cs y))) H
  | _, _, _, _ => False
theorem yU (x y : Str) : (decide (0 + y.length ≤ x.length) && Builtin.Str.subAt x y 0) = oh (cs x) (cs y) := by
  obtain ⟨⟨l⟩⟩ := x
  obtain ⟨⟨r⟩⟩ := y
  rw [Bool.eq_iff_iff, mZ, Bool.and_eq_true]
  unfold Builtin.Str.subAt
  simp only [Str.length, cs, Nat.zero_add, decide_eq_true_eq, List.size_toArray, beq_iff_eq]
  have e : (⟨l⟩ : Array Nat).extract 0 r.length = ⟨r⟩ ↔ l.take r.length = r := by
    constructor
    · intro h
      have := congrArg Array.toList h
      simpa using this
    · intro h
      apply Array.toList_inj.mp
      simpa using h
  constructor
  · rintro ⟨_, h⟩; exact e.mp h
  · intro h
    refine ⟨?_, e.mpr h⟩
    have := congrArg List.length h
    rw [List.length_take] at this
    omega
theorem m_ : MtR X "str.startswith" Bu := by
  intro pins s σ H x xs v us Q I rx rs h
  unfold Bu at h
  split at h
  · rename_i x y
    obtain ⟨t, rfl⟩ := rx
    obtain ⟨u, rfl, t', rfl⟩ := eh rs
    refine call_meets F.slot_str_startswith (typeIs_str _ _ _) F.entry_str_startswith (F.args_str_startswith_2 _ _) (gives_str_startswith _ y t t').meets ?_
    exact ⟨.bl _, H, I, rfl, by rw [yU]; exact h⟩
  · exact h.elim
def AO : R2
  | .ref l, .ref b, H, Q => ∃ xs zs, H l = some (.lst xs) ∧ H b = some (.lst zs) ∧ xs.length + zs.length ≤ sizeLine ∧ ∀ p, H p = none → Q (.ref p) (upd H p (.lst (xs ++ zs)))
  | _, _, _, _ => False
theorem xM : OpR X (binaryOp .Add) AO := AM.imp fun x y H Q h => by
  unfold AO at h; split at h
  · obtain ⟨xs, zs, h1, h2, h3, q⟩ := h
    exact ⟨_, _, xs, zs, rfl, rfl, h1, h2, h3, q⟩
  · exact h.elim
theorem wP (K : PySem.W.Frag) (h : X.K = K := by rfl) : SlR X (Cp K) := h ▸ zv
def yi (K : PySem.W.Frag) : List V → Hp → VK → Prop
  | [.ref p], H, Q => ∃ ys, (SqL K H p ys ∨ SqT K H p ys) ∧ ∀ l, H l = none → Q (.ref l) (upd H l (.lst ys))
  | _, _, _ => False
theorem vc (K : PySem.W.Frag) (hK : X.K = K := by rfl) : CallR X (.type "list") (yi K) := by
  subst hK
  refine pZ.imp fun xs H Q h => ?_
  unfold yi at h; split at h
  · obtain ⟨ys, h1, q⟩ := h
    exact ⟨_, ys, rfl, h1, q⟩
  · exact h.elim
def tJ (K : PySem.W.Frag) : List V → Hp → VK → Prop
  | [.ref p], H, Q => ∃ ys, (SqL K H p ys ∧ ∀ l, H l = none → Q (.ref l) (upd H l (.tup ys))) ∨ (SqT K H p ys ∧ Q (.ref p) H)
  | _, _, _ => False
theorem yc (K : PySem.W.Frag) (hK : X.K = K := by rfl) : CallR X (.type "tuple") (tJ K) := by
  subst hK
  refine nQ.imp fun xs H Q h => ?_
  unfold tJ at h; split at h
  · obtain ⟨ys, h1⟩ := h
    exact ⟨_, ys, rfl, h1⟩
  · exact h.elim
inductive EqH (K : PySem.W.Frag) (H : Hp) : Nat → V → V → Bool → Prop
  | flat {n x y} : dP x = true → dP y = true → EqH K H n x y (eqV x y)
  | same {n p} : EqH K H n (.ref p) (.ref p) true
  | lst {n p q xs ys} {e : Nat → Bool} : p ≠ q → SqL K H p xs → SqL K H q ys → xs.length = ys.length → (∀ j x y, xs[j]? = some x → ys[j]? = some y → EqH K H n x y (e j)) → EqH K H (n + 1) (.ref p) (.ref q) ((List.range xs.length).all e)
  | len {n p q xs ys} : p ≠ q → SqL K H p xs → SqL K H q ys → xs.length ≠ ys.length → EqH K H (n + 1) (.ref p) (.ref q) false
  | tup {n p q xs ys} {e : Nat → Bool} : p ≠ q → SqT K H p xs → SqT K H q ys → (∀ j x y, xs[j]? = some x → ys[j]? = some y → EqH K H n x y (e j)) → EqH K H (n + 1) (.ref p) (.ref q) ((List.range (min xs.length ys.length)).all e && xs.length == ys.length)
  | lt {n p q xs ys} : SqL K H p xs → SqT K H q ys → EqH K H (n + 1) (.ref p) (.ref q) false
  | tl {n p q xs ys} : SqT K H p xs → SqL K H q ys → EqH K H (n + 1) (.ref p) (.ref q) false
theorem fO {P : Value → Value → Bool → Prop} {xs ys : List V} {its its' : List Value} {e : Nat → Bool} (r : Vals xs its) (r' : Vals ys its') (h : ∀ j x y u v, xs[j]? = some x → ys[j]? = some y → RelV x u → RelV y v → P u v (e j)) :
    ∀ j (h1 : j < its.toArray.size) (h2 : j < its'.toArray.size), P its.toArray[j] its'.toArray[j] (e j) := fun j g1 g2 => by
  have h1 : xs.length = its.length := r.length
  have h2 : ys.length = its'.length := r'.length
  have g1' : j < its.length := by simpa using g1
  have g2' : j < its'.length := by simpa using g2
  have l1 : j < xs.length := by omega
  have l2 : j < ys.length := by omega
  obtain ⟨w1, e1, r1⟩ := r.get (List.getElem?_eq_getElem l1)
  obtain ⟨w2, e2, r2⟩ := r'.get (List.getElem?_eq_getElem l2)
  have z1 : its.toArray[j] = w1 := by
    have : its[j]? = some its[j] := List.getElem?_eq_getElem g1'
    rw [this] at e1; simpa using Option.some.inj e1
  have z2 : its'.toArray[j] = w2 := by
    have : its'[j]? = some its'[j] := List.getElem?_eq_getElem g2'
    rw [this] at e2; simpa using Option.some.inj e2
  rw [z1, z2]
  exact h j _ _ _ _ (List.getElem?_eq_getElem l1) (List.getElem?_eq_getElem l2) r1 r2
theorem EqH.at {K : PySem.W.Frag} {H : Hp} {n : Nat} {x y : V} {b : Bool} (h : EqH K H n x y b) : ∀ {X : Cx} {pins : List (Addr × Obj)} {σ : St} {s : Shared} {A : Around} {u v : Value}, X.K = K → Inv X pins σ H s → A.units + n < cLine → RelV x u → RelV y v → SeqAt.EqAt A s u v b := by
  induction h with
  | flat fx fy =>
    intro X pins σ s A u v hK I hu rx ry
    exact sZ rx ry fx fy
  | same =>
    intro X pins σ s A u v hK I hu rx ry
    cases rx; cases ry
    exact SeqAt.EqAt.same _
  | @lst n p q xs ys e hpq hx hy hl _ ih =>
    intro X pins σ s A u v hK I hu rx ry
    cases rx; cases ry
    subst hK
    obtain ⟨its, r, pl, hz⟩ := I.list hx
    obtain ⟨its', r', pl', hz'⟩ := I.list hy
    have h1 : xs.length = its.length := r.length
    have h2 : ys.length = its'.length := r'.length
    have := SeqAt.RcAt.lists (A := A) (e := e) pl.isList pl'.isList (by simp; omega) (by omega) (fO r r' fun j x y u v g1 g2 r1 r2 => ih j x y g1 g2 rfl I (by show A.units + 1 + n < cLine; omega) r1 r2)
    rw [List.size_toArray, ← h1] at this
    exact .of_refs hpq this
  | @len n p q xs ys hpq hx hy hl =>
    intro X pins σ s A u v hK I hu rx ry
    cases rx; cases ry
    subst hK
    obtain ⟨its, r, pl, hz⟩ := I.list hx
    obtain ⟨its', r', pl', hz'⟩ := I.list hy
    have h1 : xs.length = its.length := r.length
    have h2 : ys.length = its'.length := r'.length
    exact .of_refs hpq (SeqAt.RcAt.lists_lengths pl.isList pl'.isList (by simp; omega) (by omega))
  | @tup n p q xs ys e hpq hx hy _ ih =>
    intro X pins σ s A u v hK I hu rx ry
    cases rx; cases ry
    subst hK
    obtain ⟨its, r, pl, hz⟩ := I.tuple hx
    obtain ⟨its', r', pl', hz'⟩ := I.tuple hy
    have h1 : xs.length = its.length := r.length
    have h2 : ys.length = its'.length := r'.length
    have := SeqAt.RcAt.tuples (A := A) (e := e) pl pl' (by omega) (fO r r' fun j x y u v g1 g2 r1 r2 => ih j x y g1 g2 rfl I (by show A.units + 1 + n < cLine; omega) r1 r2)
    rw [List.size_toArray, List.size_toArray, ← h1, ← h2] at this
    exact .of_refs hpq this
  | lt hx hy =>
    intro X pins σ s A u v hK I hu rx ry
    cases rx; cases ry
    subst hK
    obtain ⟨its, r, pl, hz⟩ := I.list hx
    obtain ⟨its', r', pl', hz'⟩ := I.tuple hy
    exact SeqAt.EqAt.list_tuple pl.isList pl' (by omega)
  | tl hx hy =>
    intro X pins σ s A u v hK I hu rx ry
    cases rx; cases ry
    subst hK
    obtain ⟨its, r, pl, hz⟩ := I.tuple hx
    obtain ⟨its', r', pl', hz'⟩ := I.list hy
    exact SeqAt.EqAt.tuple_list pl pl'.isList (by omega)
inductive EqR (K : PySem.W.Frag) (H : Hp) (p q : Addr) : Bool → Prop
  | lst {xs ys} {e : Nat → Bool} : SqL K H p xs → SqL K H q ys → xs.length = ys.length → (∀ j x y, xs[j]? = some x → ys[j]? = some y → EqH K H 50 x y (e j)) → EqR K H p q ((List.range xs.length).all e)
  | len {xs ys} : SqL K H p xs → SqL K H q ys → xs.length ≠ ys.length → EqR K H p q false
  | tup {xs ys} {e : Nat → Bool} : SqT K H p xs → SqT K H q ys → (∀ j x y, xs[j]? = some x → ys[j]? = some y → EqH K H 50 x y (e j)) → EqR K H p q ((List.range (min xs.length ys.length)).all e && xs.length == ys.length)
def xi (K : PySem.W.Frag) (neg : Bool) : R2
  | .ref p, .ref q, H, Q => ∃ b, EqR K H p q b ∧ Q (.bl (neg ^^ b)) H
  | _, _, _, _ => False
theorem A4 (K : PySem.W.Frag) (hu : X.A.units + 100 < cLine) (hK : X.K = K := by rfl) : OpR X (compareOp .Eq) (xi K false) := by
  subst hK
  intro pins s σ H x y v u Q I rx ry h
  unfold xi at h
  split at h
  · rename_i p q
    obtain ⟨b, hb, q⟩ := h
    cases rx; cases ry
    cases hb with
    | @lst xs ys e hx hy hl he =>
      obtain ⟨its, r, pl, hz⟩ := I.list hx
      obtain ⟨its', r', pl', hz'⟩ := I.list hy
      have h1 : xs.length = its.length := r.length
      have h2 : ys.length = its'.length := r'.length
      refine SeqAt.eq_listAt (e := e) pl.isList pl'.isList (by simp; omega) (by omega) (fO r r' fun j x y u v g1 g2 r1 r2 => (he j x y g1 g2).at rfl I (by show X.A.units + 1 + 50 < cLine; omega) r1 r2) ⟨.bl _, H, I, rfl, ?_⟩
      rw [List.size_toArray, ← h1]; simpa using q
    | @len xs ys hx hy hl =>
      obtain ⟨its, r, pl, hz⟩ := I.list hx
      obtain ⟨its', r', pl', hz'⟩ := I.list hy
      have h1 : xs.length = its.length := r.length
      have h2 : ys.length = its'.length := r'.length
      exact SeqAt.eq_list_lengthsAt pl.isList pl'.isList (by simp; omega) (by omega) ⟨.bl false, H, I, rfl, by simpa using q⟩
    | @tup xs ys e hx hy he =>
      obtain ⟨its, r, pl, hz⟩ := I.tuple hx
      obtain ⟨its', r', pl', hz'⟩ := I.tuple hy
      have h1 : xs.length = its.length := r.length
      have h2 : ys.length = its'.length := r'.length
      refine SeqAt.eq_tupleAt (e := e) pl pl' (by omega) (fO r r' fun j x y u v g1 g2 r1 r2 => (he j x y g1 g2).at rfl I (by show X.A.units + 1 + 50 < cLine; omega) r1 r2) ⟨.bl _, H, I, rfl, ?_⟩
      rw [List.size_toArray, List.size_toArray, ← h1, ← h2]; simpa using q
  · exact h.elim
theorem Bo (K : PySem.W.Frag) (hu : X.A.units + 100 < cLine) (hK : X.K = K := by rfl) : OpR X (compareOp .NotEq) (xi K true) := by
  subst hK
  intro pins s σ H x y v u Q I rx ry h
  unfold xi at h
  split at h
  · rename_i p q
    obtain ⟨b, hb, q⟩ := h
    cases rx; cases ry
    cases hb with
    | @lst xs ys e hx hy hl he =>
      obtain ⟨its, r, pl, hz⟩ := I.list hx
      obtain ⟨its', r', pl', hz'⟩ := I.list hy
      have h1 : xs.length = its.length := r.length
      have h2 : ys.length = its'.length := r'.length
      refine SeqAt.RcNeAt.lists (e := e) pl.isList pl'.isList (by simp; omega) (by omega) (fO r r' fun j x y u v g1 g2 r1 r2 => (he j x y g1 g2).at rfl I (by show X.A.units + 1 + 50 < cLine; omega) r1 r2) X.prog X.w X.xe _ ⟨.bl _, H, I, rfl, ?_⟩
      rw [List.size_toArray, ← h1]; simpa using q
    | @len xs ys hx hy hl =>
      obtain ⟨its, r, pl, hz⟩ := I.list hx
      obtain ⟨its', r', pl', hz'⟩ := I.list hy
      have h1 : xs.length = its.length := r.length
      have h2 : ys.length = its'.length := r'.length
      exact SeqAt.RcNeAt.lists_lengths pl.isList pl'.isList (by simp; omega) (by omega) X.prog X.w X.xe _ ⟨.bl true, H, I, rfl, by simpa using q⟩
    | @tup xs ys e hx hy he =>
      obtain ⟨its, r, pl, hz⟩ := I.tuple hx
      obtain ⟨its', r', pl', hz'⟩ := I.tuple hy
      have h1 : xs.length = its.length := r.length
      have h2 : ys.length = its'.length := r'.length
      refine SeqAt.RcNeAt.tuples (e := e) pl pl' (by omega) (fO r r' fun j x y u v g1 g2 r1 r2 => (he j x y g1 g2).at rfl I (by show X.A.units + 1 + 50 < cLine; omega) r1 r2) X.prog X.w X.xe _ ⟨.bl _, H, I, rfl, ?_⟩
      rw [List.size_toArray, List.size_toArray, ← h1, ← h2]; simpa using q
  · exact h.elim
end
end L2
set_option Elab.async false
set_option linter.all false
set_option maxRecDepth 100000
namespace PySem
open Sem (wp)
open Builtin
end PySem
namespace L2
open PySem PySem.Spec PyProof.Rows Builtin Builtin.Str
section
variable {X : Cx} {e a b c : Expr} {pos : Pos}
def lx (K : PySem.W.Frag) (neg : Bool) : R2 := fun x y H Q => match eqS x y with
  | some k => Q (.bl (neg ^^ k)) H
  | none => xi K neg x y H Q
theorem cY (K : PySem.W.Frag) (hu : X.A.units + 100 < cLine) (hK : X.K = K := by rfl) : OpR X (compareOp .Eq) (lx K false) := ((Ah (by omega)).or (A4 K hu hK)).imp fun x y H Q h => by
  unfold lx at h
  split at h
  · rename_i k hk
    obtain ⟨h1, h2⟩ := sB hk
    exact .inl (.inl ⟨h1, by rw [h2]; simpa using h⟩)
  · exact .inr h
theorem mP (K : PySem.W.Frag) (hu : X.A.units + 100 < cLine) (hK : X.K = K := by rfl) : OpR X (compareOp .NotEq) (lx K true) := ((Bt (by omega)).or (Bo K hu hK)).imp fun x y H Q h => by
  unfold lx at h
  split at h
  · rename_i k hk
    obtain ⟨h1, h2⟩ := sB hk
    exact .inl (.inl ⟨h1, by rw [h2]; simpa using h⟩)
  · exact .inr h
variable {K : PySem.W.Frag} {neg : Bool} {H : Hp} {Q : VK}
theorem uS {i j : Int} : lx K neg (.int i) (.int j) H Q = Q (.bl (neg ^^ decide (i = j))) H := rfl
theorem xQ {i j : Bool} : lx K neg (.bl i) (.bl j) H Q = Q (.bl (neg ^^ decide (i = j))) H := rfl
theorem uK {i j : Str} : lx K neg (.str i) (.str j) H Q = Q (.bl (neg ^^ decide (i.cps.toList = j.cps.toList))) H := rfl
theorem uo {p q : Addr} : lx K neg (.ref p) (.ref q) H Q = ∃ b, EqR K H p q b ∧ Q (.bl (neg ^^ b)) H := rfl
theorem xb : lx K neg .non .non H Q = Q (.bl (neg ^^ true)) H := rfl
theorem xI {i : Int} : lx K neg .non (.int i) H Q = Q (.bl (neg ^^ false)) H := rfl
theorem wX {i : Int} : lx K neg (.int i) .non H Q = Q (.bl (neg ^^ false)) H := rfl
theorem xF {i : Int} {s : Str} : lx K neg (.int i) (.str s) H Q = Q (.bl (neg ^^ false)) H := rfl
theorem xK {i : Int} {s : Str} : lx K neg (.str s) (.int i) H Q = Q (.bl (neg ^^ false)) H := rfl
end
theorem xh {K : PySem.W.Frag} {tl : TE} {g : TG} {tb : TS} {D : gP} {σ : St} {H : Hp} (h : tl σ H fun v H1 => m9 (vo K (tC v)) g tb D σ H1) : m9 (vo K tl) g tb D σ H := h
theorem gU {K : PySem.W.Frag} {tl : TE} {g : TG} {tb : TS} {D : gP} {σ : St} {H : Hp} (h : tl σ H fun v H1 => m9 (oH K (tC v)) g tb D σ H1) : m9 (oH K tl) g tb D σ H := h
theorem xN {K : PySem.W.Frag} {a : Addr} {xs : List V} {g : TG} {tb : TS} {D : gP} {σ : St} {H : Hp} (hq : SqT K H a xs) (h : ∃ W : Nat → Nat → St → Hp → Prop, (∃ m, W 0 m σ H) ∧ ∀ i m σ H, W i m σ H →
      ((Itt K a).stop i H ∧ D.nx σ H) ∨ ((Itt K a).go i H ∧ ∃ N : St → Hp → Prop, (∀ σ' H', N σ' H' → ∃ m', m' < m ∧ W (i + 1) m' σ' H') ∧ ∀ x H', (Itt K a).yld i H x H' → g x σ H' fun σ2 H2 => tb { D with nx := N, ct := N, bk := D.nx } σ2 H2)) : m9 (vo K (tC (.ref a))) g tb D σ H := ⟨a, rfl, ⟨xs, hq⟩, h⟩
theorem gX {K : PySem.W.Frag} {a : Addr} {xs : List V} {g : TG} {tb : TS} {D : gP} {σ : St} {H : Hp} (hq : SqL K H a xs) (h : ∃ W : Nat → Nat → St → Hp → Prop, (∃ m, W 0 m σ H) ∧ ∀ i m σ H, W i m σ H →
      ((Itl K a).stop i H ∧ D.nx σ H) ∨ ((Itl K a).go i H ∧ ∃ N : St → Hp → Prop, (∀ σ' H', N σ' H' → ∃ m', m' < m ∧ W (i + 1) m' σ' H') ∧ ∀ x H', (Itl K a).yld i H x H' → g x σ H' fun σ2 H2 => tb { D with nx := N, ct := N, bk := D.nx } σ2 H2)) : m9 (oH K (tC (.ref a))) g tb D σ H := ⟨a, rfl, ⟨xs, hq⟩, h⟩
theorem vR {H H' : Hp} {x : V} {t : String} (s : Same H H') (h : b4 H x = some t) : b4 H' x = some t := by
  cases x with
  | ref p =>
    unfold b4 at h ⊢
    dsimp only at h ⊢
    cases e : H p with
    | none => rw [e] at h; cases h
    | some o => rw [e] at h; rw [s _ _ e]; exact h
  | _ => exact h
theorem yb {xs : List V} {H H1 : Hp} {Q : VK} {i : Int} {q : Addr} {o : HO} (h : atI xs i = some (.ref q)) (hq : H q = none) (ho : H1 q = some o) (po : nk o = true) (k : Q (.ref q) (upd H q o)) : gR xs H H1 Q (.int i) := by
  unfold gR
  simp only [h, ho]
  exact ⟨hq, po, k⟩
theorem vO {ls : List (List Nat)} {H H1 : Hp} {Q : VK} {i : Int} (h0 : 0 ≤ i) (h1 : i < ls.length) (q : ∀ l ∈ ls, Q (T l) H) : gR (ls.map T) H H1 Q (.int i) := by
  obtain ⟨j, rfl⟩ : ∃ j : Nat, i = j := ⟨i.toNat, by omega⟩
  have hj : j < ls.length := by omega
  have e : atI (ls.map T) (j : Int) = some (T ls[j]) := bz (by simp [hj])
  simp only [gR, e]
  exact q _ (List.getElem_mem hj)
theorem vg (lo : Int) (n : Nat) : yY (Itr lo n) ((List.range n).map fun k => V.int (lo + (k : Nat))) := by
  refine ⟨fun i H h => by simpa [Itr] using h, fun i H x H' hi y => ?_, fun H => by simp [Itr]⟩
  obtain ⟨e, rfl⟩ := y
  refine ⟨e, ?_⟩
  have hi' : i < n := by simpa using hi
  simp [hi']
end L2
namespace L2
theorem bL {k : Nat} {A : PySem.Around} (r : Room k A) : A.units + 100 < PySem.cLine := by have := r.un; omega
end L2
set_option Elab.async false
set_option linter.all false
set_option maxRecDepth 100000
namespace L2
open PySem PySem.Spec PyProof.Rows
section
variable {κ : Type} [DecidableEq κ]
def ko (kvs : List (κ × V)) (k : κ) : Option V := (kvs.find? fun kv => decide (kv.1 = k)).map (·.2)
def j2 (kvs : List (κ × V)) (k : κ) (v : V) : List (κ × V) :=
  if (kvs.any fun kv => decide (kv.1 = k)) = true then kvs.map (fun kv => if kv.1 = k then (kv.1, v) else kv) else kvs ++ [(k, v)]
def CV (kvs : List (κ × V)) (k : κ) : List (κ × V) := kvs.filter fun kv => decide (kv.1 ≠ k)
theorem jG {p : κ × V} {r : List (κ × V)} {k : κ} (e : p.1 = k) : ko (p :: r) k = some p.2 := by simp [ko, List.find?_cons, e]
theorem jw {p : κ × V} {r : List (κ × V)} {k : κ} (e : ¬ p.1 = k) : ko (p :: r) k = ko r k := by simp [ko, List.find?_cons, e]
theorem nl (k : κ) : ∀ kvs : List (κ × V), (kvs.any fun kv => decide (kv.1 = k)) = (ko kvs k).isSome
  | [] => rfl
  | p :: r => by
    rw [List.any_cons]
    by_cases e : p.1 = k
    · simp only [jG e, decide_eq_true e, Bool.true_or, Option.isSome_some]
    · rw [jw e, decide_eq_false e, Bool.false_or]; exact nl k r
theorem lG (kvs : List (κ × V)) (k : κ) (v : V) : (j2 kvs k v).length ≤ kvs.length + 1 := by
  unfold j2
  split
  · rw [List.length_map]; omega
  · rw [List.length_append, List.length_cons, List.length_nil]; omega
theorem xP {kvs : List (κ × V)} {k : κ} (v : V) (h : ko kvs k = none) : j2 kvs k v = kvs ++ [(k, v)] := by
  unfold j2
  rw [nl, h]
  exact if_neg (by decide)
theorem RelO.isSome_eq {o : Option V} {u : Option Value} (r : RelO o u) : o.isSome = u.isSome := by
  cases o with
  | none => cases u with
    | none => rfl
    | some _ => exact (show False from r).elim
  | some _ => cases u with
    | none => exact (show False from r).elim
    | some _ => rfl
theorem KV.val {kvs : List (κ × V)} {vs : List (κ × Value)} (r : KV kvs vs) (k : κ) : RelO (ko kvs k) (valueAt vs k) := by
  unfold KV at r
  induction r with
  | nil => exact True.intro
  | @cons p q ps qs h t ih =>
    obtain ⟨h1, h2⟩ := h
    by_cases e : p.1 = k
    · have e' : q.1 = k := h1.symm.trans e
      have b : valueAt (q :: qs) k = some q.2 := by simp [valueAt, List.find?_cons, e']
      rw [jG e, b]; exact h2
    · have e' : ¬ q.1 = k := fun z => e (h1.trans z)
      have b : valueAt (q :: qs) k = valueAt qs k := by simp [valueAt, List.find?_cons, e']
      rw [jw e, b]; exact ih
theorem KV.any {kvs : List (κ × V)} {vs : List (κ × Value)} (r : KV kvs vs) (k : κ) : (kvs.any fun kv => decide (kv.1 = k)) = vs.any fun kv => decide (kv.1 = k) := by
  unfold KV at r
  induction r with
  | nil => rfl
  | cons h t ih => rw [List.any_cons, List.any_cons, ih, h.1]
theorem KV.repl {kvs : List (κ × V)} {vs : List (κ × Value)} (r : KV kvs vs) (k : κ) {y : V} {u : Value} (ry : RelV y u) :
    KV (kvs.map fun kv => if kv.1 = k then (kv.1, y) else kv) (vs.map fun kv => if kv.1 = k then (kv.1, u) else kv) := by
  unfold KV at r ⊢
  induction r with
  | nil => exact .nil
  | @cons p q ps qs h t ih =>
    rw [List.map_cons, List.map_cons]
    refine .cons ?_ ih
    obtain ⟨h1, h2⟩ := h
    by_cases e : p.1 = k
    · rw [if_pos e, if_pos (h1.symm.trans e)]; exact ⟨h1, ry⟩
    · rw [if_neg e, if_neg (fun z => e (h1.trans z))]; exact ⟨h1, h2⟩
theorem KV.put {kvs : List (κ × V)} {vs : List (κ × Value)} (r : KV kvs vs) (k : κ) {y : V} {u : Value} (ry : RelV y u) : KV (j2 kvs k y) (stored vs k u) := by
  unfold j2 stored
  rw [r.any k]
  by_cases e : (vs.any fun kv => decide (kv.1 = k)) = true
  · rw [if_pos e, if_pos e]; exact r.repl k ry
  · rw [if_neg e, if_neg e]; exact Paired.snoc r ⟨rfl, ry⟩
theorem KV.length {kvs : List (κ × V)} {vs : List (κ × Value)} (r : KV kvs vs) : kvs.length = vs.length := Paired.length r
end
theorem uz {P : Program} {w : World} {k : Key} {u : Value} (r : RelV (kV k) u) : (cJ P w).is k u = true := by
  cases k with
  | inl i => obtain ⟨t, e⟩ := (show ∃ t, u = Value.int i t from r); subst e; exact rP P w i t
  | inr x => obtain ⟨t, e⟩ := (show ∃ t, u = Value.str x t from r); subst e; exact rS P w x t
theorem oZ {P : Program} {w : World} : ∀ {ks : List Key} {us : List Value}, Vals (ks.map kV) us → ItemsAre (cJ P w) ks us
  | [], _, r => by rw [List.map_nil] at r; cases r; exact .nil
  | k :: ks, _, r => by
    rw [List.map_cons] at r
    cases r with
    | cons h t => exact .cons (uz h) (oZ t)
abbrev KT (H : Hp) : List (List Key × V) → List (List Key × Addr × Value) → Prop := Paired fun p q => p.1 = q.1 ∧ H q.2.1 = some (.tup (p.1.map kV)) ∧ RelV p.2 q.2.2
theorem KT.val {H : Hp} {kvs : List (List Key × V)} {xs : List (List Key × Addr × Value)} (r : KT H kvs xs) (k : List Key) : RelO (ko kvs k) ((atKey xs k).map (·.2)) := by
  induction r with
  | nil => exact True.intro
  | @cons p q ps qs h t ih =>
    obtain ⟨h1, _, h2⟩ := h
    by_cases e : p.1 = k
    · have e' : q.1 = k := h1.symm.trans e
      have b : atKey (q :: qs) k = some q.2 := by simp [atKey, List.find?_cons, e']
      rw [jG e, b]; exact h2
    · have e' : ¬ q.1 = k := fun z => e (h1.trans z)
      have b : atKey (q :: qs) k = atKey qs k := by simp [atKey, List.find?_cons, e']
      rw [jw e, b]; exact ih
theorem KT.repl {H : Hp} {kvs : List (List Key × V)} {xs : List (List Key × Addr × Value)} (r : KT H kvs xs) (k : List Key) {y : V} {u : Value} (ry : RelV y u) :
    KT H (kvs.map fun kv => if kv.1 = k then (kv.1, y) else kv) (xs.map (putAt k u)) := by
  induction r with
  | nil => exact .nil
  | @cons p q ps qs h t ih =>
    rw [List.map_cons, List.map_cons]
    refine .cons ?_ ih
    obtain ⟨h1, h2, h3⟩ := h
    unfold putAt
    by_cases e : p.1 = k
    · rw [if_pos e, if_pos (h1.symm.trans e)]; exact ⟨h1, h2, ry⟩
    · rw [if_neg e, if_neg (fun z => e (h1.trans z))]; exact ⟨h1, h2, h3⟩
theorem KT.put {H : Hp} {kvs : List (List Key × V)} {xs : List (List Key × Addr × Value)} (r : KT H kvs xs) (k : List Key) {b : Addr} {y : V} {u : Value} (hb : H b = some (.tup (k.map kV))) (ry : RelV y u) :
    KT H (j2 kvs k y) (storedH xs k b u) := by
  have e : (kvs.any fun kv => decide (kv.1 = k)) = (atKey xs k).isSome := by
    rw [nl, (r.val k).isSome_eq, Option.isSome_map]
  unfold j2 storedH
  rw [e]
  by_cases q : (atKey xs k).isSome = true
  · rw [if_pos q, if_pos q]; exact r.repl k ry
  · rw [if_neg q, if_neg q]; exact Paired.snoc r ⟨rfl, hb, ry⟩
theorem KT.keeps {H H' : Hp} {kvs : List (List Key × V)} {xs : List (List Key × Addr × Value)} (r : KT H kvs xs) (ht : ∀ b ys, H b = some (.tup ys) → H' b = some (.tup ys)) : KT H' kvs xs :=
  Paired.mapP r fun _ _ z => ⟨z.1, ht _ _ z.2.1, z.2.2⟩
section
variable {P : Program} {w : World} {H : Hp} {h : Heap} {a : Addr}
theorem zZ {u : HO} (ok : HOk P w H h) (e : Rd H a u) : ObjOk P w H h a u := e.ok ok
theorem uq {kvs : List (Key × V)} (ok : HOk P w H h) (e : Rd H a (.dK kvs)) : kvs.length ≤ sizeLine ∧ (a == sysModules) = false ∧ ∃ vs, KV kvs vs ∧ h.DictOf (cJ P w) a vs :=
  show ObjOk P w H h a (.dK kvs) from zZ ok e
theorem Cd {kvs : List (Key × V)} (ok : HOk P w H h) (e : H a = some (.dK kvs)) : kvs.length ≤ sizeLine ∧ (a == sysModules) = false ∧ ∃ vs, KV kvs vs ∧ h.DictOf (cJ P w) a vs := uq ok (.inl e)
theorem qB {ks : List Key} (ok : HOk P w H h) (e : H a = some (.tup (ks.map kV))) : (tupleKind (cJ P w)).is h ks a := by
  obtain ⟨_, its, r, o, h1, h2, n, h3⟩ := (show ObjOk P w H h a (.tup (ks.map kV)) from ok a _ e)
  exact ⟨o, its.toArray, n, h1, h2, h3, by simpa using oZ r⟩
theorem ve {kvs : List (List Key × V)} (ok : HOk P w H h) (e : Rd H a (.dT kvs)) : kvs.length ≤ sizeLine ∧ (a == sysModules) = false ∧
    ∃ xs, KT H kvs xs ∧ h.DictOfH (tupleKind (cJ P w)) a xs := by
  obtain ⟨z, y, xs, r, o, es, ep, h1, h2, h3, h4, h5⟩ := (show ObjOk P w H h a (.dT kvs) from zZ ok e)
  refine ⟨z, y, xs, r, o, es, ep, h1, h2, h3, h4, fun x hx => ?_, h5⟩
  have all : ∀ {l : List (List Key × V)} {m : List (List Key × Addr × Value)}, KT H l m → ∀ x ∈ m, (tupleKind (cJ P w)).is h x.1 x.2.1 := by
    intro l m q
    induction q with
    | nil => intro x hx; exact nomatch hx
    | @cons p q ps qs hq t ih =>
      intro x hx
      rcases List.mem_cons.mp hx with e | hx
      · subst e
        exact qB ok (by rw [← hq.1]; exact hq.2.1)
      · exact ih x hx
  exact all r x hx
theorem Ci {kvs : List (List Key × V)} (ok : HOk P w H h) (e : H a = some (.dT kvs)) : kvs.length ≤ sizeLine ∧ (a == sysModules) = false ∧
    ∃ xs, KT H kvs xs ∧ h.DictOfH (tupleKind (cJ P w)) a xs := ve ok (.inl e)
end
def DGet (H : Hp) (a : Addr) (y : V) (r : Option V) : Prop :=
  (∃ kvs k, Rd H a (.dK kvs) ∧ y = kV k ∧ r = ko kvs k) ∨ ∃ kvs k b, Rd H a (.dT kvs) ∧ y = .ref b ∧ H b = some (.tup (k.map kV)) ∧ r = ko kvs k
def DPut (H : Hp) (a : Addr) (y v : V) (H' : Hp) : Prop :=
  (∃ kvs k, H a = some (.dK kvs) ∧ y = kV k ∧ kvs.length < sizeLine ∧ H' = upd H a (.dK (j2 kvs k v))) ∨
  ∃ kvs k b, H a = some (.dT kvs) ∧ y = .ref b ∧ H b = some (.tup (k.map kV)) ∧ kvs.length < sizeLine ∧ H' = upd H a (.dT (j2 kvs k v))
theorem DGet.k {H : Hp} {a : Addr} {kvs : List (Key × V)} {k : Key} (e : H a = some (.dK kvs)) : DGet H a (kV k) (ko kvs k) := .inl ⟨kvs, k, .inl e, rfl, rfl⟩
theorem DPut.k {H : Hp} {a : Addr} {kvs : List (Key × V)} {k : Key} {v : V} (e : H a = some (.dK kvs)) (hl : kvs.length < sizeLine) : DPut H a (kV k) v (upd H a (.dK (j2 kvs k v))) := .inl ⟨kvs, k, e, rfl, hl, rfl⟩
section
variable {X : Cx} {pins : List (Addr × Obj)} {σ : St} {H : Hp} {s : Shared} {a : Addr} {y v : V} {u r : Value} {o : Option V} {A : Around} {E : Value → Shared → Prop}
theorem vh {Q : Value → Shared → Prop} (hu : A.units + 1 < cLine) (I : Inv X pins σ H s) (g : DGet H a y (some v)) (ry : RelV y u) (h : ∀ w' s', Inv X pins σ H s' → RelV v w' → Q w' s') :
    wpAny (model X.prog X.w) A (getItem (.ref a) u) Q E s := by
  rcases g with ⟨kvs, k, e, ey, l⟩ | ⟨kvs, k, b, e, ey, eb, l⟩
  · subst ey
    obtain ⟨z, hd, vs, rel, dd⟩ := uq I.hok e
    obtain ⟨w', hw, rw'⟩ := RelO.some_of (v := v) (o := valueAt vs k) (by rw [l]; exact rel.val k)
    exact wpAny_getItem_of (uz ry) dd.mapOf hw (h w' _ (I.tok _) rw')
  · subst ey
    cases (show u = Value.ref b from ry)
    obtain ⟨z, hd, xs, rel, dd⟩ := ve I.hok e
    obtain ⟨w', hw, rw'⟩ := RelO.some_of (v := v) (o := (atKey xs k).map (·.2)) (by rw [l]; exact rel.val k)
    obtain ⟨p, hp, hp2⟩ := Option.map_eq_some_iff.mp hw
    refine wpAny_getItem_heap (tupleKind_room_in1 hu) (qB I.hok eb) dd hp ?_
    rw [hp2]
    exact h w' _ (I.tok _) rw'
theorem CO {Q : Value → Shared → Prop} (hu : A.units + 1 < cLine) (I : Inv X pins σ H s) (g : DGet H a y o) (ry : RelV y u) (h : ∀ s', Inv X pins σ H s' → Q (.bool o.isSome) s') :
    wpAny (model X.prog X.w) A (compareOp .In u (.ref a)) Q E s := by
  rcases g with ⟨kvs, k, e, ey, l⟩ | ⟨kvs, k, b, e, ey, eb, l⟩
  · subst ey
    obtain ⟨z, hd, vs, rel, dd⟩ := uq I.hok e
    refine wpAny_in_of (uz ry) hd dd.mapOf ?_
    rw [← (rel.val k).isSome_eq, ← l]
    exact h _ (I.tok _)
  · subst ey
    cases (show u = Value.ref b from ry)
    obtain ⟨z, hd, xs, rel, dd⟩ := ve I.hok e
    refine wpAny_in_heap (tupleKind_room_in1 hu) (qB I.hok eb) hd dd ?_
    have q := (rel.val k).isSome_eq
    rw [Option.isSome_map] at q
    rw [← q, ← l]
    exact h _ (I.tok _)
theorem uM {h' : Heap} {t' : Nat} {ob : HO} (I : Inv X pins σ H s) (mu : Mut (H a)) (hs : Heap.SameBut a s.heap h') (he : ∃ q, h'.get? a = some q) (new : ObjOk X.prog X.w (upd H a ob) h' a ob) :
    Inv X pins σ (upd H a ob) { s with heap := h', toks := t' } :=
  I.write (x := a) (e := a) mu (.inl rfl) (fun b q hb z => (hs.2 b hb).trans z) he new
theorem By {P : Program} {w : World} {H' : Hp} {h' : Heap} {kvs : List (Key × V)} {vs : List (Key × Value)} (z : kvs.length ≤ sizeLine) (hd : (a == sysModules) = false) (rel : KV kvs vs) (dd : h'.DictOf (cJ P w) a vs) :
    ObjOk P w H' h' a (.dK kvs) := ⟨z, hd, vs, rel, dd⟩
theorem vJ {H' : Hp} {Q : Unit → Shared → Prop} (hu : A.units + 1 < cLine) (I : Inv X pins σ H s) (g : DPut H a y v H') (ry : RelV y u) (rv : RelV v r) (h : ∀ s', Inv X pins σ H' s' → Q () s') :
    wpAny (model X.prog X.w) A (setItem (.ref a) u r) Q E s := by
  rcases g with ⟨kvs, k, e, ey, l, eH⟩ | ⟨kvs, k, b, e, ey, eb, l, eH⟩
  · subst ey eH
    obtain ⟨z, hd, vs, rel, dd⟩ := Cd I.hok e
    have hz : vs.length ≤ sizeLine := by rw [← rel.length]; exact z
    have hl : (j2 kvs k v).length ≤ sizeLine := by have := lG kvs k v; omega
    refine wpAny_setItem_pairs (hsz := hz) (uz ry) dd fun h' dd' hs => h _ ?_
    have he : ∃ q, h'.get? a = some q := let ⟨q, _, _, hq, _⟩ := dd'; ⟨q, hq⟩
    exact uM I (by rw [e]; exact True.intro) hs he (By hl hd (rel.put k rv) dd')
  · subst ey eH
    cases (show u = Value.ref b from ry)
    obtain ⟨z, hd, xs, rel, dd⟩ := Ci I.hok e
    have hz : xs.length ≤ sizeLine := by rw [← Paired.length rel]; exact z
    have hl : (j2 kvs k v).length ≤ sizeLine := by have := lG kvs k v; omega
    refine wpAny_setItem_heap (hsz := hz) (tupleKind_room_in1 hu) (qB I.hok eb) dd fun h' dd' hs => h _ ?_
    obtain ⟨q, es, ep, hq, h2, h3, h4, _, h5⟩ := dd'
    refine uM I (by rw [e]; exact True.intro) hs ⟨q, hq⟩ ⟨hl, hd, _, (rel.put k eb rv).keeps fun c ys ec => ?_, q, es, ep, hq, h2, h3, h4, h5⟩
    rw [al (BL ec e (fun z => nomatch z))]
    exact ec
end
section
variable {X : Cx} {pins : List (Addr × Obj)} {σ : St} {H : Hp} {s : Shared} {a : Addr} {kvs : List (Key × V)} {k : Key} {u : Value} {A : Around} {E : Value → Shared → Prop}
end
def Cf (i : Expr) : Prop := ∀ ov iv, subscripted i false ov iv = operate [ov, iv] (getItem ov iv)
theorem zn {prog : Program} {w : World} {A : Around} {E : Value → Shared → Prop} {s : Shared} {env : Env} {value slice : Expr} {pos : Pos} {T id : String} {Q : Value → Shared → Prop}
    (hl : typeLookup (.type T) "__getitem__" = pure (some (.builtin id))) (hs : Cf slice)
    (h : wpAny (model prog w) A (eval value env) (fun o s₁ => wpAny (model prog w) A (eval slice env) (fun i s₂ => s₂.TypeIs o T ∧ wpAny (model prog w) A (getItem o i) Q E s₂) E s₁) E s) :
    wpAny (model prog w) A (eval (.Subscript value slice pos) env) Q E s := by
  refine Subscript_ (wpAny_mono h (fun o s₁ h₁ => wpAny_mono h₁ (fun i s₂ h₂ => ?_) fun _ _ x => x) fun _ _ x => x)
  obtain ⟨hT, h₂⟩ := h₂
  unfold subscriptTail
  refine wpAny_bind ?_
  rw [getitemInPython_of_ne hT.not_modules]
  refine wpAny_bind (wpAny_specialOf hT hl ?_)
  have fin : wpAny (model prog w) A (subscripted slice false o i) (fun r s₃ => wpAny (model prog w) A (letTemporaryGo value o r >>= fun _ => pure r) Q E s₃) E s₂ := by
    rw [hs o i]
    exact wpAny_operating (wpAny_mono h₂ (fun r s₃ h₃ => wpAny_bind (wpAny_letTemporaryGo (wpAny_pure h₃))) fun _ _ x => x)
  first
    | exact wpAny_pure (wpAny_bind fin)
    | exact wpAny_bind (wpAny_pure (wpAny_bind fin))
    | exact wpAny_bind fin
theorem sx {X : Cx} {pins : List (Addr × Obj)} {σ : St} {H : Hp} {s : Shared} {a : Addr} {y : V} {o : Option V} (I : Inv X pins σ H s) (g : DGet H a y o) : s.TypeIs (.ref a) "dict" := by
  rcases g with ⟨kvs, k, e, _, _⟩ | ⟨kvs, k, b, e, _, _, _⟩
  · obtain ⟨_, _, vs, _, dd⟩ := uq I.hok e
    exact dd.typeIs
  · obtain ⟨_, _, xs, _, dd⟩ := ve I.hok e
    exact dd.typeIs
def Aa (td ty : TE) : TE := fun σ H Q => td σ H fun x H1 => ty σ H1 fun y H2 => ∃ a v, x = .ref a ∧ DGet H2 a y (some v) ∧ Q v H2
def BO (ty td : TE) : TE := fun σ H Q => ty σ H fun y H1 => td σ H1 fun x H2 => ∃ a o, x = .ref a ∧ DGet H2 a y o ∧ Q (.bl o.isSome) H2
def Ac (td ty tv : TE) : TS := fun D σ H => tv σ H fun v H1 => td σ H1 fun x H2 => ty σ H2 fun y H3 => ∃ a H4, x = .ref a ∧ DPut H3 a y v H4 ∧ D.nx σ H4
section
variable {X : Cx} {o i e value : Expr} {pos pos' tpos : Pos} {td ty tv : TE}
theorem zf (hu : X.A.units + 1 < cLine) (ho : PE X o td) (hi : PE X i ty) (hs : Cf i) : PE X (.Subscript o i pos) (Aa td ty) := by
  intro pins s σ H Q I h
  refine zn PySem.F.slot_dict_getitem.lookup hs (thn (ho pins s σ H _ I h) fun u s1 ⟨x, H1, I1, rx, q1⟩ => thn (hi pins s1 σ H1 _ I1 q1) fun iv s2 ⟨y, H2, I2, ry, a, v, ex, g, q2⟩ => ?_)
  subst ex
  obtain rfl : u = Value.ref a := rx
  exact ⟨sx I2 g, vh hu I2 g ry fun w' s3 I3 rw' => ⟨v, H2, I3, rw', q2⟩⟩
theorem ue (hu : X.A.units + 1 < cLine) (hi : PE X i ty) (ho : PE X o td) : PC X .In i o (BO ty td) := by
  intro pins s σ H Q I h
  refine thn (hi pins s σ H _ I h) fun iv s1 ⟨y, H1, I1, ry, q1⟩ => thn (ho pins s1 σ H1 _ I1 q1) fun u s2 ⟨x, H2, I2, rx, a, ov, ex, g, q2⟩ => ?_
  subst ex
  obtain rfl : u = Value.ref a := rx
  exact CO hu I2 g ry fun s3 I3 => ⟨.bl ov.isSome, H2, I3, rfl, q2⟩
theorem qk (hu : X.A.units + 1 < cLine) (ho : PE X o td) (hi : PE X i ty) (hv : PE X value tv) (hs : swapsWith value (some (.Subscript o i pos')) pos.line X.env = pure false) :
    PS X (.Assign [.Subscript o i pos'] value pos) (Ac td ty tv) := by
  intro pins s σ H D I h
  refine wpAny_Assign_Subscript (thn (hv pins s σ H _ I h) fun r s1 ⟨v, H1, I1, rv, q1⟩ => thn (ho pins s1 σ H1 _ I1 q1) fun u s2 ⟨x, H2, I2, rx, q2⟩ => thn (hi pins s2 σ H2 _ I2 q2) fun iv s3 ⟨y, H3, I3, ry, a, H4, ex, g, q3⟩ => ?_) hs
  subst ex
  obtain rfl : u = Value.ref a := rx
  exact vJ hu I3 g ry rv fun s4 I4 => ⟨σ, H4, I4, q3⟩
end
section
variable {X : Cx} {pos : Pos}
end
section
variable {X : Cx} {pins : List (Addr × Obj)} {σ : St} {H : Hp} {s : Shared} {a : Addr} {y d : V} {u r : Value} {o : Option V} {A : Around} {E : Value → Shared → Prop}
end
section
variable {X : Cx} {o e f : Expr} {apos cpos : Pos} {td ty tx : TE}
end
section
variable {X : Cx} {pins : List (Addr × Obj)} {σ : St} {H : Hp} {s : Shared} {a : Addr} {kvs : List (Key × V)} {A : Around} {E : Value → Shared → Prop}
end
section
variable {X : Cx} {pins : List (Addr × Obj)} {σ : St} {H : Hp} {s : Shared} {a : Addr} {y : V} {u : Value} {A : Around} {E : Value → Shared → Prop}
end
end L2
set_option Elab.async false
set_option linter.all false
set_option maxRecDepth 100000
namespace L2
open PySem PySem.Spec PyProof.Rows
section
variable {X : Cx} {e o value : Expr} {f : Str} {ta tv : TE} {pos pos' : Pos}
def Ay (K : PySem.W.Frag) (f : Str) : V → Hp → VK → Prop
  | .ref p, H, Q => ∃ C dx fs v, H p = some (.ins C dx fs) ∧ Cls K C ∧ NoAttr K C f ∧ fs.lookup f = some v ∧ Q v H
  | _, _, _ => False
def zL (K : PySem.W.Frag) (ta : TE) (f : Str) : TE := fun σ H Q => ta σ H fun x H1 => Ay K f x H1 Q
theorem ck (K : PySem.W.Frag) (he : PE X e ta) (hK : X.K = K := by rfl) (hb : attributeBase e f X.env (eval e X.env) = eval e X.env := by rfl) : PE X (.Attribute e f pos) (zL K ta f) := by
  subst hK
  intro pins s σ H Q I h
  refine y9 hb (thn (he pins s σ H _ I h) fun u s1 ⟨x, H1, I1, rx, q⟩ => ?_)
  dsimp only at q
  unfold Ay at q
  split at q
  · rename_i a
    obtain ⟨C, dx, fs, v, ea, c, n, l, q⟩ := q
    obtain rfl : u = Value.ref a := rx
    exact tX I1 ea c n l fun u' s2 I2 ru => ⟨v, H1, I2, ru, q⟩
  · exact q.elim
def xg (K : PySem.W.Frag) (f : Str) (y : V) : V → Hp → (Hp → Prop) → Prop
  | .ref p, H, Q => ∃ C dx fs, H p = some (.ins C dx fs) ∧ Cls K C ∧ NoAttr K C f ∧ fs.length < 1000 ∧ Q (upd H p (.ins C dx (dO f y fs)))
  | _, _, _ => False
def zU (K : PySem.W.Frag) (ta tv : TE) (f : Str) : TS := fun D σ H => tv σ H fun y H1 => ta σ H1 fun x H2 => xg K f y x H2 fun H3 => D.nx σ H3
theorem eY (K : PySem.W.Frag) (ha : PE X o ta) (hv : PE X value tv) (hK : X.K = K := by rfl) (hs : swapsWith value (some (.Attribute o f pos')) pos.line X.env = pure false := by rfl) : PS X (.Assign [.Attribute o f pos'] value pos) (zU K ta tv f) := by
  subst hK
  intro pins s σ H D I h
  refine plainObj_wpAny_Assign_Attribute (thn (hv pins s σ H _ I h) fun u s1 ⟨y, H1, I1, ry, q⟩ => thn (ha pins s1 σ H1 _ I1 q) fun ov s2 ⟨x, H2, I2, rx, q2⟩ => ?_) hs
  dsimp only at q2
  unfold xg at q2
  split at q2
  · rename_i a
    obtain ⟨C, dx, fs, ea, c, n, l, q2⟩ := q2
    obtain rfl : ov = Value.ref a := rx
    exact tO I2 ea c n l ry fun s3 I3 => ⟨σ, _, I3, q2⟩
  · exact q2.elim
end
section
variable {X : Cx} {CX : CXT} {k : Nat} {f C : Addr} {fd : FuncData} {ps : List Str} {sp : Sp} {dvs : List V} {ds : List Value} {E : XKs} {x m : Str} {p pos apos : Pos} {e o : Expr} {es : List Expr} {ta : TE} {t : TA}
def uT (C : Addr) (m : Str) : V → Hp → (V → Prop) → Prop
  | .ref p, H, Q => ∃ dx fs, H p = some (.ins C dx fs) ∧ fs.lookup m = none ∧ Q (.ref p)
  | _, _, _ => False
def tf (C : Addr) (m : Str) (sp : Sp) (dvs : List V) (E : XKs) (ta : TE) (t : TA) : TE := fun σ H Q => ta σ H fun x0 H1 => uT C m x0 H1 (fun x => t σ H1 fun vs H2 => sp (x :: (vs ++ dvs)) H2 Q (E σ))
theorem dC {pl : Sem Bool} (he : PE X o ta) (c : Cls X.K C) (hm : jq X.K C m f) (F : bD X.prog X.w X.K X.mg X.base CX k f fd ps sp) (hr : Room k X.A) (hb : Binds X.K fd ps ds) (hd : Vals dvs ds) (hx : d6 CX X E) (ha : PA X (e :: es) t)
    (hst : starEach (e :: es) X.env = (false, eval e X.env) :: starEach es X.env := by rfl) (hpl : (backTo pos (starEach es X.env)).any (·.1) = false := by rfl)
    (ht : eval (.Call (.Attribute o m apos) (e :: es) [] pos) X.env = (do
      let ov ← eval o X.env
      standAt apos.atName
      let (f, first) ← holding [ov] (getMethod ov m pl)
      callWith pos f first (backTo pos (starEach (e :: es) X.env)) (backToKw pos (keywordEach [] X.env))) := by rfl) :
    PE X (.Call (.Attribute o m apos) (e :: es) [] pos) (tf C m sp dvs E ta t) := by
  intro pins s σ H Q I h
  refine PySem.W.methodCall_KW (pl := pl) (thn (he pins s σ H _ I h) fun u s1 ⟨xo, H1, I1, rx, q⟩ => ?_) ht
  dsimp only at q
  unfold uT at q
  split at q
  · rename_i a
    obtain ⟨dx, fs, ea, l, q⟩ := q
    obtain rfl : u = Value.ref a := rx
    refine nB I1 ea c hm l ?_
    refine PySem.W.callWith_K (first := [.ref a]) (h₀ := X.base) I.ok.mod.kin hm.kp (thn (ha pos pins s1 σ _ _ I1 q) fun us s2 ⟨vs, H2, I2, r, q2⟩ => ⟨I2.kIn, ?_⟩) hst hpl
    exact pF (us := .ref a :: us) (vs := .ref a :: vs) F hr hb hd hx I2 (.cons rfl r) q2
  · exact q.elim
theorem vV {pl : Sem Bool} (he : PE X o ta) (c : Cls X.K C) (hm : jq X.K C m f) (F : bD X.prog X.w X.K X.mg X.base CX k f fd ps sp) (hr : Room k X.A) (hb : Binds X.K fd ps ds) (hd : Vals dvs ds) (hx : d6 CX X E)
    (ht : eval (.Call (.Attribute o m apos) [] [] pos) X.env = (do
      let ov ← eval o X.env
      standAt apos.atName
      let (f, first) ← holding [ov] (getMethod ov m pl)
      callWith pos f first (backTo pos (starEach [] X.env)) (backToKw pos (keywordEach [] X.env))) := by rfl) :
    PE X (.Call (.Attribute o m apos) [] [] pos) (tf C m sp dvs E ta qS) := by
  intro pins s σ H Q I h
  refine PySem.W.methodCall_KW (pl := pl) (thn (he pins s σ H _ I h) fun u s1 ⟨xo, H1, I1, rx, q⟩ => ?_) ht
  dsimp only at q
  unfold uT at q
  split at q
  · rename_i a
    obtain ⟨dx, fs, ea, l, q⟩ := q
    obtain rfl : u = Value.ref a := rx
    refine nB I1 ea c hm l ?_
    exact PySem.W.callWith_K0 (first := [.ref a]) I1.kIn hm.kp (pF (us := [.ref a]) (vs := [.ref a]) F hr hb hd hx I1 (.cons rfl .nil) q)
  · exact q.elim
def ua (C : Addr) (sp : Sp) (dvs : List V) (E : XKs) (t : TA) : TE := fun σ H Q => t σ H fun vs H1 => ∀ x dx, H1 x = none → H1 dx = none → dx ≠ x →
  sp (.ref x :: (vs ++ dvs)) (upd (upd H1 dx (.own x)) x (.ins C dx [])) (fun v H2 => v = .non ∧ Q (.ref x) H2) (E σ)
theorem oN {pins : List (Addr × Obj)} {σ : St} {H : Hp} {s : Shared} {Q : VK} {us : List Value} {vs : List V} (M : Mk X.K C f) (F : bD X.prog X.w X.K X.mg X.base CX k f fd ps sp) (hr : Room (k + 1) X.A) (hb : Binds X.K fd ps ds) (hd : Vals dvs ds)
    (hx : d6 CX X E) (I : Inv X pins σ H s) (r : Vals vs us)
    (h : ∀ x dx, H x = none → H dx = none → dx ≠ x → sp (.ref x :: (vs ++ dvs)) (upd (upd H dx (.own x)) x (.ins C dx [])) (fun v H2 => v = .non ∧ Q (.ref x) H2) (E σ)) :
    wpAny (model X.prog X.w) X.A (call (.ref C) us) (EP X pins σ Q) X.xe s := by
  have hq := h (s.heap.objs.size + 1) s.heap.objs.size (I.hok.fresh (Nat.le_succ _)) (I.hok.fresh (Nat.le_refl _)) (Nat.ne_of_lt (Nat.lt_succ_self _))
  have I2 := Inv.made (C := C) I
  have r2 : Vals (V.ref (s.heap.objs.size + 1) :: (vs ++ dvs)) (Value.ref (s.heap.objs.size + 1) :: (us ++ ds)) := .cons rfl (r.append hd)
  have hl : (Value.ref (s.heap.objs.size + 1) :: us ++ ds).length = ps.length := by
    have e := r2.length
    rw [F.len _ _ _ _ hq] at e
    exact e.symm
  refine wpAny_call (xU (f := f) I.kIn M.makes M.init (beq_iff_eq.mp M.fn) (codeAny_mono (F.run _ X.stack _ _ ⟨Value.ref (s.heap.objs.size + 1) :: us, []⟩ (Value.ref (s.heap.objs.size + 1) :: (us ++ ds)) _ _ (E σ) (hr.make C us [])
    (I2.env0.make C us []) (hb _ (Value.ref (s.heap.objs.size + 1) :: us) I2.kIn hl) r2 hq) fun r s' hq' => ?_))
  cases r with
  | error e => exact hx pins σ _ _ e s' I2 hq'
  | ok fl =>
    cases fl with
    | ret u =>
      obtain ⟨v, H', I3, rv, ev, q3⟩ := I2.after hq'
      subst ev
      exact ⟨rv, ⟨V.ref (s.heap.objs.size + 1), H', I3, rfl, q3⟩⟩
    | next => exact False.elim hq'
    | brk => exact False.elim hq'
    | cont => exact False.elim hq'
theorem ss (M : Mk X.K C f) (F : bD X.prog X.w X.K X.mg X.base CX k f fd ps sp) (hr : Room (k + 1) X.A) (hg : Gl X x) (hm : X.mg x = some (.ref C)) (hb : Binds X.K fd ps ds) (hd : Vals dvs ds) (hx : d6 CX X E)
    (ha : PA X (e :: es) t) (hdb : (x == ("__debug__" : Str)) = false := by decide) (he : starEach (e :: es) X.env = (false, eval e X.env) :: starEach es X.env := by rfl) (hpl : (backTo pos (starEach es X.env)).any (·.1) = false := by rfl) :
    PE X (.Call (.Name x p) (e :: es) [] pos) (ua C sp dvs E t) := by
  intro pins s σ H Q I h
  refine wpAny_Call_Name_kw (iy I hg hm ?_ hdb)
  refine PySem.W.callWith_K (h₀ := X.base) I.ok.mod.kin M.kp (thn (ha pos pins s σ H _ I h) fun us s1 ⟨vs, H1, I1, r, q⟩ => ⟨I1.kIn, ?_⟩) he hpl
  exact oN M F hr hb hd hx I1 r q
theorem kP (M : Mk X.K C f) (F : bD X.prog X.w X.K X.mg X.base CX k f fd ps sp) (hr : Room (k + 1) X.A) (hg : Gl X x) (hm : X.mg x = some (.ref C)) (hb : Binds X.K fd ps ds) (hd : Vals dvs ds) (hx : d6 CX X E)
    (hdb : (x == ("__debug__" : Str)) = false := by decide) : PE X (.Call (.Name x p) [] [] pos) (ua C sp dvs E qS) := by
  intro pins s σ H Q I h
  refine wpAny_Call_Name_kw (iy I hg hm ?_ hdb)
  exact PySem.W.callWith_K0 I.kIn M.kp (oN (us := []) M F hr hb hd hx I .nil h)
end
end L2
set_option Elab.async false
set_option linter.all false
set_option maxRecDepth 100000
namespace L2
open PySem PySem.Spec PyProof.Rows
def fZ (wi : TI) (n : Nat) (g : TG) (ks : List Nat) (tt : TT) (te : TE) : TE := fun σ H Q => wi σ H fun J H1 => ∀ D, H1 D = none → ∃ W : Nat → Nat → List V → Hp → Prop, (∃ m, W 0 m [] (upd H1 D (.lst []))) ∧
  ∀ i m ys H2, W i m ys H2 → H2 D = some (.lst ys) ∧ ((J.stop i H2 ∧ Q (.ref D) H2) ∨ (J.go i H2 ∧ ∀ x H3, J.yld i H2 x H3 → ∀ zs : St, zs.length = n →
    g x (zs ++ ks.map fun k => (σ[k]?).join) H3 fun σ4 H4 => (∃ zs4 : St, zs4.length = n ∧ σ4 = zs4 ++ ks.map fun k => (σ[k]?).join) ∧
      tt σ4 H4 fun b H5 => if b = true then te σ4 H5 fun y H6 => H6 D = some (.lst ys) ∧ ys.length < sizeLine ∧ ∃ m', m' < m ∧ W (i + 1) m' (ys ++ [y]) (upd H6 D (.lst (ys ++ [y])))
        else ∃ m', m' < m ∧ W (i + 1) m' ys H5))
theorem oO {X : Cx} {elt iter : Expr} {x : Str} {xs : List Str} {tg : Expr} {g : TG} {pos : Pos} {ifs : List Expr} {scope : Scope} {cl : List (Str × Addr)} {fr : List Str} {ks : List Nat} {wi : TI} {tt : TT} {te : TE} (hc : X.calm = true) (S : CompScope X scope cl x fr)
    (hks : ks.map (fun k => X.N[k]?) = fr.map some) (hi : PI X tg iter wi) (hg : ∀ C s₂ H₂ ex pn, PG (cF X (xs ++ fr) scope cl C s₂ H₂ ex pn) tg g)
    (ht : ∀ C s₂ H₂ ex pn, PTs (cF X (xs ++ fr) scope cl C s₂ H₂ ex pn) ifs tt) (he : ∀ C s₂ H₂ ex pn, PE (cF X (xs ++ fr) scope cl C s₂ H₂ ex pn) elt te)
    (hs : ∀ x, foldedSetIterable iter X.env x = pure x := by intro _; rfl)
    {pins : List (Addr × Obj)} {s : Shared} {σ : St} {H : Hp} {Q : VK} (I : Inv X pins σ H s) (h : fZ wi xs.length g ks tt te σ H Q) (use : Option (Value → Sem Unit)) (Qp : Value → Shared → Prop)
    (hend : ∀ (D C : Addr) (H' : Hp) (s' : Shared) (mC : Str → Option Value) (f : Flow), Inv X pins σ H' s' → ou X pins H' C → s'.heap.Ns C mC → Q (.ref D) H' → compPost (model X.prog X.w) X.A X.xe use Qp (.ref D) C (.ok f) s') :
    wpAny (model X.prog X.w) X.A (comprehension (.ListComp elt [⟨tg, iter, ifs, 0⟩] scope pos) scope X.env (firstIterPos [⟨tg, iter, ifs, 0⟩] pos) (newList []) false (firstIter [⟨tg, iter, ifs, 0⟩] X.env) use) Qp X.xe s := by
  refine wpAny_comprehension_free (use := use) rfl hs S.clos S.kind S.names (thn (hi pins s σ H _ I h) fun v s1 h1 => thn h1 fun itv s2 h2 => ?_)
  obtain ⟨it, fp, tn, J, H2, e, I2, T, st2, f2, hW⟩ := h2
  subst e
  refine wpAny_newObj_type (wpAny_newFunctionEnv S.nocell (by intro y hy; simp at hy) (fun h₁ hns₁ hsb₁ => ?_) S.kind)
  dsimp only at hns₁ hsb₁ ⊢
  have hD0 : H2 s2.heap.objs.size = none := I2.hok.fresh (Nat.le_refl _)
  obtain ⟨W, ⟨m0, w0⟩, turn⟩ := hW s2.heap.objs.size hD0
  generalize hs3 : s2.heap.push { cls := .type "list", dict := none, data := .seq ([] : List Value).toArray } = g3 at hns₁ hsb₁ ⊢
  have hsz3 : g3.objs.size = s2.heap.objs.size + 1 := by rw [← hs3, Heap.size_push]
  have up3 : ∀ b o, s2.heap.get? b = some o → g3.get? b = some o := fun b o e => by rw [← hs3]; exact Heap.get?_push_of_some _ e
  have gD : g3.get? s2.heap.objs.size = some { cls := .type "list", dict := none, data := .seq ([] : List Value).toArray } := by rw [← hs3]; exact Heap.get?_push_size _ rfl
  have I3 : Inv X pins σ (upd H2 s2.heap.objs.size (.lst [])) { s2 with heap := g3 } := I2.laid (t' := s2.toks) up3 (Nat.le_refl _) ⟨by simp, [], 0, .nil, gD⟩
  have keep4 : ∀ b o, g3.get? b = some o → h₁.get? b = some o := fun b o e => (hsb₁.2 b (Nat.ne_of_lt (Heap.lt_size e))).trans (Heap.get?_push_of_some _ e)
  have hCn : (upd H2 s2.heap.objs.size (.lst [])) g3.objs.size = none := I3.hok.fresh (Nat.le_refl _)
  have fpD : ∀ b ∈ fp, b ≠ s2.heap.objs.size := fun b hb z => by
    obtain ⟨o, e, _⟩ := T.obj 0 _ st2 b hb
    exact absurd (Heap.lt_size e) (by rw [z]; exact Nat.lt_irrefl _)
  have fpC : ∀ b ∈ fp, b ≠ g3.objs.size := fun b hb z => by
    obtain ⟨o, e, _⟩ := T.obj 0 _ st2 b hb
    exact absurd (Heap.lt_size (up3 b o e)) (by rw [z]; exact Nat.lt_irrefl _)
  have fpN : ∀ b ∈ fp, (upd H2 s2.heap.objs.size (.lst [])) b = none := fun b hb => by rw [al (fpD b hb)]; exact (f2 b hb).1
  have Ok : (cF X (xs ++ fr) scope cl g3.objs.size { s2 with heap := g3 } (upd H2 s2.heap.objs.size (.lst [])) fp (X.pn ++ pins)).Ok := by
    refine ⟨I.ok.mod, S.kind, I.ok.glob, I.ok.blt, Nat.le_refl _, fun y z c e1 e2 => I.ok.inj y z c (S.sub e1) (S.sub e2), fun y hy => ?_, (fun y c z => nomatch z), I.ok.hd, I.ok.frames, .inl rfl, fun b hb => ⟨fpC b hb, fun y c e => (f2 b hb).2.2.2.2.1 y c (S.sub e)⟩, I3.bs, Nat.le_trans I.ok.bsz I3.sz, fun b o e hb => ?_, fun b hb z => ?_, I3.stack, I3.stkFree⟩
    · have hy' : y ∈ fr := S.only y hy
      obtain ⟨c, e⟩ := I.ok.has y (S.kinds y hy')
      exact ⟨c, (S.cell hy').trans e⟩
    · rcases (f2 b hb).2.2.2.1 with q | q
      · exact I.ok.noex b o e q
      · exact absurd (Heap.lt_size e) (Nat.not_lt.mpr (Nat.le_trans I.ok.bsz q))
    · rcases List.mem_cons.mp (I3.stkSub b z) with q | q
      · exact (f2 b hb).2.1 q
      · exact (f2 b hb).2.2.1 q
  have I4 : Inv (cF X (xs ++ fr) scope cl g3.objs.size { s2 with heap := g3 } (upd H2 s2.heap.objs.size (.lst [])) fp (X.pn ++ pins)) [] ((xs.map fun _ => none) ++ ks.map fun k => (σ[k]?).join) (upd H2 s2.heap.objs.size (.lst [])) { s2 with heap := h₁, toks := s2.toks + ([] : List (Str × Value)).length } := by
    refine ⟨Ok, rfl, I3.bare, Un.kept keep4, ⟨_, hns₁, fun i y v e1 e2 e3 => ?_⟩, fun y c e => ?_, hCn, fun y c e => I3.freeC y c (S.sub e), fun p hp => ?_, I3.hok.kept keep4, ?_⟩
    · have e1' : (xs ++ fr)[i]? = some y := e1
      by_cases hix : i < xs.length
      · rw [List.getElem?_append_left (by simpa using hix)] at e2
        simp [hix] at e2
      · obtain ⟨i, rfl⟩ : ∃ i', i = xs.length + i' := ⟨i - xs.length, by omega⟩
        rw [List.getElem?_append_right (by omega)] at e1'
        rw [List.getElem?_append_right (by simp)] at e2
        have e1' : fr[i]? = some y := by simpa using e1'
        have e2 : (ks.map fun k => (σ[k]?).join)[i]? = some (some v) := by simpa using e2
        have hy : y ∈ fr := List.mem_of_getElem? e1'
        have ek : (ks.map (fun k => X.N[k]?))[i]? = (fr.map some)[i]? := by rw [hks]
        rw [List.getElem?_map, List.getElem?_map, e1'] at ek
        have e2' := e2
        rw [List.getElem?_map] at e2'
        cases hk : ks[i]? with
        | none => rw [hk] at ek; cases ek
        | some k =>
          rw [hk] at ek e2'
          have ek' : X.N[k]? = some y := by simpa using ek
          have e2'' : (σ[k]?).join = some v := by simpa using e2'
          have es : σ[k]? = some (some v) := by
            cases q : σ[k]? with
            | none => rw [q] at e2''; cases e2''
            | some z => rw [q] at e2''; rw [show z = some v from e2'']
          obtain ⟨m, hn, hl⟩ := I3.loc
          have hkd := S.kinds y hy
          obtain ⟨u, r, lk⟩ := hl k y v ek' es (by rcases hkd with q | q; exact .inr (.inl q); exact .inr (.inr q))
          refine ⟨u, r, .inr ⟨S.kin y hy, ?_⟩⟩
          rcases lk with ⟨q, _⟩ | ⟨_, c, ec, hcell⟩
          · rcases hkd with z | z <;> (rw [q] at z; cases z)
          · obtain ⟨o, ho, hd⟩ := hcell
            exact ⟨c, (S.cell hy).trans ec, o, keep4 _ _ ho, hd⟩
    · obtain ⟨v, o, ho, hd⟩ := I3.cell y c (S.sub e)
      exact ⟨v, o, keep4 _ _ ho, hd⟩
    · have hp' : p ∈ X.pn ++ pins := by simpa [cF] using hp
      obtain ⟨a1, a2, a3, a4, a5⟩ := I3.pin p hp'
      refine ⟨keep4 _ _ a1, a2, Nat.ne_of_lt (Heap.lt_size a1), fun z => ?_, a5⟩
      rcases List.mem_cons.mp (I3.stkSub p.1 z) with q | q
      · exact a3 q
      · exact a4 q
    · show ((xs.map fun _ => none) ++ ks.map _).length = (xs ++ fr).length
      have := congrArg List.length hks
      simp at this
      simp [this]
  have st4 : tn 0 h₁ := T.keep 0 _ _ st2 fun b hb o e => keep4 _ _ (up3 _ _ e)
  have stat : ∀ {H' : Hp}, (∀ b ∈ fp, H' b = none) → ∀ b ∈ fp, ou (cF X (xs ++ fr) scope cl g3.objs.size { s2 with heap := g3 } (upd H2 s2.heap.objs.size (.lst [])) fp (X.pn ++ pins)) [] H' b := fun hn b hb =>
    ⟨hn b hb, fpC b hb, Ok.exfs b hb, .inl hb, fun y c e => (f2 b hb).2.2.2.2.1 y c (S.sub e), fun p hp => (f2 b hb).2.2.2.2.2 p (by simpa [cF] using hp)⟩
  have loop : codeAny (model X.prog X.w) X.A (.compLoop (.ListComp elt [⟨tg, iter, ifs, 0⟩] scope pos) 0 (.ref it) (.ref s2.heap.objs.size) (compEnvC scope cl g3.objs.size X.env))
      (compPost (model X.prog X.w) X.A X.xe use Qp (.ref s2.heap.objs.size) g3.objs.size) { s2 with heap := h₁, toks := s2.toks + ([] : List (Str × Value)).length } := by
    refine pP (fun n s' => ∃ i ys σ' H', Inv (cF X (xs ++ fr) scope cl g3.objs.size { s2 with heap := g3 } (upd H2 s2.heap.objs.size (.lst [])) fp (X.pn ++ pins)) [] σ' H' s' ∧ (∃ zs, zs.length = xs.length ∧ σ' = zs ++ ks.map fun k => (σ[k]?).join) ∧ tn i s'.heap ∧ (∀ b ∈ fp, H' b = none) ∧ W i n ys H') ?_ m0
      ⟨0, [], _, _, I4, ⟨xs.map fun _ => none, by simp, rfl⟩, st4, fpN, w0⟩
    rintro n s' ⟨i, ys, σ', H', I5, ⟨zs, hzs, rfl⟩, st5, fr5, w5⟩
    obtain ⟨hD, hor⟩ := turn i n ys H' w5
    rcases hor with ⟨stop, qn⟩ | ⟨go, step⟩
    · refine wpAny_mono (T.done (cF X (xs ++ fr) scope cl g3.objs.size { s2 with heap := g3 } (upd H2 s2.heap.objs.size (.lst [])) fp (X.pn ++ pins)) rfl rfl rfl hc i [] s' _ H' (fun _ _ => False) I5 (stat fr5) st5 stop) (fun r s6 ⟨hr, I6⟩ => ?_) (fun _ _ f => f.elim)
      subst hr
      obtain ⟨mC, hnC, _⟩ := I6.loc
      have tr : ∀ b o, b ≠ g3.objs.size → s6.heap.get? b = some o → s6.heap.get? b = some o := fun b o hb e => e
      have U := I6.base
      have neC : ∀ b o, g3.get? b = some o → b ≠ g3.objs.size := fun b o e => Nat.ne_of_lt (Heap.lt_size e)
      have U' : Un (frs X.stack) fp (upd H2 s2.heap.objs.size (.lst [])) H' g3 s6.heap := ⟨fun b o q n hb hx => tr b o (neC b o q) (U.keep b o q n hb hx), fun b o q n hb hx => let ⟨sl, e⟩ := U.slot b o q n hb hx; ⟨sl, tr _ _ (neC b o q) e⟩, U.free, fun b o q hx => let ⟨o', e⟩ := U.there b o q hx; ⟨o', tr _ _ (neC b o q) e⟩, U.tups, U.frzs, U.tbls⟩
      have ok' : HOk X.prog X.w H' s6.heap := fun a o e => (I6.hok a o e).stay (fun b u hb q => tr b u (fun z => by
          have fC : H' g3.objs.size = none := I6.free
          rcases hb with r | r
          · rw [← z, r, e] at fC; cases fC
          · rw [← z, r] at fC; cases fC) q) (fun _ q => q) fun _ _ q => q
      have J6 : Inv X pins σ H' s6 := I3.call' (s' := s6) (ch := fp) I6.os U' ok' I6.bare fun b hb => ⟨(f2 b hb).2.2.2.1, (f2 b hb).2.1, (f2 b hb).2.2.2.2.1, (f2 b hb).2.2.2.2.2⟩
      exact hend s2.heap.objs.size g3.objs.size H' s6 mC _ J6 (I3.fpOk (Nat.le_refl _) I6.free) hnC qn
    · refine wpAny_mono (T.item (cF X (xs ++ fr) scope cl g3.objs.size { s2 with heap := g3 } (upd H2 s2.heap.objs.size (.lst [])) fp (X.pn ++ pins)) rfl rfl rfl hc i [] s' _ H' (fun _ _ => False) I5 (stat fr5) st5 go) (fun r s6 ⟨u, hr, h6⟩ => ?_) (fun _ _ f => f.elim)
      subst hr
      refine wpAny_mono h6 (fun _ s7 ⟨xv, H7, I7, r7, y7, st7, fr7⟩ => ?_) (fun _ _ f => f.elim)
      have I7' := I7.pinned (stat fr7) (T.obj _ _ st7)
      have pinsTo : ∀ {σ9 : St} {H9 : Hp} {s9 : Shared}, Inv (cF X (xs ++ fr) scope cl g3.objs.size { s2 with heap := g3 } (upd H2 s2.heap.objs.size (.lst [])) fp (X.pn ++ pins)) ([] ++ nq fp s7.heap) σ9 H9 s9 → tn (i + 1) s9.heap ∧ ∀ b ∈ fp, H9 b = none := fun {σ9 H9 s9} I9 =>
        ⟨T.keep _ _ _ st7 fun b hb o e => (I9.pin (b, o) (List.mem_append_right _ (List.mem_append_right _ (fU hb e)))).1, fun b hb => by
          obtain ⟨o, e, d⟩ := T.obj _ _ st7 b hb
          exact (I9.pin (b, o) (List.mem_append_right _ (List.mem_append_right _ (fU hb e)))).2.1⟩
      refine wpAny_mono (hg _ _ _ _ _ _ s7 _ H7 xv u _ I7' r7 (step xv H7 y7 zs hzs)) (fun _ s8 ⟨σ8, H8, I8, ⟨zs4, hz4, e8⟩, q8⟩ => ?_) (fun _ _ f => f.elim)
      subst e8
      refine wpAny_mono (ht _ _ _ _ _ _ s8 _ H8 _ I8 q8) (fun ok s9 ⟨H9, I9, q9⟩ => ?_) (fun _ _ f => f.elim)
      cases ok with
      | false =>
        rw [if_neg Bool.false_ne_true] at q9 ⊢
        obtain ⟨m', hm, w9⟩ := q9
        obtain ⟨t9, f9⟩ := pinsTo I9
        exact ⟨m', hm, i + 1, ys, _, H9, I9.unpinned, ⟨zs4, hz4, rfl⟩, t9, f9, w9⟩
      | true =>
        rw [if_pos rfl] at q9 ⊢
        refine wpAny_mono (he _ _ _ _ _ _ s9 _ H9 _ I9 q9) (fun yv s10 ⟨y, H10, I10, r10, hD10, hlen, m', hm, w10⟩ => ?_) (fun _ _ f => f.elim)
        refine wpAny_mono (bV (X := cF X (xs ++ fr) scope cl g3.objs.size { s2 with heap := g3 } (upd H2 s2.heap.objs.size (.lst [])) fp (X.pn ++ pins)) _ s10 _ H10 (.ref s2.heap.objs.size) [y] (.ref s2.heap.objs.size) [yv]
          (fun _ H' => H' = upd H10 s2.heap.objs.size (.lst (ys ++ [y]))) I10 rfl (.cons r10 .nil) ⟨_, ys, y, rfl, rfl, hD10, hlen, rfl⟩) (fun _ s11 ⟨_, H11, I11, _, e11⟩ => ?_) (fun _ _ f => f.elim)
        subst e11
        obtain ⟨t11, f11⟩ := pinsTo I11
        exact ⟨m', hm, i + 1, ys ++ [y], _, _, I11.unpinned, ⟨zs4, hz4, rfl⟩, t11, f11, w10⟩
  exact codeAny_compStart_list loop (T.self X.A 0 _ _ _ st4 loop)
theorem d_ {X : Cx} {elt iter : Expr} {x : Str} {xs : List Str} {tg : Expr} {g : TG} {pos : Pos} {ifs : List Expr} {scope : Scope} {cl : List (Str × Addr)} {fr : List Str} {ks : List Nat} {wi : TI} {tt : TT} {te : TE} (hc : X.calm = true) (S : CompScope X scope cl x fr)
    (hks : ks.map (fun k => X.N[k]?) = fr.map some) (hi : PI X tg iter wi) (hg : ∀ C s₂ H₂ ex pn, PG (cF X (xs ++ fr) scope cl C s₂ H₂ ex pn) tg g)
    (ht : ∀ C s₂ H₂ ex pn, PTs (cF X (xs ++ fr) scope cl C s₂ H₂ ex pn) ifs tt) (he : ∀ C s₂ H₂ ex pn, PE (cF X (xs ++ fr) scope cl C s₂ H₂ ex pn) elt te)
    (hs : ∀ x, foldedSetIterable iter X.env x = pure x := by intro _; rfl) : PE X (.ListComp elt [⟨tg, iter, ifs, 0⟩] scope pos) (fZ wi xs.length g ks tt te) := by
  intro pins s σ H Q I h
  rw [eval_ListComp]
  refine oO hc S hks hi hg ht he hs I h none _ fun D C H' s' mC f J fp hn q => ⟨mC, hn, fun h' sb => ?_⟩
  obtain ⟨f0, f1, f2, f3, f4, f5⟩ := fp
  exact ⟨.ref D, H', J.turned (t' := s'.toks) (fun b o hb e => (sb.2 b hb).trans e) f0 f1 f3 f4 f5, rfl, q⟩
theorem rz {i0 : Nat} {x0 : Str} {px0 pos0 : Pos} {X : Cx} {elt iter : Expr} {x : Str} {xs : List Str} {tg : Expr} {g : TG} {pos : Pos} {ifs : List Expr} {scope : Scope} {cl : List (Str × Addr)} {fr : List Str} {ks : List Nat} {wi : TI} {tt : TT} {te : TE} (hN : X.N.Nodup) (hi0 : X.N[i0]? = some x0) (hx0 : Loc X.env.scope x0) (hc : X.calm = true) (S : CompScope X scope cl x fr)
    (hks : ks.map (fun k => X.N[k]?) = fr.map some) (hi : PI X tg iter wi) (hg : ∀ C s₂ H₂ ex pn, PG (cF X (xs ++ fr) scope cl C s₂ H₂ ex pn) tg g)
    (ht : ∀ C s₂ H₂ ex pn, PTs (cF X (xs ++ fr) scope cl C s₂ H₂ ex pn) ifs tt) (he : ∀ C s₂ H₂ ex pn, PE (cF X (xs ++ fr) scope cl C s₂ H₂ ex pn) elt te)
    (hs : ∀ x, foldedSetIterable iter X.env x = pure x := by intro _; rfl)
    (hsw : swapsWith (.ListComp elt [⟨tg, iter, ifs, 0⟩] scope pos) (some (.Name x0 px0)) pos0.line X.env = pure true := by rfl) (hf : X.fn x0 = true ∨ X.env.scope.names.lookup x0 = some .local := by first | exact .inl rfl | exact .inr rfl | assumption) :
    PS X (.Assign [.Name x0 px0] (.ListComp elt [⟨tg, iter, ifs, 0⟩] scope pos) pos0) (zI (fZ wi xs.length g ks tt te) (iN i0)) := by
  intro pins s σ H D I h
  rw [exec_Assign_Name_used _ _ _ _ hsw]
  refine wpAny_bind (wpAny_standAt (wpAny_bind (wpAny_bind ?_)))
  refine oO hc S hks hi hg ht he hs I h (some (assign (.Name x0 px0) X.env)) _ fun D' C H' s' mC f J fp hn q => ?_
  obtain ⟨f0, f1, f2, f3, f4, f5⟩ := fp
  refine wpAny_assign_Name (oF J hN hi0 hx0 (v := .ref D') rfl (fun s7 I7 ⟨a, sb, ha⟩ => ?_) hf)
  have hCa : C ≠ a := by
    rcases ha with e | e
    · rw [e]; exact f1
    · exact fun z => f4 _ _ e z.symm
  refine ⟨mC, hn.sameBut sb hCa, fun h' sb2 => ?_⟩
  have J2 := I7.turned (t' := s7.toks) (fun b o hb e => (sb2.2 b hb).trans e) f0 f1 f3 f4 f5
  exact wpAny_pure (wpAny_pure ⟨_, H', J2, q⟩)
end L2
set_option Elab.async false
set_option linter.all false
set_option maxRecDepth 100000
namespace L2
open PySem PySem.Spec PyProof.Rows Builtin Builtin.Str
section
variable {prog : Program} {w : World} {A : Around} {E : Value → Shared → Prop} {s : Shared} {t : Addr}
theorem vy {xs : Array (Int × Tok)} {Q : Value → Shared → Prop} (hh : A.handled = none) (ht : s.heap.IsList t (intItems xs))
    (h : ∀ h' tk t', (∀ b o, s.heap.get? b = some o → h'.get? b = some o) → Q (.int (preSum (numAt xs) xs.size) t') { s with heap := h', toks := tk }) :
    wpAny (model prog w) A (call (.builtin "sum") [.ref t]) Q E s := by
  obtain ⟨o, ho, hc, n, hd⟩ := id ht
  have hne : t ≠ s.heap.objs.size := Nat.ne_of_lt (Heap.lt_size ho)
  have hsz : (intItems xs).size = xs.size := by simp [intItems]
  have W := (Walks.list (prog := prog) (w := w) (A := A.in1) hh s.heap.objs.size t hne (intItems xs)).toS
  rw [hsz] at W
  refine call_sum_walkAnyS (wpAny_pyIter_list ht ?_)
  refine ⟨s.heap.objs.size, _, _, _, _, _, _, numAt xs, rfl, W, ⟨⟨_, Heap.get?_push_size _ rfl, rfl, rfl⟩, ht.at fun o e => Heap.get?_push_of_some _ e⟩, fun b hb => ?_, fun i v hP => intItems_at hP, fun s' t' hm => ?_⟩
  · rcases List.mem_cons.mp hb with rfl | hb
    · exact Heap.lt_size (Heap.get?_push_size _ rfl)
    · obtain rfl := List.mem_singleton.mp hb
      exact Heap.lt_size (Heap.get?_push_of_some _ ho)
  · obtain ⟨h', g', d', tk', os'⟩ := s'
    have e1 : g' = s.gens := hm.gens
    have e2 : d' = s.drawn := hm.drawn
    have e3 : os' = s.os := hm.os
    subst e1 e2 e3
    exact h h' tk' t' fun b o e => hm.heap b o (fun hb => absurd (Heap.lt_size e) ((List.mem_singleton.mp hb) ▸ Nat.lt_irrefl _)) (Heap.get?_push_of_some _ e)
end
section
variable {X : Cx} {e a b c : Expr} {pos : Pos}
def BE (K : PySem.W.Frag) : List V → Hp → VK → Prop
  | [.ref p], H, Q => ∃ ns : List Int, (SqL K H p (ns.map V.int) ∨ SqT K H p (ns.map V.int)) ∧ Q (.int ns.sum) H
  | _, _, _ => False
theorem mi (K : PySem.W.Frag) (hc : X.calm = true) (hK : X.K = K := by rfl) : CallR X (.builtin "sum") (BE K) := by
  subst hK
  intro pins s σ H xs us Q I r h
  unfold BE at h
  split at h
  · rename_i p
    obtain ⟨ns, hq, q⟩ := h
    rcases hq with hq | hq
    · obtain ⟨u, rfl, rx⟩ := eh r
      cases (show u = Value.ref p from rx)
      obtain ⟨its, r', pl, hz⟩ := I.list hq
      have hi := mo r'
      obtain ⟨ys, hy⟩ := hi.allInts.items
      have hn : numsOf its.toArray.toList = ns := by rw [show its.toArray.toList = its from rfl, hi.numsOf]
      have pl' := pl.isList
      rw [hy] at pl' hn
      rw [nums_intItems] at hn
      refine vy (I.ok.hd hc) pl' fun h' tk t' hk => ?_
      rw [preSum_eq, List.take_of_length_le (by simp), hn]
      exact ⟨.int ns.sum, H, I.kept hk, ⟨_, rfl⟩, q⟩
    · exact qE hc pins s σ H _ us Q I r ⟨p, ns, rfl, hq, q⟩
  · exact h.elim
def Bz (K : PySem.W.Frag) (neg : Bool) : R2
  | x, .ref p, H, Q => ∃ xs, (SqL K H p xs ∨ SqT K H p xs) ∧ dP x = true ∧ xs.all dP = true ∧ Q (.bl (neg ^^ inV x xs)) H
  | _, _, _, _ => False
theorem oQ (K : PySem.W.Frag) (hK : X.K = K := by rfl) : OpR X (compareOp .NotIn) (Bz K true) := by
  subst hK
  refine qq.imp fun x y H Q h => ?_
  unfold Bz at h
  split at h
  · obtain ⟨xs, h1, h2, h3, q⟩ := h
    exact ⟨_, xs, rfl, h1, h2, h3, by simpa using q⟩
  · exact h.elim
section
variable {T name id : String} {r : V → List V → Hp → VK → Prop} {o : Expr} {to : TE} {apos cpos : Pos}
theorem zw (K : PySem.W.Frag) (pa : PlainAttrs T) (slot : Slot T name id) (hty : typeOf (.builtin id) = pure (.type "method_descriptor")) (hm : MtR X id r) (ho : PE X o to) (hK : X.K = K := by rfl)
    (hbase : attributeBase o name X.env (eval o X.env) = eval o X.env := by rfl) (hline : (apos.endLine == cpos.line) = true := by rfl) : PE X (.Call (.Attribute o name apos) [] [] cpos) (AI K T r to) := by
  subst hK; exact A9 pa slot hty hm ho hbase hline
end
end
end L2
namespace L2
theorem hZ {l : List PySem.Str} (h : l.Nodup) : l.Nodup := h
end L2
namespace L2
def sp5 (f : V → V → V → V → V → Hp → VK → XK → Prop) : Sp := fun vs H Q E => match vs with
  | [x, y, z, u, v] => f x y z u v H Q E
  | _ => False
theorem sp5.inv {vs : List V} {H : Hp} {Q : VK} {E : XK} {f} (h : sp5 f vs H Q E) : ∃ x y z u v, vs = [x, y, z, u, v] ∧ f x y z u v H Q E := by
  unfold sp5 at h; split at h
  · exact ⟨_, _, _, _, _, rfl, h⟩
  · exact h.elim
theorem sp5.len {vs : List V} {H : Hp} {Q : VK} {E : XK} {f} (h : sp5 f vs H Q E) : vs.length = 5 := by obtain ⟨_, _, _, _, _, rfl, _⟩ := sp5.inv h; rfl
theorem ku {n : PySem.Str} {v : V} {l : List (PySem.Str × V)} : List.lookup n ((n, v) :: l) = some v := by simp [List.lookup]
theorem bB {n m : PySem.Str} {v : V} {l : List (PySem.Str × V)} (h : (n == m) = false) : List.lookup n ((m, v) :: l) = List.lookup n l := by simp [List.lookup, h]
end L2
set_option Elab.async false
set_option linter.all false
set_option maxRecDepth 100000
set_option maxHeartbeats 1000000
namespace L2
open PySem PySem.Spec PyProof.Rows
structure CU (k : Nat) (A : Around) : Prop where
  dp : A.depth + 3 * k + 5 < recursionLimit
  un : A.units + 16 * k + 200 < cLine
section
variable {X : Cx} {CX : CXT} {k : Nat} {f : Addr} {fd : FuncData} {ps : List Str} {sp : Sp} {dvs : List V} {ds : List Value} {E : XKs} {x : Str} {p pos : Pos} {e : Expr} {es : List Expr} {t : TA}
end
end L2
set_option Elab.async false
set_option linter.all false
set_option maxRecDepth 100000
set_option maxHeartbeats 1000000
namespace L2
open PySem PySem.Spec PyProof.Rows
section
variable {X : Cx} {tg : Expr}
end
end L2
namespace L2
theorem ex1 {α : Type} {us : List α} (hl : us.length = 1) : ∃ a0, us = [a0] := by
  match us, hl with
  | [a0], _ => exact ⟨a0, rfl⟩
theorem ex2 {α : Type} {us : List α} (hl : us.length = 2) : ∃ a0 a1, us = [a0, a1] := by
  match us, hl with
  | [a0, a1], _ => exact ⟨a0, a1, rfl⟩
theorem ex3 {α : Type} {us : List α} (hl : us.length = 3) : ∃ a0 a1 a2, us = [a0, a1, a2] := by
  match us, hl with
  | [a0, a1, a2], _ => exact ⟨a0, a1, a2, rfl⟩
theorem ex4 {α : Type} {us : List α} (hl : us.length = 4) : ∃ a0 a1 a2 a3, us = [a0, a1, a2, a3] := by
  match us, hl with
  | [a0, a1, a2, a3], _ => exact ⟨a0, a1, a2, a3, rfl⟩
theorem ex5 {α : Type} {us : List α} (hl : us.length = 5) : ∃ a0 a1 a2 a3 a4, us = [a0, a1, a2, a3, a4] := by
  match us, hl with
  | [a0, a1, a2, a3, a4], _ => exact ⟨a0, a1, a2, a3, a4, rfl⟩
theorem ex6 {α : Type} {us : List α} (hl : us.length = 6) : ∃ a0 a1 a2 a3 a4 a5, us = [a0, a1, a2, a3, a4, a5] := by
  match us, hl with
  | [a0, a1, a2, a3, a4, a5], _ => exact ⟨a0, a1, a2, a3, a4, a5, rfl⟩
end L2
set_option Elab.async false
set_option linter.all false
namespace L2
open Lean Meta Simp
def Bs : List Name := [`L2.tB, `L2.tC, `L2.tOp, `L2.tUn, `L2.gEqN, `L2.uU, `L2.xm, `L2.xB, `L2.fOr, `L2.zc, `L2.wV, `L2.fPickT, `L2.B7, `L2.B6, `L2.A_, `L2.tRetN, `L2.zR, `L2.zV, `L2.zI, `L2.iN, `L2.tIf, `L2.Cn, `L2.tOr, `L2.B0, `L2.j7, `L2.qS, `L2.tCB, `L2.xl, `L2.BM, `L2.BR, `L2.B4, `L2.z_, `L2.tIsB, `L2.zO, `L2.uw, `L2.tSl, `L2.cs, `L2.Ai, `L2.CMul, `L2.A6, `L2.w8, `L2.BP, `L2.gcE, `L2.BX, `L2.tGc, `L2.tBM, `L2.zP, `L2.fJoinRev, `L2.CDivB, `L2.uP, `L2.BF, `L2.zN, `L2.B3, `L2.gSub, `L2.rSetL, `L2.zL, `L2.zU, `L2.tf, `L2.ua, `L2.tDGet1, `L2.tDGet2, `L2.Ac, `L2.AI, `L2.xf]
def Bb : List Name := [`L2.Bm, `L2.gI, `L2.gIC, `L2.AF, `L2.gLe, `L2.gLt, `L2.eqS, `L2.kB, `L2.Cw, `L2.Bi, `L2.AW, `L2.yM, `L2.ui, `L2.gInt, `L2.gIx, `L2.sp0, `L2.sp1, `L2.sp2, `L2.sp3, `L2.sp4, `L2.asI, `L2.asT, `L2.asB, `L2.asR, `L2.tyV, `L2.gSt, `L2.gEn, `L2.gZf, `L2.gStr, `L2.wZ, `L2.gIn, `L2.gSl, `L2.Cz, `L2.gMulS, `L2.AO, `L2.gRep, `L2.gRepT, `L2.gIsiT, `L2.yi, `L2.tJ, `L2.AJ, `L2.Bu, `L2.Ay, `L2.xg, `L2.uT, `L2.BE, `L2.gMulT]
def rdI := And.intro @L2.yG (And.intro @L2.CF (And.intro @L2.V.bl.injEq (And.intro @L2.V.str.injEq (And.intro @L2.vF (And.intro @L2.Cc (And.intro @L2.Bx (And.intro @L2.A8 (And.intro @L2.AL (And.intro @L2.A0 (And.intro @L2.lV (And.intro @L2.rd (And.intro @L2.tm (And.intro @L2.tF (And.intro @L2.rN (And.intro @L2.qd (And.intro @L2.rp (And.intro @L2.zJ (And.intro @L2.kQ (And.intro @L2.px (And.intro @L2.q_ (And.intro @L2.si (And.intro @L2.qG (And.intro @L2.nK (And.intro @L2.pk (And.intro @L2.Au (And.intro @L2.lS (And.intro @L2.rZ (And.intro @L2.uj (And.intro @L2.tV (And.intro @L2.rX (And.intro @L2.qf (And.intro @L2.rA (And.intro @L2.zt (And.intro @L2.kC (And.intro @L2.qF (And.intro @L2.rO (And.intro @L2.sM (And.intro @L2.qz (And.intro @L2.n_ (And.intro @L2.pY (And.intro @L2.yo (And.intro @L2.jX (And.intro @L2.nX (And.intro @L2.qi (And.intro @L2.qe (And.intro @L2.oa (And.intro @L2.mH (And.intro @L2.ow (And.intro @L2.yT (And.intro @L2.kz (And.intro @L2.pB (And.intro @L2.sk (And.intro @L2.sy (And.intro @L2.qo (And.intro @L2.ox (And.intro @L2.pr (And.intro @L2.Co (And.intro @L2.AU (And.intro @L2.Al (And.intro @L2.AD (And.intro @L2.yR (And.intro @L2.Ar (And.intro @L2.zh (And.intro @L2.yJ (And.intro @L2.yF (And.intro @L2.zl (And.intro @L2.BB (And.intro @L2.zG (And.intro @L2.y_ (And.intro @L2.zp (And.intro @true_and (And.intro @and_true (And.intro @and_self (And.intro @true_or (And.intro @or_true (And.intro @decide_eq_true_eq (And.intro @Bool.true_eq_false (And.intro @Bool.false_xor (And.intro @Bool.true_xor (And.intro @Bool.not_true (And.intro @Bool.not_false (And.intro @Bool.false_eq_true (And.intro @Bool.not_eq_true' (And.intro @decide_eq_false_iff_not @Classical.not_not))))))))))))))))))))))))))))))))))))))))))))))))))))))))))))))))))))))))))))))))))))
end L2
set_option Elab.async false
set_option linter.all false
set_option maxRecDepth 100000
namespace L2
namespace Srt
open PySem PyProof.Rows
def kv (κ : Keyed → Int) (xs : Array Keyed) (i : Nat) : Int := (xs[i]?.map κ).getD 0
def Up (κ : Keyed → Int) (xs : Array Keyed) (k : Nat) : Prop := ∀ i j, i ≤ j → j < k → kv κ xs i ≤ kv κ xs j
def Dn (κ : Keyed → Int) (xs : Array Keyed) (k : Nat) : Prop := ∀ i j, i ≤ j → j < k → kv κ xs j ≤ kv κ xs i
structure SB (kd : SortKind) (z : Array Keyed) (t : SortSt) : Prop where
  pm : (arrOf t).Perm z
  kn : kindOf t = kd
  fl : failedOf t = none
  pn : pendingOf t = #[]
theorem SB.sz {kd : SortKind} {z : Array Keyed} {t : SortSt} (b : SB kd z t) : (arrOf t).size = z.size := b.pm.size_eq
theorem SB.put {kd : SortKind} {z : Array Keyed} {t : SortSt} {xs : Array Keyed} (b : SB kd z t) (p : xs.Perm (arrOf t)) : SB kd z (setArr t xs) :=
  ⟨p.trans b.pm, b.kn, b.fl, b.pn⟩
theorem o4 {κ : Keyed → Int} {xs : Array Keyed} {i : Nat} (h : i < xs.size) : kv κ xs i = κ xs[i] := by
  unfold kv; rw [Array.getElem?_eq_getElem h]; rfl
theorem uA {κ : Keyed → Int} {xs ys : Array Keyed} {i j : Nat} (h : xs[i]? = ys[j]?) : kv κ xs i = kv κ ys j := by unfold kv; rw [h]
theorem wt {κ : Keyed → Int} {xs : Array Keyed} {u d : Nat} (hs : u < xs.size) (hd : d ≤ u) (k : Nat) :
    kv κ (bubble xs u d) k = if k = u - d then kv κ xs u else if u - d < k ∧ k ≤ u then kv κ xs (k - 1) else kv κ xs k := by
  have e := getElem?_bubble hs d hd k
  by_cases h1 : k = u - d
  · rw [if_pos h1] at e ⊢
    exact uA e
  · rw [if_neg h1] at e ⊢
    by_cases h2 : u - d < k ∧ k ≤ u
    · rw [if_pos h2] at e ⊢
      exact uA e
    · rw [if_neg h2] at e ⊢
      exact uA e
theorem w4 {κ : Keyed → Int} {xs : Array Keyed} {n : Nat} (hj : n ≤ xs.size) {k : Nat} (hk : k < n) :
    kv κ (mirror xs 0 n ((n - 0) / 2)) k = kv κ xs (n - 1 - k) := by
  have e := getElem?_mirror_all (i := 0) hj k
  rw [if_pos ⟨Nat.zero_le _, hk⟩, Nat.zero_add] at e
  exact uA e
section
variable {prog : Program} {w : World} {A : Around} {E : Value → Shared → Prop} {s : Shared} {z : Array Keyed} {κ : Keyed → Int} {kd : SortKind} {t : SortSt}
def Lts (prog : Program) (w : World) (A : Around) (s : Shared) (kd : SortKind) (κ : Keyed → Int) (z : Array Keyed) : Prop :=
  ∀ (E : Value → Shared → Prop) (p q : Keyed) (Q : Bool → Shared → Prop), p ∈ z.toList → q ∈ z.toList → Q (decide (κ p < κ q)) s → wpAny (model prog w) A (keyLt' kd p.1 q.1) Q E s
theorem SB.mem (b : SB kd z t) {i : Nat} (h : i < (arrOf t).size) : (arrOf t)[i] ∈ z.toList :=
  (Array.perm_iff_toList_perm.mp b.pm).mem_iff.mp (by simp)
theorem rf {i j : Nat} {Q : Option Bool → SortSt → Prop} (L : Lts prog w A s kd κ z) (b : SB kd z t) (hi : i < z.size) (hj : j < z.size)
    (h : Q (some (decide (kv κ (arrOf t) i < kv κ (arrOf t) j))) t) : wpS (model prog w) A E s (ltAt' i j) Q t := by
  have i' : i < (arrOf t).size := b.sz ▸ hi
  have j' : j < (arrOf t).size := b.sz ▸ hj
  rw [o4 i', o4 j'] at h
  rw [ltAt'_eq]
  refine wpS_bind (wpS_get ?_)
  show wpS (model prog w) A E s (elem' (arrOf t) i >>= fun p => elem' (arrOf t) j >>= fun q => lt' p q) Q t
  rw [elem'_eq, elem'_eq, Array.getElem?_eq_getElem i', Array.getElem?_eq_getElem j']
  refine wpS_bind (wpS_pure (wpS_bind (wpS_pure ?_)))
  rw [lt'_eq]
  refine wpS_bind (wpS_get ?_)
  rw [b.kn]
  exact wpS_bind (wpS_lift (wpAny_attempt (L _ _ _ _ (b.mem i') (b.mem j') ⟨rfl, wpS_pure h⟩)))
def pd (κ : Keyed → Int) (z : Array Keyed) : Prop := (z.toList.map κ).Nodup
theorem apart (b : SB kd z t) (D : pd κ z) {i j : Nat} (hj : j < z.size) (h : i < j) : kv κ (arrOf t) i ≠ kv κ (arrOf t) j := by
  have j' : j < (arrOf t).size := b.sz ▸ hj
  have i' : i < (arrOf t).size := Nat.lt_trans h j'
  have d : ((arrOf t).toList.map κ).Nodup := ((Array.perm_iff_toList_perm.mp b.pm).map κ).nodup_iff.mpr D
  rw [o4 i', o4 j']
  intro e
  have := List.pairwise_iff_getElem.mp d i j (by simpa using i') (by simpa using j') h
  simp at this
  exact this e
theorem zK {xs : Array Keyed} {n : Nat} (u : Up κ xs n) (h : n = 0 ∨ kv κ xs (n - 1) ≤ kv κ xs n) : Up κ xs (n + 1) := by
  intro i j a c
  by_cases e : j < n
  · exact u i j a e
  · have : j = n := by omega
    subst this
    by_cases e2 : i = j
    · subst e2; exact Int.le_refl _
    · exact Int.le_trans (u i (j - 1) (by omega) (by omega)) (h.resolve_left (by omega))
theorem um {xs : Array Keyed} {n : Nat} (u : Dn κ xs n) (h : n = 0 ∨ kv κ xs n ≤ kv κ xs (n - 1)) : Dn κ xs (n + 1) := by
  intro i j a c
  by_cases e : j < n
  · exact u i j a e
  · have : j = n := by omega
    subst this
    by_cases e2 : i = j
    · subst e2; exact Int.le_refl _
    · exact Int.le_trans (h.resolve_left (by omega)) (u i (j - 1) (by omega) (by omega))
theorem asc {a r : Nat} {Q : AscSt → SortSt → Prop} (L : Lts prog w A s kd κ z) (hr : r ≤ z.size) (ha : 1 ≤ a) (har : a ≤ r) (b : SB kd z t) (u : Up κ (arrOf t) a)
    (h : ∀ n, a ≤ n → n ≤ r → Up κ (arrOf t) n → (n = r ∨ kv κ (arrOf t) n < kv κ (arrOf t) (n - 1)) → Q (none, n) t) : wpS (model prog w) A E s (ascLoop a r) Q t := by
  unfold ascLoop
  refine wpS_forRange (fun x c t' => t' = t ∧ c = (none, x) ∧ Up κ (arrOf t) x) ?_ ?_ ⟨rfl, rfl, u⟩
  · rintro x c t' x1 x2 ⟨rfl, rfl, u'⟩
    refine wpS_bind (rf L b (by omega) (by omega) ?_)
    by_cases l : kv κ (arrOf t') x < kv κ (arrOf t') (x - 1)
    · simp only [decide_eq_true l, if_true]
      exact wpS_pure (h x x1 (by omega) u' (.inr l))
    · simp only [decide_eq_false l, Bool.false_eq_true, if_false]
      exact wpS_pure ⟨rfl, rfl, zK u' (.inr (by omega))⟩
  · rintro c t' ⟨rfl, rfl, u'⟩
    rw [Nat.max_eq_right har] at u' ⊢
    exact h r har (Nat.le_refl _) u' (.inl rfl)
theorem t3 {n r : Nat} {Q : Option Nat → SortSt → Prop} (L : Lts prog w A s kd κ z) (hr : r ≤ z.size) (h1 : 1 ≤ n) (hn : n ≤ r) (b : SB kd z t) (u : Dn κ (arrOf t) n)
    (h : ∀ m t', SB kd z t' → 1 ≤ m → m ≤ r → Up κ (arrOf t') m → Q (some m) t') : wpS (model prog w) A E s (tail3 n r) Q t := by
  unfold tail3
  refine wpS_bind (wpS_reverse ?_)
  have b' := b.put (mirror_perm (arrOf t) 0 n ((n - 0) / 2))
  refine wpS_bind (asc L hr h1 hn b' ?_ fun m m1 m2 u' _ => wpS_pure (h m _ b' (by omega) m2 u'))
  intro i j a c
  have g : n ≤ (arrOf t).size := by rw [b.sz]; omega
  show kv κ (mirror (arrOf t) 0 n ((n - 0) / 2)) i ≤ kv κ (mirror (arrOf t) 0 n ((n - 0) / 2)) j
  rw [w4 g (by omega), w4 g c]
  exact u _ _ (by omega) (by omega)
theorem CK {n r : Nat} {Q : DescSt → SortSt → Prop} (L : Lts prog w A s kd κ z) (D : pd κ z) (hr : r ≤ z.size) (h1 : 1 ≤ n) (hn : n ≤ r) (b : SB kd z t) (u : Dn κ (arrOf t) n)
    (h : ∀ m, n ≤ m → m ≤ r → Dn κ (arrOf t) m → Q (none, m, 0) t) : wpS (model prog w) A E s (descLoop n r) Q t := by
  unfold descLoop
  refine wpS_forRange (fun x c t' => t' = t ∧ c = (none, x, 0) ∧ Dn κ (arrOf t) x) ?_ ?_ ⟨rfl, rfl, u⟩
  · rintro x c t' x1 x2 ⟨rfl, rfl, u'⟩
    dsimp only
    refine wpS_bind (rf L b (by omega) (by omega) ?_)
    by_cases l : kv κ (arrOf t') x < kv κ (arrOf t') (x - 1)
    · simp only [decide_eq_true l, if_true]
      rw [if_neg (Nat.lt_irrefl 0)]
      exact wpS_pure ⟨rfl, rfl, um u' (.inr (Int.le_of_lt l))⟩
    · simp only [decide_eq_false l, Bool.false_eq_true, if_false]
      refine wpS_bind (rf L b (by omega) (by omega) ?_)
      have d := apart b D (i := x - 1) (j := x) (by omega) (by omega)
      simp only [decide_eq_true (show kv κ (arrOf t') (x - 1) < kv κ (arrOf t') x by omega), if_true]
      exact wpS_pure (h x x1 (by omega) u')
  · rintro c t' ⟨rfl, rfl, u'⟩
    rw [Nat.max_eq_right hn] at u' ⊢
    exact h r hn (Nat.le_refl _) u'
theorem count {r : Nat} {Q : Option Nat → SortSt → Prop} (L : Lts prog w A s kd κ z) (D : pd κ z) (hr : r ≤ z.size) (h1 : 1 ≤ r) (b : SB kd z t)
    (h : ∀ m t', SB kd z t' → 1 ≤ m → m ≤ r → Up κ (arrOf t') m → Q (some m) t') : wpS (model prog w) A E s (countRun' 0 r) Q t := by
  rw [countRun0_eq]
  refine wpS_bind (asc L hr (Nat.le_refl 1) h1 b (fun i j a c => by have : i = j := (by omega); subst this; exact Int.le_refl _) fun n n1 n2 u o => ?_)
  dsimp only
  by_cases e : n = r
  · rw [if_pos (by simpa using e)]
    exact wpS_pure (h n t b n1 n2 u)
  rw [if_neg (by simpa using e)]
  by_cases g : n > 1
  · rw [if_pos g]
    refine wpS_bind (rf L b (by omega) (by omega) ?_)
    have d := apart b D (i := 0) (j := n - 1) (by omega) (by omega)
    have l := u 0 (n - 1) (by omega) (by omega)
    simp only [decide_eq_true (show kv κ (arrOf t) 0 < kv κ (arrOf t) (n - 1) by omega), if_true]
    exact wpS_pure (h n t b n1 n2 u)
  · rw [if_neg g]
    have : n = 1 := by omega
    subst this
    unfold descPart
    refine wpS_bind (wpS_lift (wpAny_rule ⟨rfl, ?_⟩))
    refine wpS_bind (CK L D hr (by omega) (by omega) b ?_ fun m m1 m2 u' => ?_)
    · refine um (fun i j a c => by have : i = j := (by omega); subst this; exact Int.le_refl _) (.inr ?_)
      have := o.resolve_left e
      omega
    · dsimp only
      rw [if_neg (Nat.lt_irrefl 0)]
      exact t3 L hr (by omega) m2 b u' h
theorem Az {n k₀ : Nat} {Q : Bool → SortSt → Prop} (L : Lts prog w A s kd κ z) (hn : n ≤ z.size) (hk : k₀ ≤ n) (h0 : 1 ≤ k₀) (b : SB kd z t) (u : Up κ (arrOf t) k₀)
    (h : ∀ t', SB kd z t' → Up κ (arrOf t') n → Q true t') : wpS (model prog w) A E s (binarySort' 0 n k₀) Q t := by
  rw [binarySort'_eq]
  simp only [Nat.zero_add]
  rw [Nat.max_eq_left h0]
  refine wpS_bind (wpS_mono (wpS_forRange (fun k c t' => c = (none, ()) ∧ SB kd z t' ∧ Up κ (arrOf t') k) (Q := fun c t' => c = (none, ()) ∧ SB kd z t' ∧ Up κ (arrOf t') n) ?_ ?_ ⟨rfl, b, u⟩) ?_)
  · rintro k c t' k1 k2 ⟨rfl, b', u'⟩
    refine wpS_bind (wpS_mono (wpS_forRange (fun x c t2 => t2 = t' ∧ ∃ l r, c = (none, l, r) ∧ l ≤ r ∧ r ≤ k ∧ r - l ≤ k - x ∧
        (∀ i, i < l → kv κ (arrOf t') i ≤ kv κ (arrOf t') k) ∧ ∀ i, r ≤ i → i < k → kv κ (arrOf t') k ≤ kv κ (arrOf t') i)
      (Q := fun c t2 => t2 = t' ∧ ∃ l r, c = (none, l, r) ∧ l ≤ k ∧ (∀ i, i < l → kv κ (arrOf t') i ≤ kv κ (arrOf t') k) ∧ ∀ i, l ≤ i → i < k → kv κ (arrOf t') k ≤ kv κ (arrOf t') i) ?_ ?_
        ⟨rfl, 0, k, rfl, Nat.zero_le _, Nat.le_refl _, Nat.le_refl _, fun i q => absurd q (Nat.not_lt_zero _), fun i q q' => absurd q' (Nat.not_lt.mpr q)⟩) ?_)
    · rintro x c t2 _ x2 ⟨rfl, l, r, rfl, lr, rk, m, lo, hi⟩
      dsimp only
      by_cases g : l ≥ r
      · rw [if_pos g]
        have : l = r := by omega
        subst this
        exact wpS_pure ⟨rfl, l, l, rfl, rk, lo, hi⟩
      rw [if_neg g]
      refine wpS_bind (rf L b' (by omega) (by omega) ?_)
      by_cases q : kv κ (arrOf t2) k < kv κ (arrOf t2) ((l + r) / 2)
      · simp only [decide_eq_true q, if_true]
        exact wpS_pure ⟨rfl, l, (l + r) / 2, rfl, by omega, by omega, by omega, lo, fun i a c => Int.le_trans (Int.le_of_lt q) (u' _ _ a c)⟩
      · simp only [decide_eq_false q, Bool.false_eq_true, if_false]
        exact wpS_pure ⟨rfl, (l + r) / 2 + 1, r, rfl, by omega, by omega, by omega, fun i a => Int.le_trans (u' i ((l + r) / 2) (by omega) (by omega)) (by omega), hi⟩
    · rintro c t2 ⟨rfl, l, r, rfl, lr, rk, m, lo, hi⟩
      have : l = r := by omega
      subst this
      exact ⟨rfl, l, l, rfl, rk, lo, hi⟩
    · rintro c t2 ⟨rfl, l, r, rfl, lk, lo, hi⟩
      show wpS (model prog w) A E s (moveDown' k l >>= fun _ => pure (ForInStep.yield (none, ()))) _ t2
      rw [moveDown'_eq]
      refine wpS_bind (wpS_modify (wpS_pure ⟨rfl, b'.put (bubble_perm _ _ _), ?_⟩))
      have g : k < (arrOf t2).size := by rw [b'.sz]; omega
      intro i j a c
      show kv κ (bubble (arrOf t2) k (k - l)) i ≤ kv κ (bubble (arrOf t2) k (k - l)) j
      rw [wt g (by omega), wt g (by omega), Nat.sub_sub_self lk]
      by_cases e1 : i = l
      · rw [if_pos e1]
        by_cases e2 : j = l
        · rw [if_pos e2]; exact Int.le_refl _
        · rw [if_neg e2, if_pos (by omega)]; exact hi _ (by omega) (by omega)
      · rw [if_neg e1]
        by_cases e3 : l < i ∧ i ≤ k
        · rw [if_pos e3, if_neg (by omega), if_pos (by omega)]; exact u' _ _ (by omega) (by omega)
        · rw [if_neg e3]
          by_cases e2 : j = l
          · rw [if_pos e2]; exact lo _ (by omega)
          · rw [if_neg e2]
            by_cases e4 : l < j ∧ j ≤ k
            · rw [if_pos e4]; exact u' _ _ (by omega) (by omega)
            · rw [if_neg e4]; exact u' _ _ a (by omega)
  · rintro c t' ⟨e, b', u'⟩
    rw [Nat.max_eq_right hk] at u'
    exact ⟨e, b', u'⟩
  · rintro c t' ⟨rfl, b', u'⟩
    exact wpS_pure (h t' b' u')
theorem CB {Q : Unit → SortSt → Prop} (L : Lts prog w A s kd κ z) (D : pd κ z) (b : SB kd z t) (h2 : 2 ≤ z.size) (h64 : z.size < 64)
    (h : ∀ t', (arrOf t').Perm z → failedOf t' = none → Up κ (arrOf t') z.size → Q () t') : wpS (model prog w) A E s sortRuns' Q t := by
  rw [sortRuns'_eq]
  refine wpS_bind (wpS_get ?_)
  dsimp only
  have mr : minRun' z.size z.size 0 = z.size := by
    obtain ⟨f, e⟩ : ∃ f, z.size = f + 1 := ⟨z.size - 1, by omega⟩
    rw [e, minRun'_succ, if_pos (by omega), Nat.add_zero]
  simp only [b.sz, mr]
  refine wpS_bind (wpS_mono (wpS_forRange
    (fun x c t' => (x = 0 ∧ c = (none, 0) ∧ SB kd z t') ∨ (1 ≤ x ∧ c = (none, z.size) ∧ (arrOf t').Perm z ∧ failedOf t' = none ∧ pendingOf t' = #[(0, z.size, 0)] ∧ Up κ (arrOf t') z.size))
    (Q := fun c t' => c = (none, z.size) ∧ (arrOf t').Perm z ∧ failedOf t' = none ∧ pendingOf t' = #[(0, z.size, 0)] ∧ Up κ (arrOf t') z.size) ?_ ?_ (.inl ⟨rfl, rfl, b⟩)) ?_)
  · rintro x c t' _ x2 (⟨rfl, rfl, b'⟩ | ⟨x1, rfl, d⟩)
    · dsimp only
      rw [if_neg (by omega)]
      simp only [Nat.sub_zero, Nat.min_self, Nat.zero_add]
      refine wpS_bind (count L D (Nat.le_refl _) (by omega) b' fun m t2 b2 m1 m2 u2 => ?_)
      dsimp only
      by_cases g : m < z.size
      · rw [if_pos g]
        refine wpS_bind (wpS_lift (wpAny_rule ⟨rfl, ?_⟩))
        refine wpS_bind (Az L (Nat.le_refl _) m2 m1 b2 u2 fun t3 b3 u3 => ?_)
        simp only [Bool.not_true, Bool.false_eq_true, if_false]
        refine wpS_bind (wpS_get ?_)
        rw [show (pendingOf t3).back? = none by rw [b3.pn]; rfl]
        exact wpS_bind (wpS_modify (wpS_pure (.inr ⟨by omega, rfl, b3.pm, b3.fl, by show (pendingOf t3).push _ = _; rw [b3.pn]; rfl, u3⟩)))
      · rw [if_neg g]
        have : m = z.size := by omega
        subst this
        refine wpS_bind (wpS_get ?_)
        rw [show (pendingOf t2).back? = none by rw [b2.pn]; rfl]
        exact wpS_bind (wpS_modify (wpS_pure (.inr ⟨by omega, rfl, b2.pm, b2.fl, by show (pendingOf t2).push _ = _; rw [b2.pn]; rfl, u2⟩)))
    · dsimp only
      rw [if_pos (Nat.le_refl _)]
      exact wpS_pure ⟨rfl, d⟩
  · rintro c t' (⟨x, _, _⟩ | ⟨_, e, d⟩)
    · omega
    · exact ⟨e, d⟩
  · rintro c t' ⟨rfl, p1, p2, p3, p4⟩
    dsimp only
    refine wpS_bind (wpS_mono (wpS_forRange (fun _ c t2 => t2 = t' ∧ c = (none, ())) (Q := fun c t2 => t2 = t' ∧ c = (none, ())) ?_ (fun _ _ q => q) ⟨rfl, rfl⟩) ?_)
    · rintro x c t2 _ _ ⟨rfl, rfl⟩
      refine wpS_bind (wpS_get ?_)
      rw [if_pos (by rw [p3]; exact Nat.le_refl 1)]
      exact wpS_pure ⟨rfl, rfl⟩
    · rintro c t2 ⟨rfl, rfl⟩
      exact wpS_pure (h _ p1 p2 p4)
end
section
variable {prog : Program} {w : World} {A : Around} {E : Value → Shared → Prop} {s : Shared}
structure Cmp (prog : Program) (w : World) (h : Heap) (os : OsState) (kd : SortKind) (κ : Value → Int) (vs : List Value) : Prop where
  kind : ∀ (A : Around) (E : Value → Shared → Prop) (s : Shared) (Q : SortKind → Shared → Prop), s.heap = h → Q kd s → wpAny (model prog w) A (keyKind' vs.toArray) Q E s
  lt : ∀ (A : Around) (E : Value → Shared → Prop) (s : Shared) (p q : Value) (Q : Bool → Shared → Prop), s.heap = h → p ∈ vs → q ∈ vs → Q (decide (κ p < κ q)) s → wpAny (model prog w) A (keyLt' kd p q) Q E s
theorem kK {vs : List Value} {p : Keyed} (h : p ∈ (vs.toArray.zip vs.toArray).toList) : p.1 ∈ vs ∧ p.2 = p.1 := by
  rw [Array.toList_zip] at h
  simp at h
  rw [List.zip_eq_zipWith, List.zipWith_self] at h
  obtain ⟨a, ha, e⟩ := List.mem_map.mp h
  subst e
  exact ⟨ha, rfl⟩
theorem oK (vs : List Value) : (vs.toArray.zip vs.toArray).toList.map (·.1) = vs := by
  rw [Array.toList_zip]
  exact List.map_fst_zip (Nat.le_refl _)
theorem yH {a : Addr} {vs : List Value} {n : Nat} {kd : SortKind} {κ : Value → Int} {P : Fin → Shared → Prop} (ho : s.heap.get? a = some (seqObj "list" vs.toArray n)) (h64 : vs.length < 64) (hd : (vs.map κ).Nodup)
    (hC : 2 ≤ vs.length → Cmp prog w (((s.heap.update a (Obj.mapSeq fun _ => #[])).push (seqObj "tuple" vs.toArray 0)).push (seqObj "list" #[] 0)) s.os kd κ vs)
    (h : ∀ out : List Value, out.Perm vs → out.Pairwise (fun x y => κ x < κ y) → P (.done (.ret .none)) { s with heap := sortedHeap s.heap a vs out.toArray }) :
    wpAny (model prog w) A (Builtin.«list.sort» ⟨[.ref a], []⟩) P E s := by
  rw [list_sort_plain]
  have la : a < s.heap.objs.size := Heap.lt_size ho
  refine wpAny_bind (listItems_at ho rfl (wpAny_bind (listUpdate_at ho rfl ?_ (hsz := by rw [List.size_toArray, sizeLine_eq]; omega))))
  obtain ⟨e1, ho1⟩ : ∃ e, (s.heap.update a (Obj.mapSeq fun _ => #[])).get? a = some (seqObj "list" #[] e) := ⟨_, get?_update_seq ho fun _ => #[]⟩
  refine wpAny_bind (seqEpoch_at ho1 rfl (wpAny_bind (wpAny_newTuple (wpAny_bind (wpAny_newList (wpAny_holding ?_))) (by show vs.length ≤ _; rw [sizeLine_eq]; omega))))
  have ho3 : (((s.heap.update a (Obj.mapSeq fun _ => #[])).push (seqObj "tuple" vs.toArray 0)).push (seqObj "list" #[] 0)).get? a = some (seqObj "list" #[] e1) :=
    Heap.get?_push_of_some _ (Heap.get?_push_of_some _ ho1)
  show wpAny (model prog w) A _ P E { s with heap := ((s.heap.update a (Obj.mapSeq fun _ => #[])).push (seqObj "tuple" vs.toArray 0)).push (seqObj "list" #[] 0) }
  dsimp only
  have fin : ∀ t : SortSt, (arrOf t).Perm (vs.toArray.zip vs.toArray) → failedOf t = none → Up (fun p => κ p.1) (arrOf t) (vs.toArray.zip vs.toArray).size →
      (((arrOf t).map (·.2)).toList.Perm vs ∧ ((arrOf t).map (·.2)).toList.Pairwise fun x y => κ x < κ y) := fun t pm _ u => by
    have pl := Array.perm_iff_toList_perm.mp pm
    have e2 : ((arrOf t).map (·.2)).toList = (arrOf t).toList.map (·.1) := by
      rw [Array.toList_map]
      exact List.map_congr_left fun p hp => (kK (pl.mem_iff.mp hp)).2
    have p1 : ((arrOf t).map (·.2)).toList.Perm vs := by
      rw [e2]
      have := pl.map (·.1)
      rwa [oK] at this
    refine ⟨p1, ?_⟩
    have nd : (((arrOf t).map (·.2)).toList.map κ).Nodup := (p1.map κ).nodup_iff.mpr hd
    rw [e2] at nd ⊢
    have sz : (arrOf t).size = (vs.toArray.zip vs.toArray).size := pm.size_eq
    refine List.pairwise_iff_getElem.mpr fun i j hi hj hij => ?_
    have hi' : i < (arrOf t).size := by simpa using hi
    have hj' : j < (arrOf t).size := by simpa using hj
    have l := u i j (Nat.le_of_lt hij) (by omega)
    rw [o4 hi', o4 hj'] at l
    have d := List.pairwise_iff_getElem.mp nd i j (by simpa using hi) (by simpa using hj) hij
    simp at d l ⊢
    omega
  by_cases c2 : vs.toArray.size < 2
  · rw [if_pos c2, if_pos c2]
    refine wpAny_bind (wpAny_pure ?_)
    rw [StateT.run_pure]
    refine wpAny_bind (wpAny_pure ?_)
    dsimp only
    refine wpAny_bind (seqEpoch_at ho3 rfl ?_)
    obtain ⟨f1, f2⟩ := fin (SortSt.mk' general' (vs.toArray.zip vs.toArray) #[] 7 none) (Array.Perm.refl _) rfl fun i j hij hj => by
      have : i = j := by simp at hj c2; omega
      subst this; exact Int.le_refl _
    have sz2 : ((vs.toArray.zip vs.toArray).map (·.2)).size ≤ sizeLine + 1 := by simp; rw [sizeLine_eq]; omega
    refine wpAny_bind (listUpdate_at ho3 rfl ?_ (hsz := by rw [sizeLine_eq]; decide) (hsz2 := sz2))
    simp only [bne_self_eq_false, Bool.false_eq_true, if_false]
    exact wpAny_pure (h _ f1 f2)
  · rw [if_neg c2, if_neg c2]
    have C := hC (by simp at c2; omega)
    refine wpAny_bind (C.kind _ _ _ _ rfl ?_)
    have zs : (vs.toArray.zip vs.toArray).size = vs.length := by simp
    have L : Lts prog w A { s with heap := ((s.heap.update a (Obj.mapSeq fun _ => #[])).push (seqObj "tuple" vs.toArray 0)).push (seqObj "list" #[] 0) } kd (fun p => κ p.1) (vs.toArray.zip vs.toArray) :=
      fun E p q Q hp hq k => C.lt _ _ _ _ _ _ rfl (kK hp).1 (kK hq).1 k
    have D : pd (fun p => κ p.1) (vs.toArray.zip vs.toArray) := by
      unfold pd
      rw [show (vs.toArray.zip vs.toArray).toList.map (fun p => κ p.1) = ((vs.toArray.zip vs.toArray).toList.map (·.1)).map κ by rw [List.map_map]; rfl, oK]
      exact hd
    refine wpAny_bind (wpAny_mono (CB (z := vs.toArray.zip vs.toArray) (t := SortSt.mk' kd (vs.toArray.zip vs.toArray) #[] 7 none) (Q := fun _ t' => (arrOf t').Perm (vs.toArray.zip vs.toArray) ∧ failedOf t' = none ∧ Up (fun p => κ p.1) (arrOf t') (vs.toArray.zip vs.toArray).size)
      L D ⟨Array.Perm.refl _, rfl, rfl, rfl⟩ (by rw [zs]; simp at c2; omega) (by omega) fun t' a1 a2 a3 => ⟨a1, a2, a3⟩) ?_ fun _ _ e => e)
    rintro ⟨⟨⟩, t'⟩ s' ⟨rfl, a1, a2, a3⟩
    dsimp only
    refine wpAny_bind (seqEpoch_at ho3 rfl ?_)
    obtain ⟨f1, f2⟩ := fin t' a1 a2 a3
    have sz2 : ((arrOf t').map (·.2)).size ≤ sizeLine + 1 := by
      have := f1.length_eq
      rw [Array.length_toList] at this
      rw [this, sizeLine_eq]; omega
    refine wpAny_bind (listUpdate_at ho3 rfl ?_ (hsz := by rw [sizeLine_eq]; decide) (hsz2 := sz2))
    rw [a2]
    simp only [bne_self_eq_false, Bool.false_eq_true, if_false]
    exact wpAny_pure (h _ f1 f2)
theorem sorted_by {l : Addr} {vs : List Value} {kd : SortKind} {κ : Value → Int} {Q : Value → Shared → Prop} (hl : s.heap.IsList l vs.toArray) (h64 : vs.length < 64) (hd : (vs.map κ).Nodup)
    (hC : 2 ≤ vs.length → ∀ h', (∀ b o, s.heap.get? b = some o → h'.get? b = some o) → Cmp prog w h' s.os kd κ vs)
    (h : ∀ (out : List Value) (h' : Heap) (c : Nat), out.Perm vs → out.Pairwise (fun x y => κ x < κ y) → (∀ b o, s.heap.get? b = some o → h'.get? b = some o) →
      h'.get? (s.heap.objs.size + 1) = some (seqObj "list" out.toArray c) → Q (.ref (s.heap.objs.size + 1)) { s with heap := h' }) :
    wpAny (model prog w) A (call (.builtin "sorted") [.ref l]) Q E s := by
  refine Calls.call_function_entry kind_sorted plain_sorted entry_sorted (args_sorted1 _) ?_
  unfold Builtin.«sorted»
  refine wpAny_bind (m := checkCount "sorted" 1 1 _) (wpAny_pure (wpAny_bind (collect_list hl (wpAny_bind (wpAny_newList ?_ (by rw [sizeLine_eq]; omega))) (by rw [sizeLine_eq]; omega))))
  have z : ((s.heap.push (seqObj "list" #[] 0)).update s.heap.objs.size (Obj.mapSeq (· ++ vs.toArray))).objs.size = s.heap.objs.size + 1 := (Heap.size_update ..).trans (size_push' _ _)
  have kp : ∀ b o, s.heap.get? b = some o → (((s.heap.push (seqObj "list" #[] 0)).update s.heap.objs.size (Obj.mapSeq (· ++ vs.toArray))).push (seqObj "list" vs.toArray 0)).get? b = some o := fun b o e => by
    have lt : b < s.heap.objs.size := Heap.lt_size e
    refine Heap.get?_push_of_some _ ?_
    rw [Heap.get?_update_ne _ _ _ _ (Nat.ne_of_lt lt)]
    exact Heap.get?_push_of_some _ e
  have at1 : (((s.heap.push (seqObj "list" #[] 0)).update s.heap.objs.size (Obj.mapSeq (· ++ vs.toArray))).push (seqObj "list" vs.toArray 0)).get? (s.heap.objs.size + 1) = some (seqObj "list" vs.toArray 0) := by
    rw [← z]; exact Heap.get?_push_size _ rfl
  show wpAny (model prog w) _ _ _ _ { s with heap := ((s.heap.push (seqObj "list" #[] 0)).update s.heap.objs.size (Obj.mapSeq (· ++ vs.toArray))).push (seqObj "list" vs.toArray 0) }
  rw [z]
  generalize hh : ((s.heap.push (seqObj "list" #[] 0)).update s.heap.objs.size (Obj.mapSeq (· ++ vs.toArray))).push (seqObj "list" vs.toArray 0) = h1 at at1 kp ⊢
  have kp2 : ∀ b o, s.heap.get? b = some o → (((h1.update (s.heap.objs.size + 1) (Obj.mapSeq fun _ => #[])).push (seqObj "tuple" vs.toArray 0)).push (seqObj "list" #[] 0)).get? b = some o := fun b o e => by
    have lt : b < s.heap.objs.size := Heap.lt_size e
    refine Heap.get?_push_of_some _ (Heap.get?_push_of_some _ ?_)
    rw [Heap.get?_update_ne _ _ _ _ (Nat.ne_of_lt (Nat.lt_succ_of_lt lt))]
    exact kp b o e
  refine wpAny_bind (wpAny_holding (wpAny_call_entry slot_list_sort ⟨_, at1, rfl⟩ entry_list_sort (yH (s := { s with heap := h1 }) at1 h64 hd (fun c => hC c _ kp2) fun out p1 p2 => ⟨_, rfl, ?_⟩) (args_list_sort _)))
  have at2 : (((h1.update (s.heap.objs.size + 1) (Obj.mapSeq fun _ => #[])).push (seqObj "tuple" vs.toArray 0)).push (seqObj "list" #[] 0)).get? (s.heap.objs.size + 1) = some (seqObj "list" #[] _) :=
    Heap.get?_push_of_some _ (Heap.get?_push_of_some _ (get?_update_seq at1 fun _ => #[]))
  refine wpAny_pure ⟨_, rfl, h out _ _ p1 p2 (fun b o e => ?_) (get?_update_seq at2 fun _ => out.toArray)⟩
  have lt : b < s.heap.objs.size := Heap.lt_size e
  show (Heap.update _ _ _).get? b = _
  rw [Heap.get?_update_ne _ _ _ _ (Nat.ne_of_lt (Nat.lt_succ_of_lt lt))]
  exact kp2 b o e
end
end Srt
end L2
set_option Elab.async false
set_option linter.all false
set_option maxRecDepth 100000
namespace L2
namespace Srt
open PySem PyProof.Rows
def Two (h : Heap) (p : Addr) (x y : Int) : Prop := ∃ (o : Obj) (t u : Tok) (n : Nat), h.get? p = some o ∧ o.cls = .type "tuple" ∧ o.data = .seq #[.int x t, .int y u] n
section
variable {prog : Program} {w : World} {A : Around} {E : Value → Shared → Prop} {s : Shared}
end
end Srt
end L2
set_option Elab.async false
set_option linter.all false
set_option maxRecDepth 100000
namespace L2
namespace Srt
open PySem PyProof.Rows
section
variable {prog : Program} {w : World} {A : Around} {E : Value → Shared → Prop} {R : Result → Shared → Prop} {s : Shared} {I S ax : Addr} {items : Array Value} {h₀ : Heap} {κ : Value → Int}
def Prs (h : Heap) (κ : Value → Int) (lo : Int) (v : Value) : Prop := ∃ p x y, v = .ref p ∧ Two h p x y ∧ κ v = x * 64 + y ∧ lo ≤ y ∧ y < lo + 64
end
end Srt
end L2
set_option Elab.async false
set_option linter.all false
set_option maxRecDepth 100000
namespace L2
open PySem PyProof.Rows
section
variable {X : Cx} {pins : List (Addr × Obj)} {σ : St} {H : Hp} {s : Shared}
abbrev Pr := Addr × Int × Int
abbrev cod (e : Pr) : Int := e.2.1 * 64 + e.2.2
def Ite (K : PySem.W.Frag) (a : Addr) : It :=
  ⟨fun i H => ∃ xs x, SqL K H a xs ∧ xs[i]? = some x, fun i H x H' => ∃ p y, H p = none ∧ x = .ref p ∧ H' = upd H p (.tup [.int i, y]) ∧ ∀ xs, SqL K H a xs → xs[i]? = some y, fun i H => ∃ xs, SqL K H a xs ∧ xs.length ≤ i⟩
theorem Inv.turned2 {h' : Heap} {t' : Nat} {e it : Addr} {oe oi : Obj} (I : Inv X pins σ H s) (ge : s.heap.get? e = some oe) (gi : s.heap.get? it = some oi) (ne : e ≠ it) (he : ∃ o, h'.get? e = some o ∧ o.isFreed = false) (hi : ∃ o, h'.get? it = some o ∧ o.isFreed = false)
    (k : ∀ b o, b ≠ e → b ≠ it → s.heap.get? b = some o → h'.get? b = some o) (fe : ou X pins H e) (fi : ou X pins H it) : ∃ h2 : Heap, h2.objs.size = s.heap.objs.size ∧ Inv X pins σ H { s with heap := h2, toks := t' } ∧ ∀ b o, h2.get? b = some o → h'.get? b = some o := by
  obtain ⟨o1, g1, z1⟩ := he
  obtain ⟨o2, g2, z2⟩ := hi
  refine ⟨(s.heap.update it fun _ => o2).update e fun _ => o1, by rw [Heap.size_update, Heap.size_update], ?_, ?_⟩
  · have I1 : Inv X pins σ H { s with heap := s.heap.update it fun _ => o2, toks := t' } := I.turned (fun b o hb q => (Heap.get?_update_other _ _ (Ne.symm hb)).trans q) fi.1 fi.2.1 fi.2.2.2.1 fi.2.2.2.2.1 fi.2.2.2.2.2
    exact I1.turned (t' := t') (fun b o hb q => (Heap.get?_update_other _ _ (Ne.symm hb)).trans q) fe.1 fe.2.1 fe.2.2.2.1 fe.2.2.2.2.1 fe.2.2.2.2.2
  · intro b o q
    by_cases b1 : b = e
    · subst b1
      have ge' : (s.heap.update it fun _ => o2).get? b = some oe := (Heap.get?_update_other _ _ (Ne.symm ne)).trans ge
      rw [Heap.get?_update_self _ ge' z1] at q
      cases q; exact g1
    · rw [Heap.get?_update_other _ _ (Ne.symm b1)] at q
      by_cases b2 : b = it
      · subst b2
        rw [Heap.get?_update_self _ gi z2] at q
        cases q; exact g2
      · rw [Heap.get?_update_other _ _ (Ne.symm b2)] at q
        exact k b o b1 b2 q
theorem vN {P : Program} {w : World} {K : PySem.W.Frag} {elts : List Expr} {cx : _} {pos : Pos} (a e it : Addr) (ne : e ≠ it) :
    rL P w K (.Tuple elts cx pos) (Ite K a) [e, it] e (fun i h => ∃ old, IsEnum h e it (i : Nat) old ∧ h.IsListIter it a i) where
  mem := by simp
  obj := fun i h st b hb => by
    obtain ⟨old, h1, o, h2, c, d⟩ := st
    rcases List.mem_cons.mp hb with rfl | hb
    · exact ⟨_, h1, fun v z => by
        have z' : Data.fields _ = Data.cell v := z
        cases z'⟩
    · have z := List.mem_singleton.mp hb
      subst z
      exact ⟨o, h2, fun v z => by rw [d] at z; cases z⟩
  keep := fun i h h' st k => by
    obtain ⟨old, h1, h2⟩ := st
    exact ⟨old, k e (by simp) _ h1, h2.at fun o q => k it (by simp) o q⟩
  item := by
    intro X hP hw hK hc i pins s σ H E I hf st hg
    subst hP hw hK
    obtain ⟨xs, x, hq, hx⟩ := hg
    obtain ⟨its, rv, p, hz⟩ := I.list hq
    obtain ⟨u, hu, ru⟩ := rv.get hx
    have fe := hf e (by simp)
    have fi := hf it (by simp)
    obtain ⟨old, h1, h2⟩ := st
    obtain ⟨oi, gi, ci, di⟩ := id h2
    refine wpAny_pyNext_enum_item h1 h2 p.isList (x := u) (by simpa using hu) ne fun h' e1 i1 t1 z1 k1 => ?_
    obtain ⟨oi', gi', ci', di'⟩ := id i1
    obtain ⟨h3, z3, I3, k3⟩ := I.turned2 (t' := s.toks + 1) (h' := h') h1 gi ne ⟨_, e1, rfl⟩ ⟨_, gi', Obj.isFreed_of_fields di'⟩ k1 fe fi
    have hn := I.hok.fresh (Nat.le_refl s.heap.objs.size)
    have I4 : Inv X pins σ (upd H s.heap.objs.size (.tup [.int i, x])) { s with heap := h', toks := s.toks + 1 } :=
      I3.laid (t' := s.toks + 1) k3 (Nat.le_of_eq z3) (show ObjOk X.prog X.w _ h' _ (.tup [.int i, x]) from ⟨by show 2 ≤ sizeLine; rw [sizeLine_eq]; decide, [.int i s.toks, u], .cons ⟨_, rfl⟩ (.cons ru .nil), ⟨_, t1, rfl, 0, rfl⟩⟩)
    have le : e < s.heap.objs.size := Heap.lt_size h1
    have li : it < s.heap.objs.size := Heap.lt_size gi
    have nH : ∀ b, b < s.heap.objs.size → upd H s.heap.objs.size (.tup [.int i, x]) b = H b := fun b l => al (Nat.ne_of_lt l)
    refine ⟨_, rfl, wpAny_letOwnedTupleGo_enum (s := { s with heap := h', toks := s.toks + 1 }) e1 fun h5 e5 s5 => ?_⟩
    have I5 : Inv X pins σ (upd H s.heap.objs.size (.tup [.int i, x])) { s with heap := h5, toks := s.toks + 1 } :=
      I4.turned (t' := s.toks + 1) (fun b o hb q => (s5.2 b hb).trans q) ((nH e le).trans fe.1) fe.2.1 fe.2.2.2.1 fe.2.2.2.2.1 fe.2.2.2.2.2
    refine ⟨.ref s.heap.objs.size, _, I5, rfl, ⟨_, x, hn, rfl, rfl, fun ys hy => by rw [I.list_inj hy hq]; exact hx⟩, ⟨u, e5, i1.at fun o q => (s5.2 it (Ne.symm ne)).trans q⟩, fun b hb => ?_⟩
    rcases List.mem_cons.mp hb with rfl | hb
    · exact (nH _ le).trans fe.1
    · rw [List.mem_singleton.mp hb]; exact (nH _ li).trans fi.1
  done := by
    intro X hP hw hK hc i pins s σ H E I hf st hg
    subst hP hw hK
    obtain ⟨xs, hq, hx⟩ := hg
    obtain ⟨its, rv, p, hz⟩ := I.list hq
    have fi := hf it (by simp)
    have hl := rv.length
    obtain ⟨old, h1, h2⟩ := st
    exact wpAny_pyNext_enum_end (I.ok.hd hc) h1 h2 p.isList (by simp; omega) fun h' eb => ⟨rfl, I.turned (t' := s.toks) (fun b o hb q => eb b o hb q) fi.1 fi.2.1 fi.2.2.2.1 fi.2.2.2.2.1 fi.2.2.2.2.2⟩
  self := fun _ _ _ _ _ ⟨_, st, _⟩ h => wpAny_pyIter_enum st h
def zS (K : PySem.W.Frag) (ta : TA) : TI := fun σ H R => ta σ H fun vs H1 => ∃ a, vs = [.ref a] ∧ (∃ xs, SqL K H1 a xs) ∧ R (Ite K a) H1
theorem yE {arg : Expr} {ta : TA} {p pos : Pos} {elts : List Expr} {cx : _} {tp : Pos} (K : PySem.W.Frag) (hg : Gl X "enumerate") (hm : X.mg "enumerate" = none) (ha : PA X [arg] ta) (hs : starEach [arg] X.env = [(false, eval arg X.env)] := by rfl) (hK : X.K = K := by rfl) :
    PI X (.Tuple elts cx tp) (.Call (.Name "enumerate" p) [arg] [] pos) (zS K ta) := by
  subst hK
  intro pins s σ H R I h
  refine Call_ (fW I hg hm PyProof.Rows.boot_enumerate (PyProof.Rows.callWith_type1 (thn (ha pos pins s σ H _ I h) fun us s1 ⟨vs, H1, I1, r1, q1⟩ => ?_) hs rfl))
  obtain ⟨a, e, ⟨xs, hq⟩, q⟩ := q1
  subst e
  obtain ⟨u, rfl, ru⟩ := eh r1
  cases (show u = Value.ref a from ru)
  obtain ⟨its, rv, pl, hz⟩ := I1.list hq
  refine call_enumerate_list pl.isList fun h' e1 i1 z1 k1 => wpAny_pyIter_enum (s := { s1 with heap := h' }) e1 ?_
  refine ⟨_, [s1.heap.objs.size + 1, s1.heap.objs.size], _, _, H1, rfl, I1.kept (t' := s1.toks) k1, vN a _ _ (Nat.succ_ne_self _), ⟨_, e1, i1⟩, fun b hb => ?_, q⟩
  rcases List.mem_cons.mp hb with rfl | hb
  · exact I1.fpOk (Nat.le_succ _) (I1.hok.fresh (Nat.le_succ _))
  · rw [List.mem_singleton.mp hb]; exact I1.fpOk (Nat.le_refl _) (I1.hok.fresh (Nat.le_refl _))
end
end L2
set_option Elab.async false
set_option linter.all false
set_option maxRecDepth 100000
namespace L2
open PySem PyProof.Rows
section
variable {X : Cx} {pins : List (Addr × Obj)} {σ : St} {H : Hp} {s : Shared}
end
section
variable {X : Cx} {tg : Expr}
end
open Lean Meta Simp
def yN : List Name := Bs ++ [`L2.BO, `L2.tDNotIn, `L2.Aa, `L2.tTryN]
def yQ : List Name := Bb ++ [`L2.gSortS, `L2.gSortD, `L2.gListD, `L2.gAny, `L2.Bz, `L2.Am]
end L2
set_option Elab.async false
set_option linter.all false
set_option maxRecDepth 100000
namespace L2
open PySem PyProof.Rows
theorem wI {l : List Nat} {c : Nat} (h : l ≠ []) (hc : c < 256) : Txt.count ⟨⟨l⟩⟩ ⟨#[c]⟩ = ((spN c l).length : Int) - 1 := by
  have e := congrArg List.length (qX l c)
  rw [List.length_map] at e
  have h1 : (decide ((⟨⟨l⟩⟩ : Str).length < (⟨#[c]⟩ : Str).length) || decide (Builtin.Str.strKind ⟨⟨l⟩⟩ < Builtin.Str.strKind ⟨#[c]⟩)) = false := by
    have a1 : ¬ (⟨⟨l⟩⟩ : Str).length < (⟨#[c]⟩ : Str).length := by
      have : 0 < l.length := List.length_pos_iff.mpr h
      show ¬ l.length < 1
      omega
    have a2 : Builtin.Str.strKind ⟨#[c]⟩ = 1 := by
      unfold Builtin.Str.strKind
      rw [if_pos (by simp [hc])]
    have a3 : ¬ Builtin.Str.strKind ⟨⟨l⟩⟩ < 1 := by
      unfold Builtin.Str.strKind
      split
      · decide
      · split <;> decide
    rw [a2, decide_eq_false a1, decide_eq_false a3]; rfl
  unfold Txt.split at e
  rw [if_neg (ne_true_of_eq_false h1)] at e
  unfold Txt.count
  by_cases hf : (Builtin.Str.occurrences ⟨⟨l⟩⟩ ⟨#[c]⟩ 0 (⟨⟨l⟩⟩ : Str).length ((⟨⟨l⟩⟩ : Str).length + 1)).isEmpty = true
  · rw [if_pos hf] at e
    rw [← e, List.isEmpty_iff.mp hf]; rfl
  · rw [if_neg hf, length_partsBetween] at e
    rw [← e]; omega
section
variable {X : Cx} {pins : List (Addr × Obj)} {σ : St} {H : Hp} {s : Shared}
def Bh : V → List V → Hp → VK → Prop
  | .str x, [.str y], H, Q => ∃ c, cs y = [c] ∧ c < 256 ∧ cs x ≠ [] ∧ Q (.int ((spN c (cs x)).length - 1)) H
  | _, _, _, _ => False
theorem xc : MtR X "str.count" Bh := by
  intro pins s σ H x xs v us Q I rx rs h
  unfold Bh at h
  split at h
  · rename_i x y
    obtain ⟨c, hc, h2, h0, q⟩ := h
    obtain ⟨t, rfl⟩ := rx
    obtain ⟨u, rfl, t', rfl⟩ := eh rs
    have hy := tM hc
    subst hy
    obtain ⟨⟨l⟩⟩ := x
    refine SC.count ⟨.int _, H, I.kept (t' := s.toks + 1) (fun b o e => e), ⟨_, rfl⟩, ?_⟩
    rw [wI (l := l) h0 h2]; exact q
  · exact h.elim
end
namespace Srt
def Three (h : Heap) (p : Addr) (x y z : Int) : Prop := ∃ (o : Obj) (t u r : Tok) (n : Nat), h.get? p = some o ∧ o.cls = .type "tuple" ∧ o.data = .seq #[.int x t, .int y u, .int z r] n
section
variable {prog : Program} {w : World} {A : Around} {E : Value → Shared → Prop} {s : Shared}
theorem three_inj {h : Heap} {p : Addr} {x y z x' y' z' : Int} (a : Three h p x y z) (b : Three h p x' y' z') : x = x' ∧ y = y' ∧ z = z' := by
  obtain ⟨o, t, u, r, n, ho, hc, hd⟩ := a
  obtain ⟨o', t', u', r', n', ho', hc', hd'⟩ := b
  rw [ho] at ho'; cases ho'
  rw [hd] at hd'
  injection hd' with q _
  have q2 := congrArg Array.toList q
  simp at q2
  exact ⟨q2.1.1, q2.2.1.1, q2.2.2.1⟩
theorem jB : ∀ (vs : List Value), (∀ v ∈ vs, ∃ p x y z, v = .ref p ∧ Three s.heap p x y z) → ∀ {Q : List (Option Value) → Shared → Prop}, (∀ fs ns, IntsAre fs ns → fs.length = vs.length → Q (fs.map some) s) →
    wpAny (model prog w) A (vs.mapM firstOfTuple') Q E s
  | [], _, Q, h => by rw [List.mapM_nil]; exact wpAny_pure (h [] [] .nil rfl)
  | v :: vs, hv, Q, h => by
    obtain ⟨p, x, y, z, rfl, o, t, u, r, n, ho, hc, hd⟩ := hv v (List.mem_cons_self ..)
    rw [List.mapM_cons]
    refine wpAny_bind ?_
    show wpAny _ _ (typeOf (.ref p) >>= _) _ _ s
    refine wpAny_bind (wpAny_typeOf (⟨o, ho, hc⟩ : s.TypeIs (.ref p) "tuple") ?_)
    rw [if_neg (by decide)]
    refine wpAny_bind (listItems_at ho hd (wpAny_pure ?_))
    show wpAny _ _ (vs.mapM firstOfTuple' >>= fun bs => pure (some (Value.int x t) :: bs)) Q E s
    exact wpAny_bind (jB vs (fun v hv' => hv v (List.mem_cons_of_mem _ hv')) fun fs ns hI hl => wpAny_pure (h (.int x t :: fs) (x :: ns) (.cons x t hI) (by simp [hl])))
theorem tL {vs : List Value} (hv : ∀ v ∈ vs, ∃ p x y z, v = .ref p ∧ Three s.heap p x y z) (h2 : 2 ≤ vs.length) {Q : SortKind → Shared → Prop} (h : Q (tuples' true) s) : wpAny (model prog w) A (keyKind' vs.toArray) Q E s := by
  rw [keyKind'_eq, List.mapM_toArray, map_eq_pure_bind]
  refine wpAny_bind (wpAny_bind (jB vs hv fun fs ns hI hl => wpAny_pure ?_))
  rw [if_pos (by simp)]
  refine wpAny_bind (wpAny_rule ?_)
  have e : (fs.map some).toArray.filterMap id = fs.toArray := by simp
  rw [e, oneTypeOnly'_eq, List.mapM_toArray, mapM_typeOf_ints hI]
  simp only [map_pure, pure_bind]
  have all : ((fs.map fun _ => Value.type "int").toArray.all fun x => x == Value.type "int") = true := by
    simp only [List.all_toArray, List.all_map, List.all_eq_true]
    exact fun _ _ => rfl
  have at0 : (fs.map fun _ => Value.type "int").toArray[0]? = some (Value.type "int") := by
    have : 0 < fs.length := by omega
    simp [this]
  rw [at0]
  simp only [all, if_true, pure_bind]
  exact wpAny_pure h
theorem wA {p q : Addr} {x y z x' y' z' : Int} {Q : Bool → Shared → Prop} (hp : Three s.heap p x y z) (hq : Three s.heap q x' y' z') (hz : x = x' → y = y' → z = z') (h : Q (decide (x < x' ∨ (x = x' ∧ y < y'))) s) :
    wpAny (model prog w) A (keyLt' (tuples' true) (.ref p) (.ref q)) Q E s := by
  obtain ⟨o, t, u, r, n, ho, hc, hd⟩ := hp
  obtain ⟨o', t', u', r', n', ho', hc', hd'⟩ := hq
  show wpAny _ _ (Builtin.List.listItems (.ref p) >>= fun xs => Builtin.List.listItems (.ref q) >>= fun ys => _) _ _ s
  refine wpAny_bind (listItems_at ho hd (wpAny_bind (listItems_at ho' hd' ?_)))
  show wpAny _ _ (forIn [((Value.int x t, Value.int x' t'), 0), ((Value.int y u, Value.int y' u'), 1), ((Value.int z r, Value.int z' r'), 2)] (none, ()) _ >>= _) _ _ s
  rw [List.forIn_cons]
  refine wpAny_bind (wpAny_bind (wpAny_bind (wpAny_eqBool_int ?_)))
  by_cases e : x = x'
  · subst e
    simp only [beq_self_eq_true, Bool.not_true, Bool.false_eq_true, if_false]
    refine wpAny_pure ?_
    simp only [List.forIn_cons]
    refine wpAny_bind (wpAny_bind (wpAny_eqBool_int ?_))
    by_cases e2 : y = y'
    · subst e2
      have e3 := hz rfl rfl
      subst e3
      simp only [beq_self_eq_true, Bool.not_true, Bool.false_eq_true, if_false]
      refine wpAny_pure ?_
      simp only [List.forIn_cons]
      refine wpAny_bind (wpAny_bind (wpAny_eqBool_int ?_))
      simp only [beq_self_eq_true, Bool.not_true, Bool.false_eq_true, if_false]
      refine wpAny_pure ?_
      simp only [List.forIn_nil]
      refine wpAny_pure (wpAny_pure ?_)
      rw [decide_eq_false (by omega)] at h
      exact h
    · simp only [beq_eq_false_iff_ne.mpr e2, Bool.not_false, if_true]
      refine wpAny_bind ?_
      show wpAny _ _ (oneLt' false (.int y u) (.int y' u')) _ _ s
      rw [oneLt'_eq]
      simp only [Bool.false_eq_true, if_false]
      refine wpAny_bind (lt_int (wpAny_truthy_bool (wpAny_pure (wpAny_pure (wpAny_pure ?_)))))
      rw [show decide (y < y') = decide (x < x ∨ (x = x ∧ y < y')) by by_cases c : y < y' <;> simp [c] <;> omega]
      exact h
  · simp only [beq_eq_false_iff_ne.mpr e, Bool.not_false, if_true]
    refine wpAny_bind ?_
    show wpAny _ _ (oneLt' true (.int x t) (.int x' t')) _ _ s
    refine oneLt_int (wpAny_pure (wpAny_pure (wpAny_pure ?_)))
    rw [show decide (x < x') = decide (x < x' ∨ (x = x' ∧ y < y')) by by_cases c : x < x' <;> simp [c] <;> omega]
    exact h
theorem cmp_three {h : Heap} {os : OsState} {vs : List Value} {κ : Value → Int} (h2 : 2 ≤ vs.length) (hv : ∀ v ∈ vs, ∃ p x y z, v = .ref p ∧ Three h p x y z ∧ κ v = x * 64 + y ∧ 0 ≤ y ∧ y < 64) (hi : ∀ u ∈ vs, ∀ v ∈ vs, κ u = κ v → u = v) : Cmp prog w h os (tuples' true) κ vs where
  kind A E s Q e q := by
    subst e
    exact tL (fun v m => let ⟨p, x, y, z, a, b, _⟩ := hv v m; ⟨p, x, y, z, a, b⟩) h2 q
  lt A E s u v Q e mu mv q := by
    subst e
    obtain ⟨p, x, y, z, rfl, b, k, l0, l1⟩ := hv u mu
    obtain ⟨p', x', y', z', rfl, b', k', l0', l1'⟩ := hv v mv
    refine wA b b' (fun e1 e2 => ?_) ?_
    · have := hi _ mu _ mv (by rw [k, k', e1, e2])
      cases this
      exact (three_inj b b').2.2
    rw [k, k'] at q
    rw [show decide (x < x' ∨ (x = x' ∧ y < y')) = decide (x * 64 + y < x' * 64 + y') by
      by_cases c : x * 64 + y < x' * 64 + y'
      · rw [decide_eq_true c, decide_eq_true (by omega)]
      · rw [decide_eq_false c, decide_eq_false (by omega)]]
    exact q
end
end Srt
section
variable {X : Cx} {pins : List (Addr × Obj)} {σ : St} {H : Hp} {s : Shared}
abbrev Tr := Addr × Int × Int × Int
def TrL (K : PySem.W.Frag) (H : Hp) (ps : List Tr) : Prop := ∀ e ∈ ps, SqT K H e.1 [.int e.2.1, .int e.2.2.1, .int e.2.2.2]
abbrev nP (e : Tr) : Int := e.2.1 * 64 + e.2.2.1
theorem Inv.three (I : Inv X pins σ H s) {p : Addr} {x y z : Int} (h : SqT X.K H p [.int x, .int y, .int z]) : Srt.Three s.heap p x y z := by
  obtain ⟨its, r, ⟨o, ho, hc, n, hd⟩, _⟩ := I.tuple h
  cases r with
  | cons r1 r =>
    cases r with
    | cons r2 r =>
      cases r with
      | cons r3 r =>
        cases r
        obtain ⟨t, rfl⟩ := r1
        obtain ⟨u, rfl⟩ := r2
        obtain ⟨r, rfl⟩ := r3
        exact ⟨o, t, u, r, n, ho, hc, hd⟩
def i4 (ps : List Tr) : Value → Tr
  | .ref a => (ps.find? fun e => e.1 == a).getD (0, 0, 0, 0)
  | _ => (0, 0, 0, 0)
theorem yP (I : Inv X pins σ H s) {ps : List Tr} (hp : TrL X.K H ps) {e : Tr} (m : e ∈ ps) : i4 ps (.ref e.1) = e := by
  show (ps.find? fun z => z.1 == e.1).getD (0, 0, 0, 0) = e
  cases f : ps.find? fun z => z.1 == e.1 with
  | none => exact absurd (List.find?_eq_none.mp f e m) (by simp)
  | some z =>
    have m' := List.mem_of_find?_eq_some f
    have e1 : z.1 = e.1 := by simpa using List.find?_some f
    have t1 := I.three (hp z m')
    have t2 := I.three (hp e m)
    rw [e1] at t1
    obtain ⟨a, b, c⟩ := Srt.three_inj t1 t2
    show z = e
    obtain ⟨z1, z2, z3, z4⟩ := z
    obtain ⟨y1, y2, y3, y4⟩ := e
    simp at e1 a b c
    subst e1; subst a; subst b; subst c; rfl
theorem zm {ps : List Tr} {its : List Value} (r : Vals (ps.map fun e => V.ref e.1) its) : its = ps.map fun e => Value.ref e.1 := by
  induction ps generalizing its with
  | nil => cases r; rfl
  | cons e ps ih =>
    cases r with
    | cons r1 r2 => rw [ih r2]; cases (show _ = Value.ref e.1 from r1); rfl
theorem uv : ∀ ps : List Tr, Vals (ps.map fun e => V.ref e.1) (ps.map fun e => Value.ref e.1)
  | [] => .nil
  | e :: ps => .cons rfl (uv ps)
theorem pf {α β : Type} {f : α → β} : ∀ {l : List α}, (l.map f).Nodup → ∀ {a b : α}, a ∈ l → b ∈ l → f a = f b → a = b
  | [], _, _, _, h, _, _ => nomatch h
  | x :: r, hn, a, b, ha, hb, e => by
    rw [List.map_cons, List.nodup_cons] at hn
    rcases List.mem_cons.mp ha with h1 | h1
    · rcases List.mem_cons.mp hb with h2 | h2
      · rw [h1, h2]
      · exact absurd (by rw [← h1, e]; exact List.mem_map_of_mem h2) hn.1
    · rcases List.mem_cons.mp hb with h2 | h2
      · exact absurd (by rw [← h2, ← e]; exact List.mem_map_of_mem h1) hn.1
      · exact pf hn.2 h1 h2 e
def tS (K : PySem.W.Frag) : List V → Hp → VK → Prop
  | [.ref p], H, Q => ∃ ps : List Tr, SqL K H p (ps.map fun e => .ref e.1) ∧ TrL K H ps ∧ ps.length < 64 ∧ (∀ e ∈ ps, 0 ≤ e.2.2.1 ∧ e.2.2.1 < 64) ∧ (ps.map nP).Nodup ∧
      ∀ out : List Tr, out.Perm ps → out.Pairwise (fun a b => nP a < nP b) → ∀ l, H l = none → Q (.ref l) (upd H l (.lst (out.map fun e => .ref e.1)))
  | _, _, _ => False
theorem rj (K : PySem.W.Frag) (hK : X.K = K := by rfl) : CallR X (.builtin "sorted") (tS K) := by
  subst hK
  intro pins s σ H xs us Q I r h
  unfold tS at h
  split at h
  · rename_i p
    obtain ⟨ps, hq, hp, h64, hb, nd, q⟩ := h
    obtain ⟨u, rfl, rx⟩ := eh r
    cases (show u = Value.ref p from rx)
    obtain ⟨its, r', pl, hz⟩ := I.list hq
    have ei := zm r'
    subst ei
    have inv : ∀ e ∈ ps, i4 ps (.ref e.1) = e := fun e m => yP I hp m
    have em : (ps.map fun e => Value.ref e.1).map (i4 ps) = ps := by
      rw [List.map_map]
      exact (List.map_congr_left fun e m => inv e m).trans (List.map_id _)
    have nd2 : ((ps.map fun e => Value.ref e.1).map fun v => nP (i4 ps v)).Nodup := by
      rw [show (ps.map fun e => Value.ref e.1).map (fun v => nP (i4 ps v)) = ((ps.map fun e => Value.ref e.1).map (i4 ps)).map nP by simp only [List.map_map]; rfl, em]
      exact nd
    refine Srt.sorted_by (kd := tuples' true) (κ := fun v => nP (i4 ps v)) pl.isList (by simpa using h64) nd2 (fun h2 h' kp => Srt.cmp_three (by simpa using h2) (fun v m => ?_) fun u mu v mv e => pf nd2 mu mv e) fun out h' c pm sr kp e => ?_
    · obtain ⟨e, me, rfl⟩ := List.mem_map.mp m
      refine ⟨e.1, e.2.1, e.2.2.1, e.2.2.2, rfl, ?_, ?_, (hb e me).1, (hb e me).2⟩
      · obtain ⟨o, t, u, r, n, ho, h1⟩ := I.three (hp e me)
        exact ⟨o, t, u, r, n, kp _ _ ho, h1⟩
      · show nP (i4 ps (.ref e.1)) = _
        rw [inv e me]
    · have pm' : (out.map (i4 ps)).Perm ps := by
        have := pm.map (i4 ps)
        rwa [em] at this
      have eo : out = (out.map (i4 ps)).map fun e => Value.ref e.1 := by
        rw [List.map_map]
        refine ((List.map_congr_left fun v m => ?_).trans (List.map_id _)).symm
        obtain ⟨e, m', rfl⟩ := List.mem_map.mp (pm.mem_iff.mp m)
        show Value.ref (i4 ps (.ref e.1)).1 = _
        rw [inv e m']; rfl
      have so : (out.map (i4 ps)).Pairwise fun a b => nP a < nP b := List.pairwise_map.mpr sr
      refine ⟨.ref (s.heap.objs.size + 1), _, I.laid (t' := s.toks) (a := s.heap.objs.size + 1) kp (Nat.le_succ _) (show ObjOk X.prog X.w _ h' _ (.lst ((out.map (i4 ps)).map fun e => .ref e.1)) from ⟨?_, out, c, ?_, e⟩), rfl, q _ pm' so _ (I.hok.fresh (Nat.le_succ _))⟩
      · rw [List.length_map, pm'.length_eq, sizeLine_eq]; omega
      · have := uv (out.map (i4 ps))
        rwa [← eo] at this
  · exact h.elim
end
end L2
set_option Elab.async false
set_option linter.all false
set_option maxRecDepth 100000
namespace L2
namespace Rv
open PySem PyProof.Rows
section
variable {prog : Program} {w : World} {A : Around} {E : Value → Shared → Prop} {s : Shared}
theorem rW {it l : Addr} {j : Nat} {vs : Array Value} {x : Value} {Q : Value → Shared → Prop} (ri : s.heap.IsRevIter it l (j : Int)) (li : s.heap.IsList l vs) (hx : vs[j]? = some x)
    (k : ∀ h', h'.IsRevIter it l ((j : Int) - 1) → Heap.SameBut it s.heap h' → Q x { s with heap := h' }) : wpAny (model prog w) A (Builtin.SmallTypes.nextOf (.ref it)) Q E s := by
  obtain ⟨o, o1, o2, o3⟩ := id ri
  obtain ⟨b, b1, _, n, b2⟩ := li
  unfold Builtin.SmallTypes.nextOf
  refine wpAny_bind (wpAny_callSpecial?_slot (name := Str.ofString "__next__") ri.typeIs F.slot_lri_next (wpAny_call_entry F.slot_lri_next ri.typeIs F.entry_lri_next ?_ (F.args_lri_next_1 _)))
  unfold Builtin.«list_reverseiterator.__next__»
  refine wpAny_bind (wpAny_of_eq (a := (Value.ref it, [])) rfl (wpAny_bind (wpAny_field o1 o3 (x := rawInt (j : Int)) rfl ?_)))
  show wpAny (model prog w) _ (if (j : Int) < 0 then _ else _) _ _ s
  rw [if_neg (show ¬ (j : Int) < 0 by omega)]
  refine wpAny_bind (wpAny_field o1 o3 (x := .ref l) rfl (wpAny_bind (wpAny_seqItems b1 b2 ?_)))
  simp only [Int.toNat_natCast, hx]
  refine wpAny_bind (wpAny_setField o1 o3 (by simp) ?_)
  have fin : ∀ h', h' = s.heap.update it (Obj.mapFields fun a => a.set! 1 (rawInt ((j : Int) - 1))) → Q x { s with heap := h' } := fun h' e => by
    subst e
    exact k _ ⟨_, Heap.get?_update_self _ o1 (Obj.isFreed_of_fields (Obj.data_mapFields o3 _)), (Obj.cls_mapFields ..).trans o2, by rw [Obj.data_mapFields o3]; simp⟩ (Heap.SameBut.update ..)
  first
  | exact wpAny_pure ⟨x, rfl, wpAny_pure (fin _ rfl)⟩
  | exact wpAny_bind (wpAny_pure (wpAny_pure ⟨x, rfl, wpAny_pure (fin _ rfl)⟩))
theorem tw {it l : Addr} {Q : Value → Shared → Prop} (hh : A.handled = none) (ri : s.heap.IsRevIter it l (-1))
    (k : ∀ h' e, Heap.ExtBut it s.heap h' → (∃ o, h'.get? e = some o ∧ o.cls = .type "StopIteration") → E (.ref e) { s with heap := h' }) : wpAny (model prog w) A (Builtin.SmallTypes.nextOf (.ref it)) Q E s := by
  obtain ⟨o, o1, o2, o3⟩ := id ri
  unfold Builtin.SmallTypes.nextOf
  refine wpAny_bind (wpAny_callSpecial?_slot (name := Str.ofString "__next__") ri.typeIs F.slot_lri_next (wpAny_call_entry F.slot_lri_next ri.typeIs F.entry_lri_next ?_ (F.args_lri_next_1 _)))
  unfold Builtin.«list_reverseiterator.__next__»
  refine wpAny_bind (wpAny_of_eq (a := (Value.ref it, [])) rfl (wpAny_bind (wpAny_field o1 o3 (x := rawInt (-1)) rfl ?_)))
  show wpAny (model prog w) _ (if (-1 : Int) < 0 then _ else _) _ _ s
  rw [if_pos (show (-1 : Int) < 0 by decide)]
  refine wpAny_bind (wpAny_rule ?_)
  first
  | show wpAny (model prog w) _ (newExc (.type "StopIteration") [] >>= _) _ _ s
  | (refine wpAny_bind ?_; show wpAny (model prog w) _ (newExc (.type "StopIteration") [] >>= _) _ _ s)
  refine wpAny_bind ?_
  simp only [newExc, newTuple]
  refine wpAny_bind (wpAny_newObj_type (wpAny_bind (m := firstArgMember _ _) (wpAny_of_eq (a := Value.none) (by first | rfl | (simp only [firstArgMember]; rfl)) (wpAny_newObj_type ?_ (by size_fits)))) (by size_fits))
  simp only [raiseNew]
  refine wpAny_bind (wpAny_handled ?_)
  rw [show A.in1.handled = none from hh]
  exact wpAny_bind (wpAny_pure (wpAny_throw (k _ _ (((Heap.ExtBut.refl _ _).push _).push _) ⟨_, Heap.get?_push_size _ rfl, rfl⟩)))
theorem vG {e it : Addr} {i : Nat} {x old : Value} {T : Heap → Prop} {Q : Value → Shared → Prop} (en : IsEnum s.heap e it i old) (ne : e ≠ it)
    (tk : ∀ h h' : Heap, T h → Heap.SameBut e h h' → T h') (tp : ∀ (h : Heap) (o : Obj), T h → T (h.push o))
    (inner : ∀ Q' : Value → Shared → Prop, (∀ h', T h' → Heap.SameBut it s.heap h' → Q' x { s with heap := h' }) → wpAny (model prog w) A (Builtin.SmallTypes.nextOf (.ref it)) Q' E s)
    (k : ∀ h', IsEnumOut h' e it ((i : Int) + 1) x s.heap.objs.size → T h' → h'.get? s.heap.objs.size = some { cls := .type "tuple", data := .seq #[.int i s.toks, x] } → h'.objs.size = s.heap.objs.size + 1 →
      (∀ b o, b ≠ e → b ≠ it → s.heap.get? b = some o → h'.get? b = some o) → Q (.ref s.heap.objs.size) { s with heap := h', toks := s.toks + 1 }) :
    wpAny (model prog w) A (Builtin.«enumerate.__next__» ⟨[.ref e], []⟩) (fun fin s' => ∃ v, fin = .done (.ret v) ∧ Q v s') E s := by
  obtain ⟨hp, g, d, tn, os⟩ := s
  show wpAny (model prog w) A (field (.ref e) 2 >>= _) _ _ _
  refine wpAny_bind (wpAny_field en rfl (x := .ref it) rfl (wpAny_bind (inner _ fun a1 t1 sb1 => ?_)))
  have n1 : IsEnum a1 e it i old := (sb1.2 e ne).trans en
  have z1 : a1.objs.size = hp.objs.size := sb1.1
  have lt : e < hp.objs.size := Heap.lt_size en
  show wpAny (model prog w) A (field (.ref e) 3 >>= _) _ _ ⟨a1, g, d, tn, os⟩
  refine wpAny_bind (wpAny_field n1 rfl (x := rawInt i) rfl ?_)
  show wpAny (model prog w) A (field (.ref e) 4 >>= _) _ _ ⟨a1, g, d, tn, os⟩
  refine wpAny_bind (wpAny_field n1 rfl (x := .none) rfl ?_)
  show wpAny (model prog w) A (mkInt i >>= _) _ _ ⟨a1, g, d, tn, os⟩
  refine wpAny_bind (wpAny_mkInt ?_)
  show wpAny (model prog w) A (setField (.ref e) 3 (rawInt ((i : Int) + 1)) >>= _) _ _ ⟨a1, g, d, tn + 1, os⟩
  refine wpAny_bind (wpAny_setField_rec n1 (by simp) fun a2 n2 sb2 => ?_)
  replace sb2 : Heap.SameBut e a1 a2 := sb2
  replace n2 : IsEnum a2 e it ((i : Int) + 1) old := n2
  show wpAny (model prog w) A (setField (.ref e) 4 .none >>= _) _ _ ⟨a2, g, d, tn + 1, os⟩
  refine wpAny_bind (wpAny_setField_rec n2 (by simp) fun a3 n3 sb3 => ?_)
  replace sb3 : Heap.SameBut e a2 a3 := sb3
  replace n3 : IsEnum a3 e it ((i : Int) + 1) old := n3
  show wpAny (model prog w) A (newTuple [.int i tn, x] >>= _) _ _ ⟨a3, g, d, tn + 1, os⟩
  refine wpAny_bind (wpAny_newTuple ?_)
  have z3 : a3.objs.size = hp.objs.size := by rw [sb3.1, sb2.1, z1]
  have t3 := tk _ _ (tk _ _ t1 sb2) sb3
  have k3 : ∀ b o, b ≠ e → b ≠ it → hp.get? b = some o → a3.get? b = some o := fun b o b1 b2 q => sb3.extBut b o b1 (sb2.extBut b o b1 (sb1.extBut b o b2 q))
  have n4 : IsEnum (a3.push { cls := .type "tuple", data := .seq #[.int i tn, x] }) e it ((i : Int) + 1) old := Heap.get?_push_of_some _ n3
  have g4 : (a3.push { cls := .type "tuple", data := .seq #[.int i tn, x] }).get? hp.objs.size = some { cls := .type "tuple", data := .seq #[.int i tn, x] } := by rw [← z3]; exact Heap.get?_push_size _ rfl
  have z4 : (a3.push { cls := .type "tuple", data := .seq #[.int i tn, x] }).objs.size = hp.objs.size + 1 := by rw [Heap.size_push, z3]
  have t4 := tp _ { cls := .type "tuple", data := .seq #[.int i tn, x] } t3
  have k4 : ∀ b o, b ≠ e → b ≠ it → hp.get? b = some o → (a3.push { cls := .type "tuple", data := .seq #[.int i tn, x] }).get? b = some o := fun b o b1 b2 q => Heap.get?_push_of_some _ (k3 b o b1 b2 q)
  rw [z3]
  generalize a3.push { cls := .type "tuple", data := .seq #[.int i tn, x] } = a4 at n4 g4 z4 t4 k4 ⊢
  clear k3 t3 n3 sb3 n2 sb2 n1 sb1 t1
  show wpAny (model prog w) A (Builtin.SmallTypes.ownedTupleIsFree (.ref e) >>= _) _ _ ⟨a4, g, d, tn + 1, os⟩
  refine wpAny_bind ?_
  unfold Builtin.SmallTypes.ownedTupleIsFree
  refine wpAny_bind (wpAny_field n4 rfl (x := .none) rfl (wpAny_pure ?_))
  simp only [if_true]
  refine wpAny_bind (wpAny_rule (wpAny_bind (wpAny_field n4 rfl (x := old) rfl (wpAny_bind (wpAny_setField_rec n4 (by simp) fun a5 n5 sb5 => ?_)))))
  replace sb5 : Heap.SameBut e a4 a5 := sb5
  replace n5 : IsEnum a5 e it ((i : Int) + 1) x := n5
  show wpAny (model prog w) A (Builtin.SmallTypes.ownedTupleHandOut (.ref e) (.ref hp.objs.size) >>= _) _ _ ⟨a5, g, d, tn + 1, os⟩
  refine wpAny_bind ?_
  unfold Builtin.SmallTypes.ownedTupleHandOut
  refine wpAny_bind (wpAny_setField_rec n5 (by simp) fun a6 n6 sb6 => ?_)
  replace sb6 : Heap.SameBut e a5 a6 := sb6
  replace n6 : IsEnumOut a6 e it ((i : Int) + 1) x hp.objs.size := n6
  refine wpAny_setField_rec n6 (by simp) fun a7 n7 sb7 => ?_
  replace sb7 : Heap.SameBut e a6 a7 := sb7
  replace n7 : IsEnumOut a7 e it ((i : Int) + 1) x hp.objs.size := n7
  have up : ∀ b o, b ≠ e → a4.get? b = some o → a7.get? b = some o := fun b o b1 q => sb7.extBut b o b1 (sb6.extBut b o b1 (sb5.extBut b o b1 q))
  exact wpAny_bind (wpAny_letGo (wpAny_pure ⟨_, rfl, k a7 n7 (tk _ _ (tk _ _ (tk _ _ t4 sb5) sb6) sb7) (up _ _ (Nat.ne_of_gt lt) g4) (by rw [sb7.1, sb6.1, sb5.1, z4]) fun b o b1 b2 q => up b o b1 (k4 b o b1 b2 q)⟩))
theorem next_enum {e it l : Addr} {i j : Nat} {vs : Array Value} {x old : Value} {Q : Option Value → Shared → Prop} (en : IsEnum s.heap e it i old) (ri : s.heap.IsRevIter it l (j : Int)) (li : s.heap.IsList l vs) (hx : vs[j]? = some x) (ne : e ≠ it)
    (k : ∀ h', IsEnumOut h' e it ((i : Int) + 1) x s.heap.objs.size → h'.IsRevIter it l ((j : Int) - 1) → h'.get? s.heap.objs.size = some { cls := .type "tuple", data := .seq #[.int i s.toks, x] } → h'.objs.size = s.heap.objs.size + 1 →
      (∀ b o, b ≠ e → b ≠ it → s.heap.get? b = some o → h'.get? b = some o) → Q (some (.ref s.heap.objs.size)) { s with heap := h', toks := s.toks + 1 }) :
    wpAny (model prog w) A (pyNext (.ref e)) Q E s := by
  have ty : s.TypeIs (.ref e) "enumerate" := ⟨_, en, rfl⟩
  unfold pyNext
  refine wpAny_bind (wpAny_attempt (wpAny_callSpecial?_slot (name := Str.ofString "__next__") ty F.slot_enumerate_next (wpAny_call_entry F.slot_enumerate_next ty F.entry_enumerate_next ?_ (F.args_enumerate_next_1 _))))
  exact vG (T := fun h => h.IsRevIter it l ((j : Int) - 1)) en ne (fun h h' t sb => t.at fun o q => (sb.2 it (Ne.symm ne)).trans q) (fun h o t => t.at fun o q => Heap.get?_push_of_some _ q) (fun Q' q => rW ri li hx q) fun h' a b c d f => wpAny_pure (k h' a b c d f)
theorem next_enum_end {e it l : Addr} {i : Nat} {old : Value} {Q : Option Value → Shared → Prop} (hh : A.handled = none) (en : IsEnum s.heap e it i old) (ri : s.heap.IsRevIter it l (-1))
    (k : ∀ h', Heap.ExtBut it s.heap h' → Q none { s with heap := h' }) : wpAny (model prog w) A (pyNext (.ref e)) Q E s := by
  have ty : s.TypeIs (.ref e) "enumerate" := ⟨_, en, rfl⟩
  unfold pyNext
  refine wpAny_bind (wpAny_attempt (wpAny_callSpecial?_slot (name := Str.ofString "__next__") ty F.slot_enumerate_next (wpAny_call_entry F.slot_enumerate_next ty F.entry_enumerate_next ?_ (F.args_enumerate_next_1 _))))
  show wpAny (model prog w) _ (field (.ref e) 2 >>= _) _ _ s
  refine wpAny_bind (wpAny_field en rfl (x := .ref it) rfl (wpAny_bind (tw hh ri fun h' b eb hb => ?_)))
  obtain ⟨o, q1, q2⟩ := hb
  exact wpAny_bind (wpAny_isInstance (T := "StopIteration") (b := true) ⟨o, q1, q2⟩ isSubtype_stop (wpAny_pure (k _ eb)))
theorem wS (r l : Addr) (i : Int) :
    Meets (Builtin.«enumerate.__new__» ⟨[.type "enumerate", .ref r], []⟩) (fun _ R s => s.heap.get? r = some (revObj l i) ∧ R (.ok (.ret (.ref s.heap.objs.size))) { s with heap := s.heap.push { cls := .type "enumerate", data := .fields #[.none, .bool false, .ref r, rawInt 0, .none, .none] } }) :=
  .of_wp fun prog w A R s ⟨hl, h⟩ => by
    obtain ⟨hp, g, d, tn, os⟩ := s
    have sub := sub_enumerate
    have ri : Heap.IsRevIter (Shared.heap ⟨hp, g, d, tn, os⟩) r l i := ⟨_, hl, rfl, rfl⟩
    wp_walk using AutoSeq1.wpAny_loadPart' hl
    refine wpAny_stack_any fun st => wpAny_pure ?_
    split
    · rename_i c _ _ _ _ _
      cases (c == Value.type "enumerate") <;> (wp_walk using AutoSeq1.wpAny_loadPart' hl, wpAny_pyIter_revIter ri; exact ⟨_, rfl, h⟩)
    · wp_walk using AutoSeq1.wpAny_loadPart' hl, wpAny_pyIter_revIter ri
      exact ⟨_, rfl, h⟩
theorem call_enum {r l : Addr} {i : Int} {Q : Value → Shared → Prop} (hr : s.heap.get? r = some (revObj l i))
    (h : ∀ h', IsEnum h' s.heap.objs.size r 0 .none → h'.objs.size = s.heap.objs.size + 1 → (∀ b o, s.heap.get? b = some o → h'.get? b = some o) → Q (.ref s.heap.objs.size) { s with heap := h' }) :
    wpAny (model prog w) A (call (.type "enumerate") [.ref r]) Q E s := by
  refine callType_new F.called_enumerate (by decide) (F.typeCall_enumerate_1 _) (F.newCall_enumerate_1 _) (fun obj => F.args_object_init_2 obj _) F.entry_enumerate_new (wS r l i) ⟨hr, ?_⟩
  have en : IsEnum (s.heap.push { cls := .type "enumerate", data := .fields #[.none, .bool false, .ref r, rawInt 0, .none, .none] }) s.heap.objs.size r 0 .none := Heap.get?_push_size _ rfl
  exact ⟨⟨_, en, rfl⟩, h _ en (Heap.size_push ..) fun b o q => Heap.get?_push_of_some _ q⟩
end
end Rv
open PySem PyProof.Rows
section
variable {X : Cx} {pins : List (Addr × Obj)} {σ : St} {H : Hp} {s : Shared}
def Itv (K : PySem.W.Frag) (a : Addr) (xs : List V) : It :=
  ⟨fun i H => i < xs.length ∧ SqL K H a xs, fun i H x H' => H' = H ∧ xs.reverse[i]? = some x, fun i _ => xs.length ≤ i⟩
theorem xa {P : Program} {w : World} {K : PySem.W.Frag} {tg : Expr} (a it : Addr) (xs : List V) : rL P w K tg (Itv K a xs) [it] it (fun i h => i ≤ xs.length ∧ h.IsRevIter it a ((xs.length : Int) - 1 - i)) where
  mem := by simp
  obj := fun i h st b hb => by
    have e : b = it := by simpa using hb
    subst e
    obtain ⟨_, o, e, c, d⟩ := st
    exact ⟨o, e, fun v z => by rw [d] at z; cases z⟩
  keep := fun i h h' st k => ⟨st.1, st.2.at fun o e => k it (by simp) o e⟩
  item := by
    intro X hP hw hK hc i pins s σ H E I hf st hg
    subst hP hw hK
    obtain ⟨hi, hq⟩ := hg
    obtain ⟨its, rv, p, hz⟩ := I.list hq
    have hx : xs[xs.length - 1 - i]? = some xs[xs.length - 1 - i] := List.getElem?_eq_getElem _
    obtain ⟨u, hu, ru⟩ := rv.get hx
    obtain ⟨f0, f1, f2, f3, f4, f5⟩ := hf it (by simp)
    have e1 : (xs.length : Int) - 1 - i = ((xs.length - 1 - i : Nat) : Int) := by omega
    have st2 := st.2
    rw [e1] at st2
    refine wpAny_pyNext_rev_item st2 p.isList (x := u) (by simpa using hu) fun h' st' sb => ?_
    have I1 : Inv X pins σ H { s with heap := h' } := I.turned (t' := s.toks) (fun b o hb e => (sb.2 b hb).trans e) f0 f1 f3 f4 f5
    obtain ⟨o, e, c, d⟩ := id st'
    have e2 : ((xs.length - 1 - i : Nat) : Int) - 1 = (xs.length : Int) - 1 - ((i + 1 : Nat) : Int) := by omega
    rw [e2] at st'
    exact ⟨u, rfl, nA (s := { s with heap := h' }) e c d (by decide) ⟨_, H, I1, ru, ⟨rfl, by rw [List.getElem?_reverse hi]; exact hx⟩, ⟨hi, st'⟩, fun b hb => (hf b hb).1⟩⟩
  done := by
    intro X hP hw hK hc i pins s σ H E I hf st hg
    subst hP hw hK
    obtain ⟨f0, f1, f2, f3, f4, f5⟩ := hf it (by simp)
    have hg : xs.length ≤ i := hg
    have e1 : (xs.length : Int) - 1 - i = -1 := by have := st.1; omega
    have st2 := st.2
    rw [e1] at st2
    exact wpAny_pyNext_rev_end (I.ok.hd hc) st2 fun h' eb => ⟨rfl, I.turned (t' := s.toks) (fun b o hb e => eb b o hb e) f0 f1 f3 f4 f5⟩
  self := fun _ _ _ _ _ st h => wpAny_pyIter_revIter st.2 h
def Cm (K : PySem.W.Frag) (ta : TA) : TI := fun σ H R => ta σ H fun vs H1 => ∃ a xs, vs = [.ref a] ∧ SqL K H1 a xs ∧ R (Itv K a xs) H1
theorem AY {arg : Expr} {ta : TA} {p pos : Pos} {tg : Expr} (K : PySem.W.Frag) (hg : Gl X "reversed") (hm : X.mg "reversed" = none) (ha : PA X [arg] ta) (hs : starEach [arg] X.env = [(false, eval arg X.env)] := by rfl) (hK : X.K = K := by rfl) :
    PI X tg (.Call (.Name "reversed" p) [arg] [] pos) (Cm K ta) := by
  subst hK
  intro pins s σ H R I h
  refine Call_ (fW I hg hm PyProof.Rows.boot_reversed (PyProof.Rows.callWith_type1 (thn (ha pos pins s σ H _ I h) fun us s1 ⟨vs, H1, I1, r1, q1⟩ => ?_) hs rfl))
  obtain ⟨a, xs, e, hq, q⟩ := q1
  subst e
  obtain ⟨u, rfl, ru⟩ := eh r1
  cases (show u = Value.ref a from ru)
  obtain ⟨its, rv, pl, hz⟩ := I1.list hq
  have hl := rv.length
  have ri : (s1.heap.push (revObj a ((its.toArray.size : Int) - 1))).IsRevIter s1.heap.objs.size a ((its.toArray.size : Int) - 1) := ⟨_, Heap.get?_push_size _ rfl, rfl, rfl⟩
  refine call_reversed_list pl.isList (wpAny_pyIter_revIter (s := { s1 with heap := _ }) ri ?_)
  refine ⟨_, [s1.heap.objs.size], _, _, H1, rfl, I1.kept (t' := s1.toks) (fun b o e => Heap.get?_push_of_some _ e), xa a _ xs, ⟨Nat.zero_le _, ?_⟩, fun b hb => ?_, q⟩
  · have e : ((xs.length : Nat) : Int) - 1 - ((0 : Nat) : Int) = (its.toArray.size : Int) - 1 := by simp; omega
    rw [e]; exact ri
  · rw [List.mem_singleton.mp hb]; exact I1.fpOk (Nat.le_refl _) (I1.hok.fresh (Nat.le_refl _))
def Itw (K : PySem.W.Frag) (a : Addr) (xs : List V) : It :=
  ⟨fun i H => i < xs.length ∧ SqL K H a xs, fun i H x H' => ∃ p y, H p = none ∧ x = .ref p ∧ H' = upd H p (.tup [.int i, y]) ∧ xs.reverse[i]? = some y, fun i _ => xs.length ≤ i⟩
theorem tE {P : Program} {w : World} {K : PySem.W.Frag} {elts : List Expr} {cx : _} {pos : Pos} (a e it : Addr) (ne : e ≠ it) (xs : List V) :
    rL P w K (.Tuple elts cx pos) (Itw K a xs) [e, it] e (fun i h => i ≤ xs.length ∧ ∃ old, IsEnum h e it (i : Nat) old ∧ h.IsRevIter it a ((xs.length : Int) - 1 - i)) where
  mem := by simp
  obj := fun i h st b hb => by
    obtain ⟨_, old, h1, o, h2, c, d⟩ := st
    rcases List.mem_cons.mp hb with rfl | hb
    · exact ⟨_, h1, fun v z => by
        have z' : Data.fields _ = Data.cell v := z
        cases z'⟩
    · have z := List.mem_singleton.mp hb
      subst z
      exact ⟨o, h2, fun v z => by rw [d] at z; cases z⟩
  keep := fun i h h' st k => by
    obtain ⟨h0, old, h1, h2⟩ := st
    exact ⟨h0, old, k e (by simp) _ h1, h2.at fun o q => k it (by simp) o q⟩
  item := by
    intro X hP hw hK hc i pins s σ H E I hf st hg
    subst hP hw hK
    obtain ⟨hi, hq⟩ := hg
    obtain ⟨its, rv, p, hz⟩ := I.list hq
    have hx : xs[xs.length - 1 - i]? = some xs[xs.length - 1 - i] := List.getElem?_eq_getElem _
    generalize xs[xs.length - 1 - i] = x at hx
    obtain ⟨u, hu, ru⟩ := rv.get hx
    have fe := hf e (by simp)
    have fi := hf it (by simp)
    obtain ⟨h0, old, h1, h2⟩ := st
    have e1 : (xs.length : Int) - 1 - i = ((xs.length - 1 - i : Nat) : Int) := by omega
    rw [e1] at h2
    obtain ⟨oi, gi, ci, di⟩ := id h2
    refine Rv.next_enum h1 h2 p.isList (x := u) (by simpa using hu) ne fun h' e1 i1 t1 z1 k1 => ?_
    obtain ⟨oi', gi', ci', di'⟩ := id i1
    obtain ⟨h3, z3, I3, k3⟩ := I.turned2 (t' := s.toks + 1) (h' := h') h1 gi ne ⟨_, e1, rfl⟩ ⟨_, gi', Obj.isFreed_of_fields di'⟩ k1 fe fi
    have hn := I.hok.fresh (Nat.le_refl s.heap.objs.size)
    have I4 : Inv X pins σ (upd H s.heap.objs.size (.tup [.int i, x])) { s with heap := h', toks := s.toks + 1 } :=
      I3.laid (t' := s.toks + 1) k3 (Nat.le_of_eq z3) (show ObjOk X.prog X.w _ h' _ (.tup [.int i, x]) from ⟨by show 2 ≤ sizeLine; rw [sizeLine_eq]; decide, [.int i s.toks, u], .cons ⟨_, rfl⟩ (.cons ru .nil), ⟨_, t1, rfl, 0, rfl⟩⟩)
    have le : e < s.heap.objs.size := Heap.lt_size h1
    have li : it < s.heap.objs.size := Heap.lt_size gi
    have nH : ∀ b, b < s.heap.objs.size → upd H s.heap.objs.size (.tup [.int i, x]) b = H b := fun b l => al (Nat.ne_of_lt l)
    refine ⟨_, rfl, wpAny_letOwnedTupleGo_enum (s := { s with heap := h', toks := s.toks + 1 }) e1 fun h5 e5 s5 => ?_⟩
    have I5 : Inv X pins σ (upd H s.heap.objs.size (.tup [.int i, x])) { s with heap := h5, toks := s.toks + 1 } :=
      I4.turned (t' := s.toks + 1) (fun b o hb q => (s5.2 b hb).trans q) ((nH e le).trans fe.1) fe.2.1 fe.2.2.2.1 fe.2.2.2.2.1 fe.2.2.2.2.2
    have e2 : ((xs.length - 1 - i : Nat) : Int) - 1 = (xs.length : Int) - 1 - ((i + 1 : Nat) : Int) := by omega
    rw [e2] at i1
    refine ⟨.ref s.heap.objs.size, _, I5, rfl, ⟨_, x, hn, rfl, rfl, by rw [List.getElem?_reverse hi]; exact hx⟩, ⟨hi, u, e5, i1.at fun o q => (s5.2 it (Ne.symm ne)).trans q⟩, fun b hb => ?_⟩
    rcases List.mem_cons.mp hb with rfl | hb
    · exact (nH _ le).trans fe.1
    · rw [List.mem_singleton.mp hb]; exact (nH _ li).trans fi.1
  done := by
    intro X hP hw hK hc i pins s σ H E I hf st hg
    subst hP hw hK
    have hg : xs.length ≤ i := hg
    have fi := hf it (by simp)
    obtain ⟨h0, old, h1, h2⟩ := st
    have e1 : (xs.length : Int) - 1 - i = -1 := by omega
    rw [e1] at h2
    exact Rv.next_enum_end (I.ok.hd hc) h1 h2 fun h' eb => ⟨rfl, I.turned (t' := s.toks) (fun b o hb q => eb b o hb q) fi.1 fi.2.1 fi.2.2.2.1 fi.2.2.2.2.1 fi.2.2.2.2.2⟩
  self := fun _ _ _ _ _ ⟨_, _, st, _⟩ h => wpAny_pyIter_enum st h
def xy (K : PySem.W.Frag) (ta : TE) : TI := fun σ H R => ta σ H fun v H1 => ∃ a xs, v = .ref a ∧ SqL K H1 a xs ∧ R (Itw K a xs) H1
theorem wv {arg : Expr} {ta : TE} {p pos p' pos' : Pos} {elts : List Expr} {cx : _} {tp : Pos} (K : PySem.W.Frag) (hg : Gl X "enumerate") (hm : X.mg "enumerate" = none) (hg' : Gl X "reversed") (hm' : X.mg "reversed" = none) (ha : PE X arg ta)
    (hs : starEach [Expr.Call (.Name "reversed" p') [arg] [] pos'] X.env = [(false, eval (Expr.Call (.Name "reversed" p') [arg] [] pos') X.env)] := by rfl) (hs' : starEach [arg] X.env = [(false, eval arg X.env)] := by rfl) (hK : X.K = K := by rfl) :
    PI X (.Tuple elts cx tp) (.Call (.Name "enumerate" p) [.Call (.Name "reversed" p') [arg] [] pos'] [] pos) (xy K ta) := by
  subst hK
  intro pins s σ H R I h
  refine Call_ (fW I hg hm PyProof.Rows.boot_enumerate (PyProof.Rows.callWith_type1 ?_ hs rfl))
  rw [hs]
  refine Calls.spliced_cons (wpAny_Call_Name_kw (fW I hg' hm' PyProof.Rows.boot_reversed (PyProof.Rows.callWith_type1 ?_ hs' rfl) (by decide) (by decide)))
  rw [hs']
  refine Calls.spliced_cons (thn (ha pins s σ H _ I h) fun u s1 ⟨y, H1, I1, r1, q1⟩ => ?_)
  obtain ⟨a, xs, e, hq, q⟩ := q1
  subst e
  cases (show u = Value.ref a from r1)
  obtain ⟨its, rv, pl, hz⟩ := I1.list hq
  have hl := rv.length
  refine Calls.spliced_nil (call_reversed_list pl.isList (Calls.spliced_nil ?_))
  have e0 : ((its.toArray.size : Nat) : Int) - 1 = (xs.length : Int) - 1 - ((0 : Nat) : Int) := by simp; omega
  rw [e0]
  have I2 : Inv X pins σ H1 { s1 with heap := s1.heap.push (revObj a ((xs.length : Int) - 1 - ((0 : Nat) : Int))) } := I1.kept (t' := s1.toks) fun b o e => Heap.get?_push_of_some _ e
  have gr : (s1.heap.push (revObj a ((xs.length : Int) - 1 - ((0 : Nat) : Int)))).get? s1.heap.objs.size = some (revObj a ((xs.length : Int) - 1 - ((0 : Nat) : Int))) := Heap.get?_push_size _ rfl
  have zr : (s1.heap.push (revObj a ((xs.length : Int) - 1 - ((0 : Nat) : Int)))).objs.size = s1.heap.objs.size + 1 := Heap.size_push ..
  generalize s1.heap.push (revObj a ((xs.length : Int) - 1 - ((0 : Nat) : Int))) = hp at I2 gr zr ⊢
  refine Rv.call_enum (s := { s1 with heap := hp }) gr fun h' en z k => wpAny_pyIter_enum (s := { s1 with heap := h' }) en ?_
  have ne : hp.objs.size ≠ s1.heap.objs.size := by rw [zr]; exact Nat.succ_ne_self _
  refine ⟨_, [hp.objs.size, s1.heap.objs.size], _, _, H1, rfl, I2.kept (t' := s1.toks) k, tE a _ _ ne xs, ⟨Nat.zero_le _, _, en, ⟨_, k _ _ gr, rfl, rfl⟩⟩, fun b hb => ?_, q⟩
  rcases List.mem_cons.mp hb with rfl | hb
  · exact I2.fpOk (Nat.le_refl _) (I2.hok.fresh (Nat.le_refl _))
  · rw [List.mem_singleton.mp hb]; exact I1.fpOk (Nat.le_refl _) (I1.hok.fresh (Nat.le_refl _))
end
end L2
set_option Elab.async false
set_option linter.all false
set_option maxRecDepth 100000
namespace L2
open PySem PyProof.Rows
def FE (J : It) (g : TG) (tb : TS) (D : gP) (σ : St) (H : Hp) : Prop := ∃ W : Nat → Nat → St → Hp → Prop, (∃ m, W 0 m σ H) ∧ ∀ i m σ H, W i m σ H →
  (J.stop i H ∧ D.nx σ H) ∨ (J.go i H ∧ ∃ N : St → Hp → Prop, (∀ σ' H', N σ' H' → ∃ m', m' < m ∧ W (i + 1) m' σ' H') ∧ ∀ x H', J.yld i H x H' → g x σ H' fun σ2 H2 => tb { D with nx := N, ct := N, bk := D.nx } σ2 H2)
theorem yy {K : PySem.W.Frag} {ta : TA} {g : TG} {tb : TS} {D : gP} {σ : St} {H : Hp} (h : ta σ H fun vs H1 => ∃ a, vs = [.ref a] ∧ (∃ xs, SqL K H1 a xs) ∧ FE (Ite K a) g tb D σ H1) : m9 (zS K ta) g tb D σ H := h
theorem yS {K : PySem.W.Frag} {ta : TA} {g : TG} {tb : TS} {D : gP} {σ : St} {H : Hp} (h : ta σ H fun vs H1 => ∃ a xs, vs = [.ref a] ∧ SqL K H1 a xs ∧ FE (Itv K a xs) g tb D σ H1) : m9 (Cm K ta) g tb D σ H := h
theorem zb {K : PySem.W.Frag} {a : Addr} {xs : List V} {g : TG} {tb : TS} {D : gP} {σ : St} {H : Hp} (Pv : Nat → St → Hp → Prop) (h0 : Pv 0 σ H) (hl : ∀ i σ H, i ≤ xs.length → Pv i σ H → SqL K H a xs)
    (hs : ∀ i x σ H p, xs[i]? = some x → H p = none → Pv i σ H → g (.ref p) σ (upd H p (.tup [.int i, x])) fun σ2 H2 => tb { D with nx := Pv (i + 1), ct := Pv (i + 1), bk := D.nx } σ2 H2) (hd : ∀ σ H, Pv xs.length σ H → D.nx σ H) : FE (Ite K a) g tb D σ H := by
  refine ⟨fun i m σ H => m = xs.length - i ∧ i ≤ xs.length ∧ Pv i σ H, ⟨_, rfl, Nat.zero_le _, h0⟩, ?_⟩
  rintro i m σ H ⟨rfl, hi, p⟩
  have q := hl i σ H hi p
  rcases Nat.lt_or_ge i xs.length with lt | ge
  · refine .inr ⟨⟨xs, xs[i], q, by simp [lt]⟩, Pv (i + 1), fun σ' H' p' => ⟨_, by omega, rfl, lt, p'⟩, ?_⟩
    rintro x H' ⟨r, y, hr, rfl, rfl, hy⟩
    exact hs i y σ H r (hy xs q) hr p
  · obtain rfl : i = xs.length := Nat.le_antisymm hi ge
    exact .inl ⟨⟨xs, q, Nat.le_refl _⟩, hd σ H p⟩
theorem zE {K : PySem.W.Frag} {a : Addr} {xs : List V} {g : TG} {tb : TS} {D : gP} {σ : St} {H : Hp} (Pv : Nat → St → Hp → Prop) (h0 : Pv 0 σ H) (hl : ∀ i σ H, i ≤ xs.length → Pv i σ H → SqL K H a xs)
    (hs : ∀ i x σ H, xs.reverse[i]? = some x → Pv i σ H → g x σ H fun σ2 H2 => tb { D with nx := Pv (i + 1), ct := Pv (i + 1), bk := D.nx } σ2 H2) (hd : ∀ σ H, Pv xs.length σ H → D.nx σ H) : FE (Itv K a xs) g tb D σ H := by
  refine ⟨fun i m σ H => m = xs.length - i ∧ i ≤ xs.length ∧ Pv i σ H, ⟨_, rfl, Nat.zero_le _, h0⟩, ?_⟩
  rintro i m σ H ⟨rfl, hi, p⟩
  rcases Nat.lt_or_ge i xs.length with lt | ge
  · refine .inr ⟨⟨lt, hl i σ H hi p⟩, Pv (i + 1), fun σ' H' p' => ⟨_, by omega, rfl, lt, p'⟩, ?_⟩
    rintro x H' ⟨rfl, hy⟩
    exact hs i x σ _ hy p
  · obtain rfl : i = xs.length := Nat.le_antisymm hi ge
    exact .inl ⟨Nat.le_refl _, hd σ H p⟩
theorem xu {K : PySem.W.Frag} {ta : TE} {n : Nat} {g : TG} {ks : List Nat} {te : TE} {σ : St} {H : Hp} {Q : VK} (a : Addr) (xs : List V) (P : Addr → Nat → List V → Hp → Prop) (hl : ∀ R : VK, R (.ref a) H → ta σ H R) (hq : SqL K H a xs) (hz : xs.length < sizeLine)
    (h0 : ∀ D, H D = none → P D 0 [] (upd H D (.lst []))) (hD : ∀ D i ys H', P D i ys H' → H' D = some (.lst ys) ∧ SqL K H' a xs ∧ ys.length = i)
    (hs : ∀ D i y ys H' p (zs : St) (N : VK), xs.reverse[i]? = some y → H' p = none → P D i ys H' → zs.length = n → (∀ v H6, H6 D = some (.lst ys) → P D (i + 1) (ys ++ [v]) (upd H6 D (.lst (ys ++ [v]))) → N v H6) →
      g (.ref p) (zs ++ ks.map fun k => (σ[k]?).join) (upd H' p (.tup [.int i, y])) fun σ4 H4 => (∃ zs4 : St, zs4.length = n ∧ σ4 = zs4 ++ ks.map fun k => (σ[k]?).join) ∧ te σ4 H4 N)
    (hd : ∀ D ys H', P D xs.length ys H' → Q (.ref D) H') : fZ (xy K ta) n g ks (fun _ H Q => Q true H) te σ H Q := by
  refine hl _ ⟨a, xs, rfl, hq, fun D hDn => ⟨fun i m ys H' => m = xs.length - i ∧ i ≤ xs.length ∧ P D i ys H', ⟨_, rfl, Nat.zero_le _, h0 D hDn⟩, ?_⟩⟩
  rintro i m ys H' ⟨rfl, hi, p⟩
  obtain ⟨d1, d2, d3⟩ := hD D i ys H' p
  refine ⟨d1, ?_⟩
  rcases Nat.lt_or_ge i xs.length with lt | ge
  · refine .inr ⟨⟨lt, d2⟩, ?_⟩
    rintro x H3 ⟨r, y, hr, rfl, rfl, hy⟩ zs hzs
    exact hs D i y ys H' r zs _ hy hr p hzs fun v H6 h6 p6 => ⟨h6, by omega, _, by omega, rfl, lt, p6⟩
  · obtain rfl : i = xs.length := Nat.le_antisymm hi ge
    exact .inl ⟨Nat.le_refl _, hd D ys H' p⟩
theorem fR {J : It} {H1 : Hp} {D : Addr} {Q : VK} {σr : St} {tt : TT} {te : TE} (h : ∃ W : Nat → Nat → List V → Hp → Prop, (∃ m, W 0 m [] (upd H1 D (.lst []))) ∧
      ∀ i m ys H2, W i m ys H2 → H2 D = some (.lst ys) ∧ ((J.stop i H2 ∧ Q (.ref D) H2) ∨ (J.go i H2 ∧ ∀ x H3, J.yld i H2 x H3 →
        tt (some x :: σr) H3 fun b H4 => if b = true then te (some x :: σr) H4 fun y H5 => H5 D = some (.lst ys) ∧ ys.length < sizeLine ∧ ∃ m', m' < m ∧ W (i + 1) m' (ys ++ [y]) (upd H5 D (.lst (ys ++ [y])))
          else ∃ m', m' < m ∧ W (i + 1) m' ys H4))) :
    ∃ W : Nat → Nat → List V → Hp → Prop, (∃ m, W 0 m [] (upd H1 D (.lst []))) ∧
      ∀ i m ys H2, W i m ys H2 → H2 D = some (.lst ys) ∧ ((J.stop i H2 ∧ Q (.ref D) H2) ∨ (J.go i H2 ∧ ∀ x H3, J.yld i H2 x H3 → ∀ zs : St, zs.length = 1 →
        iN 0 x (zs ++ σr) H3 fun σ4 H4 => (∃ zs4 : St, zs4.length = 1 ∧ σ4 = zs4 ++ σr) ∧
          tt σ4 H4 fun b H5 => if b = true then te σ4 H5 fun y H6 => H6 D = some (.lst ys) ∧ ys.length < sizeLine ∧ ∃ m', m' < m ∧ W (i + 1) m' (ys ++ [y]) (upd H6 D (.lst (ys ++ [y])))
            else ∃ m', m' < m ∧ W (i + 1) m' ys H5)) := by
  obtain ⟨W, h0, h⟩ := h
  refine ⟨W, h0, fun i m ys H2 w => ?_⟩
  obtain ⟨h1, h2⟩ := h i m ys H2 w
  refine ⟨h1, h2.imp id fun ⟨g1, g2⟩ => ⟨g1, fun x H3 y zs hz => ?_⟩⟩
  obtain ⟨z, rfl⟩ := ex1 hz
  exact ⟨⟨[some x], rfl, rfl⟩, g2 x H3 y⟩
theorem cmS {tl : TE} {ks : List Nat} {σ : St} {H : Hp} {Q : VK} {tt : TT} {te : TE} (C : Hp → Prop) (hC : ∀ D ys, H D = none → C (upd H D (.lst ys))) (l : List Nat) (p : Nat → Bool) (f : Nat → V) (hl : ∀ R : VK, R (T l) H → tl σ H R) (ha : ∀ c ∈ l, c < 128) (hz : l.length ≤ sizeLine)
    (hp : ∀ c ∈ l, ∀ H (R : Bool → Hp → Prop), C H → R (p c) H → tt (some (T [c]) :: ks.map fun k => (σ[k]?).join) H R) (hf : ∀ c ∈ l, p c = true → ∀ H (R : VK), C H → R (f c) H → te (some (T [c]) :: ks.map fun k => (σ[k]?).join) H R)
    (q : ∀ D, H D = none → Q (.ref D) (upd H D (.lst ((l.filter p).map f)))) : fZ (BN tl) 1 (iN 0) ks tt te σ H Q := by
  refine hl _ ⟨by simpa [cs] using ha, fun D hD => ?_⟩
  have P : ∀ x ∈ l.map fun c => T [c], ∃ c ∈ l, x = T [c] := fun x hx => by
    obtain ⟨c, hc, rfl⟩ := List.mem_map.mp hx; exact ⟨c, hc, rfl⟩
  let hd : V → Nat := fun v => match v with | .str y => (cs y).headD 0 | _ => 0
  have hhd : ∀ c, hd (T [c]) = c := fun c => rfl
  refine fR (kG (xG l) C (fun v => p (hd v)) (fun v => f (hd v)) (by simpa using hz) (fun x hx H R c r => ?_) (fun x hx hb H R c r => ?_) D hD (fun ys => hC D ys hD) ?_)
  · obtain ⟨y, hy, rfl⟩ := P x hx
    exact hp y hy H R c r
  · obtain ⟨y, hy, rfl⟩ := P x hx
    exact hf y hy hb H R c r
  · have e : ((l.map fun c => T [c]).filter fun v => p (hd v)).map (fun v => f (hd v)) = (l.filter p).map f := by
      rw [List.filter_map, List.map_map]
      rfl
    rw [e]; exact q D hD
theorem cmR {ta : TA} {ks : List Nat} {σ : St} {H : Hp} {Q : VK} {tt : TT} {te : TE} (C : Hp → Prop) (hC : ∀ D ys, H D = none → C (upd H D (.lst ys))) (n : Nat) (p : Nat → Bool) (f : Nat → V) (hl : ∀ R : List V → Hp → Prop, R [.int n] H → ta σ H R) (hz : n ≤ sizeLine)
    (hp : ∀ k, k < n → ∀ H (R : Bool → Hp → Prop), C H → R (p k) H → tt (some (.int k) :: ks.map fun k => (σ[k]?).join) H R) (hf : ∀ k, k < n → p k = true → ∀ H (R : VK), C H → R (f k) H → te (some (.int k) :: ks.map fun k => (σ[k]?).join) H R)
    (q : ∀ D, H D = none → Q (.ref D) (upd H D (.lst (((List.range n).filter p).map f)))) : fZ (yj ta) 1 (iN 0) ks tt te σ H Q := by
  have hz' : (n : Int) < 2 ^ 62 := by
    have : sizeLine < 2 ^ 62 := by rw [sizeLine_eq]; decide
    have h2 : n < 2 ^ 62 := by omega
    have e : ((2 ^ 62 : Nat) : Int) = (2 : Int) ^ 62 := by decide
    omega
  refine hl _ ⟨n, rfl, by omega, hz', ?_⟩
  rw [Int.toNat_natCast]
  intro D hD
  have P : ∀ x ∈ (List.range n).map fun k => V.int (k : Nat), ∃ k, k < n ∧ x = .int (k : Nat) := fun x hx => by
    obtain ⟨c, hc, rfl⟩ := List.mem_map.mp hx; exact ⟨c, by simpa using hc, rfl⟩
  let hd : V → Nat := fun v => match v with | .int i => i.toNat | _ => 0
  have hhd : ∀ c : Nat, hd (.int c) = c := fun c => Int.toNat_natCast c
  refine fR (kG (xJ n) C (fun v => p (hd v)) (fun v => f (hd v)) (by simpa using hz) (fun x hx H R c' r => ?_) (fun x hx hb H R c' r => ?_) D hD (fun ys => hC D ys hD) ?_)
  · obtain ⟨c, hc, rfl⟩ := P x hx
    rw [hhd] at r
    exact hp c hc H R c' r
  · obtain ⟨c, hc, rfl⟩ := P x hx
    rw [hhd] at r hb
    exact hf c hc hb H R c' r
  · have e : (((List.range n).map fun k => V.int (k : Nat)).filter fun v => p (hd v)).map (fun v => f (hd v)) = ((List.range n).filter p).map f := by
      rw [List.filter_map, List.map_map]
      have e1 : ((fun v => p (hd v)) ∘ fun k : Nat => V.int (k : Nat)) = p := by funext k; simp only [Function.comp, hhd]
      have e2 : ((fun v => f (hd v)) ∘ fun k : Nat => V.int (k : Nat)) = f := by funext k; simp only [Function.comp, hhd]
      rw [e1, e2]
    rw [e]; exact q D hD
theorem cmT {K : PySem.W.Frag} {tl : TE} {ks : List Nat} {σ : St} {H H1 : Hp} {Q : VK} {tt : TT} {te : TE} (a : Addr) (vs : List V) (C : Hp → Prop) (hC : ∀ D ys, H1 D = none → C (upd H1 D (.lst ys))) (hT : ∀ H, C H → SqT K H a vs) (p : V → Bool) (f : V → V)
    (hl : ∀ R : VK, R (.ref a) H1 → tl σ H R) (h1 : SqT K H1 a vs) (hz : vs.length ≤ sizeLine)
    (hp : ∀ x ∈ vs, ∀ H (R : Bool → Hp → Prop), C H → R (p x) H → tt (some x :: ks.map fun k => (σ[k]?).join) H R) (hf : ∀ x ∈ vs, p x = true → ∀ H (R : VK), C H → R (f x) H → te (some x :: ks.map fun k => (σ[k]?).join) H R)
    (q : ∀ D, H1 D = none → Q (.ref D) (upd H1 D (.lst ((vs.filter p).map f)))) : fZ (vo K tl) 1 (iN 0) ks tt te σ H Q :=
  hl _ ⟨a, rfl, ⟨vs, h1⟩, fun D hD => fR (nF C (xZ hT) p f hz hp hf D hD (fun ys => hC D ys hD) (q D hD))⟩
theorem cmL {K : PySem.W.Frag} {tl : TE} {ks : List Nat} {σ : St} {H H1 : Hp} {Q : VK} {tt : TT} {te : TE} (a : Addr) (vs : List V) (C : Hp → Prop) (hC : ∀ D ys, H1 D = none → C (upd H1 D (.lst ys))) (hT : ∀ H, C H → SqL K H a vs) (p : V → Bool) (f : V → V)
    (hl : ∀ R : VK, R (.ref a) H1 → tl σ H R) (h1 : SqL K H1 a vs) (hz : vs.length ≤ sizeLine)
    (hp : ∀ x ∈ vs, ∀ H (R : Bool → Hp → Prop), C H → R (p x) H → tt (some x :: ks.map fun k => (σ[k]?).join) H R) (hf : ∀ x ∈ vs, p x = true → ∀ H (R : VK), C H → R (f x) H → te (some x :: ks.map fun k => (σ[k]?).join) H R)
    (q : ∀ D, H1 D = none → Q (.ref D) (upd H1 D (.lst ((vs.filter p).map f)))) : fZ (oH K tl) 1 (iN 0) ks tt te σ H Q :=
  hl _ ⟨a, rfl, ⟨vs, h1⟩, fun D hD => fR (nF C (ye hT) p f hz hp hf D hD (fun ys => hC D ys hD) (q D hD))⟩
theorem Cv {ta : TA} {ks : List Nat} {σ : St} {H : Hp} {Q : VK} {tt : TT} {te : TE} (C : Hp → Prop) (hC : ∀ D ys, H D = none → C (upd H D (.lst ys))) (lo hi : Int) (n : Nat) (hn : (hi - lo).toNat = n) (p : V → Bool) (f : V → V) (hl : ∀ R : List V → Hp → Prop, R [.int lo, .int hi] H → ta σ H R) (hb : -(2 ^ 62) ≤ lo ∧ lo < 2 ^ 62 ∧ -(2 ^ 62) ≤ hi ∧ hi < 2 ^ 62) (hz : n ≤ sizeLine)
    (hp : ∀ k : Nat, k < n → ∀ H (R : Bool → Hp → Prop), C H → R (p (.int (lo + k))) H → tt (some (.int (lo + k)) :: ks.map fun k => (σ[k]?).join) H R) (hf : ∀ k : Nat, k < n → p (.int (lo + k)) = true → ∀ H (R : VK), C H → R (f (.int (lo + k))) H → te (some (.int (lo + k)) :: ks.map fun k => (σ[k]?).join) H R)
    (q : ∀ D, H D = none → Q (.ref D) (upd H D (.lst ((((List.range n).map fun k : Nat => V.int (lo + k)).filter p).map f)))) : fZ (wM ta) 1 (iN 0) ks tt te σ H Q := by
  refine hl _ ⟨lo, hi, rfl, hb, ?_⟩
  rw [hn]
  intro D hD
  have P : ∀ x ∈ (List.range n).map fun k : Nat => V.int (lo + k), ∃ k : Nat, k < n ∧ x = .int (lo + k) := fun x hx => by
    obtain ⟨c, hc, rfl⟩ := List.mem_map.mp hx; exact ⟨c, by simpa using hc, rfl⟩
  refine fR (kG (vg lo n) C p f (by simpa using hz) (fun x hx H R c' r => ?_) (fun x hx hb H R c' r => ?_) D hD (fun ys => hC D ys hD) (q D hD))
  · obtain ⟨c, hc, rfl⟩ := P x hx
    exact hp c hc H R c' r
  · obtain ⟨c, hc, rfl⟩ := P x hx
    exact hf c hc hb H R c' r
inductive A2 {α β : Type} (R : α → β → Prop) : List α → List β → Prop
  | nil : A2 R [] []
  | cons {a : α} {b : β} {as : List α} {bs : List β} : R a b → A2 R as bs → A2 R (a :: as) (b :: bs)
namespace A2
variable {α β : Type} {R S : α → β → Prop}
theorem len {as : List α} {bs : List β} (h : A2 R as bs) : as.length = bs.length := by
  induction h with
  | nil => rfl
  | cons _ _ ih => simp [ih]
theorem imp {as : List α} {bs : List β} (h : A2 R as bs) (f : ∀ a b, a ∈ as → b ∈ bs → R a b → S a b) : A2 S as bs := by
  induction h with
  | nil => exact .nil
  | cons r _ ih => exact .cons (f _ _ (.head _) (.head _) r) (ih fun a b ha hb => f a b (.tail _ ha) (.tail _ hb))
theorem at_ {as : List α} {bs : List β} (h : A2 R as bs) : ∀ {i : Nat} {a : α}, as[i]? = some a → ∃ b, bs[i]? = some b ∧ R a b := by
  induction h with
  | nil => intro i a e; simp at e
  | cons r _ ih =>
    intro i a e
    cases i with
    | zero => cases e; exact ⟨_, rfl, r⟩
    | succ i => exact ih (i := i) (by simpa using e)
theorem mem {as : List α} {bs : List β} (h : A2 R as bs) {a : α} (m : a ∈ as) : ∃ b, b ∈ bs ∧ R a b := by
  induction h with
  | nil => cases m
  | cons r _ ih =>
    rcases List.mem_cons.mp m with rfl | m
    · exact ⟨_, .head _, r⟩
    · obtain ⟨b, h1, h2⟩ := ih m
      exact ⟨b, .tail _ h1, h2⟩
theorem app {as : List α} {bs : List β} (h : A2 R as bs) {cs : List α} {ds : List β} (g : A2 R cs ds) : A2 R (as ++ cs) (bs ++ ds) := by
  induction h with
  | nil => exact g
  | cons r _ ih => exact .cons r ih
theorem snoc {as : List α} {bs : List β} {a : α} {b : β} (h : A2 R as bs) (r : R a b) : A2 R (as ++ [a]) (bs ++ [b]) := h.app (.cons r .nil)
theorem rev {as : List α} {bs : List β} (h : A2 R as bs) : A2 R as.reverse bs.reverse := by
  induction h with
  | nil => exact .nil
  | cons r _ ih => rw [List.reverse_cons, List.reverse_cons]; exact ih.snoc r
end A2
def sp6 (f : V → V → V → V → V → V → Hp → VK → XK → Prop) : Sp := fun vs H Q E => match vs with
  | [x, y, z, u, v, a] => f x y z u v a H Q E
  | _ => False
theorem sp6.inv {vs : List V} {H : Hp} {Q : VK} {E : XK} {f} (h : sp6 f vs H Q E) : ∃ x y z u v a, vs = [x, y, z, u, v, a] ∧ f x y z u v a H Q E := by
  unfold sp6 at h
  split at h
  · exact ⟨_, _, _, _, _, _, rfl, h⟩
  · exact h.elim
theorem sp6.len {vs : List V} {H : Hp} {Q : VK} {E : XK} {f} (h : sp6 f vs H Q E) : vs.length = 6 := by obtain ⟨_, _, _, _, _, _, rfl, _⟩ := sp6.inv h; rfl
def sp7 (f : V → V → V → V → V → V → V → Hp → VK → XK → Prop) : Sp := fun vs H Q E => match vs with
  | [x, y, z, u, v, a, b] => f x y z u v a b H Q E
  | _ => False
theorem sp7.inv {vs : List V} {H : Hp} {Q : VK} {E : XK} {f} (h : sp7 f vs H Q E) : ∃ x y z u v a b, vs = [x, y, z, u, v, a, b] ∧ f x y z u v a b H Q E := by
  unfold sp7 at h
  split at h
  · exact ⟨_, _, _, _, _, _, _, rfl, h⟩
  · exact h.elim
theorem sp7.len {vs : List V} {H : Hp} {Q : VK} {E : XK} {f} (h : sp7 f vs H Q E) : vs.length = 7 := by obtain ⟨_, _, _, _, _, _, _, rfl, _⟩ := sp7.inv h; rfl
theorem ex7 {α : Type} {us : List α} (hl : us.length = 7) : ∃ a0 a1 a2 a3 a4 a5 a6, us = [a0, a1, a2, a3, a4, a5, a6] := by
  match us, hl with
  | [a0, a1, a2, a3, a4, a5, a6], _ => exact ⟨_, _, _, _, _, _, _, rfl⟩
open Lean Meta Simp
def yx : List Name := yN ++ [`L2.gK, `Option.join]
def zz : List Name := yQ ++ [`L2.Bh, `L2.tS, `L2.sp5, `L2.sp6, `L2.sp7]
def BC : Name → Bool
  | .str _ s => s.startsWith "sp_"
  | _ => false
def zg (e : Lean.Expr) : MetaM (Option Lean.Expr) := do
  let .const n us := e.getAppFn | return none
  let fr := BC n || yx.contains n
  unless fr || zz.contains n do return none
  let some (.defnInfo d) := (← getEnv).find? n | return none
  let v := d.value.instantiateLevelParams d.levelParams us
  if e.getAppNumArgs < v.getNumHeadLambdas then return none
  let b := v.beta e.getAppArgs
  if fr then return some b
  match ← reduceMatcher? b with
  | .reduced r => return some r
  | .notMatcher => return some b
  | _ => return none
dsimproc_decl xH (_) := fun e => do
  match ← zg e with
  | some r => return .visit r
  | none => return .continue
end L2
set_option Elab.async false
set_option linter.all false
namespace K17
open PySem L2
def wi (l o : List Nat) : Bool := decide (l = o) || oh l (o ++ [58])
theorem yD (l o : List Nat) : wi l o = decide ((l ++ [58]).take (o.length + 1) = o ++ [58]) := by
  unfold wi
  by_cases h : l = o
  · subst h
    rw [decide_eq_true rfl, List.take_of_length_le (by simp), decide_eq_true rfl]; rfl
  · rw [decide_eq_false h, Bool.false_or]
    have e := mZ l (o ++ [58])
    rw [List.length_append, List.length_singleton] at e
    by_cases g : l.length ≤ o.length
    · have n1 : ¬ oh l (o ++ [58]) = true := fun z => by
        have := congrArg List.length (e.mp z)
        rw [List.length_take, List.length_append, List.length_singleton] at this
        omega
      have n2 : ¬ (l ++ [58]).take (o.length + 1) = o ++ [58] := fun z => by
        rw [List.take_of_length_le (by simp; omega)] at z
        exact h (List.append_cancel_right z)
      rw [decide_eq_false n2]
      exact Bool.eq_false_iff.mpr n1
    · rw [List.take_append_of_le_length (by omega)]
      cases hp : oh l (o ++ [58]) with
      | true => rw [decide_eq_true (e.mp hp)]
      | false => rw [decide_eq_false fun z => by rw [e.mpr z] at hp; cases hp]
structure Row where
  pa : List Nat
  cu : List Nat
  am : Int
structure Bk where
  k : Int
  d : Int
  rs : List Row
def amt (rs : List Row) (l c : List Nat) : List Int := (rs.filter fun r => decide (r.cu = c) && wi r.pa l).map (·.am)
def OPN (l c : List Nat) (f : Int) (bs : List Bk) : Int := ((bs.filter fun b => decide (b.d < f)).map fun b => (amt b.rs l c).sum).sum
def mvP (l c : List Nat) (f t : Int) (b : Bk) : Bool := !decide (b.d < f) && (decide (b.d ≤ t) && !(amt b.rs l c).isEmpty)
def mvF (l c : List Nat) (b : Bk) : Int × Int × Int := (b.d, b.k, (amt b.rs l c).sum)
def MVS (l c : List Nat) (f t : Int) (bs : List Bk) : List (Int × Int × Int) := (bs.filter (mvP l c f t)).map (mvF l c)
theorem sD (l c : List Nat) (f : Int) (bs : List Bk) (b : Bk) : OPN l c f (bs ++ [b]) = OPN l c f bs + (if b.d < f then (amt b.rs l c).sum else 0) := by
  unfold OPN
  rw [List.filter_append, List.map_append, List.sum_append]
  by_cases h : b.d < f
  · rw [if_pos h, List.filter_cons_of_pos (by simpa using h)]; simp
  · rw [if_neg h, List.filter_cons_of_neg (by simpa using h)]; simp
theorem rR (l c : List Nat) (f t : Int) (bs : List Bk) (b : Bk) : MVS l c f t (bs ++ [b]) = MVS l c f t bs ++ (if mvP l c f t b = true then [mvF l c b] else []) := by
  unfold MVS
  rw [List.filter_append, List.map_append]
  by_cases h : mvP l c f t b = true
  · rw [if_pos h, List.filter_cons_of_pos h]; simp
  · rw [if_neg h, List.filter_cons_of_neg h]; simp
abbrev cod (e : Int × Int × Int) : Int := e.1 * 64 + e.2.1
theorem xr {l c : List Nat} {f t : Int} {bs : List Bk} (h : (bs.map (·.k)).Nodup) (h2 : ∀ b ∈ bs, 0 ≤ b.k ∧ b.k < 64) : ((MVS l c f t bs).map cod).Nodup := by
  unfold MVS
  rw [List.map_map]
  have h3 : ((bs.filter (mvP l c f t)).map (·.k)).Nodup := (List.filter_sublist.map _).nodup h
  have h4 : ∀ b ∈ bs.filter (mvP l c f t), 0 ≤ b.k ∧ b.k < 64 := fun b hb => h2 b (List.mem_filter.mp hb).1
  generalize bs.filter (mvP l c f t) = xs at h3 h4
  clear h h2
  induction xs with
  | nil => exact .nil
  | cons b r ih =>
    rw [List.map_cons, List.nodup_cons] at h3 ⊢
    refine ⟨fun m => ?_, ih h3.2 fun b hb => h4 b (.tail _ hb)⟩
    obtain ⟨z, hz, e⟩ := List.mem_map.mp m
    refine h3.1 (List.mem_map.mpr ⟨z, hz, ?_⟩)
    have e' : z.d * 64 + z.k = b.d * 64 + b.k := e
    have := h4 b (.head _)
    have := h4 z (.tail _ hz)
    show z.k = b.k
    omega
theorem wL {l c : List Nat} {f t : Int} {bs : List Bk} (h2 : ∀ b ∈ bs, 0 ≤ b.k ∧ b.k < 64) : ∀ e ∈ MVS l c f t bs, 0 ≤ e.2.1 ∧ e.2.1 < 64 := fun e he => by
  obtain ⟨b, hb, rfl⟩ := List.mem_map.mp he
  exact h2 b (List.mem_filter.mp hb).1
abbrev Ord (xs : List (Int × Int × Int)) : Prop := xs.Pairwise fun a b => cod a < cod b
theorem mK : ∀ {a b : List (Int × Int × Int)}, a.Perm b → Ord a → Ord b → a = b
  | [], b, p, _, _ => (List.nil_perm.mp p).symm
  | x :: a, [], p, _, _ => absurd p.symm (by simp)
  | x :: a, y :: b, p, ha, hb => by
    rw [Ord, List.pairwise_cons] at ha hb
    have e : x = y := by
      rcases List.mem_cons.mp (p.mem_iff.mp (List.mem_cons_self ..)) with h | h
      · exact h
      · rcases List.mem_cons.mp (p.mem_iff.mpr (List.mem_cons_self ..)) with g | g
        · exact g.symm
        · have h1 := hb.1 x h
          have h2 := ha.1 y g
          omega
    subst e
    rw [mK ((List.perm_cons _).mp p) ha.2 hb.2]
def LNS (op : Int) : List (Int × Int × Int) → List (Int × Int × Int × Int)
  | [] => []
  | e :: r => (e.2.1, e.1, e.2.2, op + e.2.2) :: LNS (op + e.2.2) r
def bal (op : Int) (xs : List (Int × Int × Int)) : Int := op + (xs.map fun e => e.2.2).sum
theorem rV (op : Int) (xs : List (Int × Int × Int)) (e : Int × Int × Int) : bal op (xs ++ [e]) = bal op xs + e.2.2 := by
  unfold bal; rw [List.map_append, List.sum_append]; simp [Int.add_assoc]
theorem mT (e : Int × Int × Int) : ∀ (xs : List (Int × Int × Int)) (op : Int), LNS op (xs ++ [e]) = LNS op xs ++ [(e.2.1, e.1, e.2.2, bal op xs + e.2.2)]
  | [], op => by simp [LNS, bal]
  | x :: r, op => by
    rw [List.cons_append, LNS, LNS, mT e r, List.cons_append]
    unfold bal
    rw [List.map_cons, List.sum_cons, ← Int.add_assoc]
def rn (bs : List Bk) : List Bk := (List.range bs.length).zipWith (fun (i : Nat) b => { b with k := (i : Int) }) bs
theorem uH (bs : List Bk) (b : Bk) : rn (bs ++ [b]) = rn bs ++ [{ b with k := (bs.length : Int) }] := by
  unfold rn
  rw [List.length_append, List.length_singleton, List.range_succ, List.zipWith_append (by simp)]; rfl
theorem qc (bs : List Bk) : (rn bs).length = bs.length := by unfold rn; simp
theorem CM (bs : List Bk) : (rn bs).map (·.k) = (List.range bs.length).map fun i : Nat => (i : Int) := by
  unfold rn
  rw [List.map_zipWith]
  have : ∀ (xs : List Nat) (bs : List Bk), xs.length = bs.length → xs.zipWith (fun (i : Nat) (b : Bk) => ((i : Int))) bs = xs.map fun i : Nat => (i : Int) := by
    intro xs
    induction xs with
    | nil => intro bs _; rfl
    | cons x r ih =>
      intro bs h
      cases bs with
      | nil => simp at h
      | cons b bs => rw [List.zipWith_cons_cons, ih bs (by simpa using h)]; rfl
  exact this _ _ (by simp)
def Num (bs : List Bk) : Prop := bs.map (·.k) = (List.range bs.length).map fun i : Nat => (i : Int)
theorem Num.nd {bs : List Bk} (h : Num bs) : (bs.map (·.k)).Nodup := by
  rw [h]
  exact List.Pairwise.map _ (fun a b hab e => hab (by omega)) List.nodup_range
theorem Num.rg {bs : List Bk} (h : Num bs) (l : bs.length ≤ 64) : ∀ b ∈ bs, 0 ≤ b.k ∧ b.k < 64 := fun b hb => by
  have m : b.k ∈ bs.map (·.k) := List.mem_map_of_mem hb
  rw [h] at m
  obtain ⟨i, hi, e⟩ := List.mem_map.mp m
  have := List.mem_range.mp hi
  omega
theorem Num.snoc {bs : List Bk} {b : Bk} (h : Num bs) (e : b.k = bs.length) : Num (bs ++ [b]) := by
  unfold Num
  rw [List.map_append, List.length_append, List.length_singleton, List.range_succ, List.map_append, ← h, List.map_singleton, List.map_singleton, e]
theorem Num.rn (bs : List Bk) : Num (rn bs) := by unfold Num; rw [CM, qc]
def sg (a s : Int) (k : Nat) : Nat := 97 + ((a + s * k) % 26).toNat
def wd (a s : Int) (n : Nat) : List Nat := (List.range n).map fun k => sg a s k
def nms (c : Int) (k : Nat) : List Nat :=
  if k < 6 then (wd (c / 250) (1 + c / 10 % 25) (1 + c % 10).toNat).take (c / 6500 % (1 + c % 10 + 1)).toNat ++ [97 + ((c / 71500 + 3 * k) % 26).toNat] ++ (wd (c / 250) (1 + c / 10 % 25) (1 + c % 10).toNat).drop (c / 6500 % (1 + c % 10 + 1)).toNat
  else wd (c / 250) (1 + c / 10 % 25) (1 + c % 10).toNat
theorem BY (a s : Int) (k : Nat) : 97 ≤ sg a s k ∧ sg a s k ≤ 122 := by unfold sg; omega
theorem gh {c : Int} {k : Nat} : 1 ≤ (nms c k).length ∧ (nms c k).length ≤ 11 ∧ ∀ x ∈ nms c k, 97 ≤ x ∧ x ≤ 122 := by
  have hw : (wd (c / 250) (1 + c / 10 % 25) (1 + c % 10).toNat).length = (1 + c % 10).toNat := by simp [wd]
  have hx : ∀ x ∈ wd (c / 250) (1 + c / 10 % 25) (1 + c % 10).toNat, 97 ≤ x ∧ x ≤ 122 := fun x hx => by
    obtain ⟨k, _, rfl⟩ := List.mem_map.mp hx; exact BY _ _ _
  unfold nms
  generalize wd (c / 250) (1 + c / 10 % 25) (1 + c % 10).toNat = w at hw hx
  split
  · refine ⟨by simp; omega, by simp [List.length_take, List.length_drop]; omega, fun x hm => ?_⟩
    rcases List.mem_append.mp hm with h | h
    · rcases List.mem_append.mp h with h | h
      · exact hx x (List.mem_of_mem_take h)
      · rw [List.mem_singleton.mp h]; omega
    · exact hx x (List.mem_of_mem_drop h)
  · exact ⟨by omega, by omega, hx⟩
theorem Ao (c : Int) : nms c 0 ≠ nms c 6 := fun h => by
  have := congrArg List.length h
  unfold nms at this
  rw [if_pos (by decide), if_neg (by decide)] at this
  simp [List.length_take, List.length_drop] at this
  omega
def mX : List Nat := [110, 111, 98, 111, 100, 121]
def dk : List Nat := [122, 108, 97, 116, 101, 122]
def apl (l : List Nat) : Bool := (List.range 5).all fun k => match l[k]?, l[k + 1]?, l[k + 2]? with
  | some x, some y, some z => decide ((2 * (y : Int) - x - z) % 26 = 0)
  | _, _, _ => true
theorem ap3 (a s : Int) (k : Nat) : (2 * (sg a s (k + 1) : Int) - sg a s k - sg a s (k + 2)) % 26 = 0 := by
  unfold sg
  have e1 : s * ((k + 1 : Nat) : Int) = s * k + s := by rw [Int.natCast_add, Int.mul_add]; simp
  have e2 : s * ((k + 2 : Nat) : Int) = s * k + s * 2 := by rw [Int.natCast_add, Int.mul_add]; rfl
  rw [e1, e2]
  generalize s * (k : Int) = t
  omega
theorem ud (a s : Int) (n k : Nat) : (wd a s n)[k]? = if k < n then some (sg a s k) else none := by
  split
  · rename_i h; simp [wd, h]
  · rename_i h; simp [wd]; omega
theorem Ad (a s : Int) (n : Nat) : apl (wd a s n) = true := by
  unfold apl
  rw [List.all_eq_true]
  intro k _
  rw [ud, ud, ud]
  by_cases h : k + 2 < n
  · rw [if_pos h, if_pos (Nat.lt_of_succ_lt h), if_pos (Nat.lt_of_succ_lt (Nat.lt_of_succ_lt h))]
    exact decide_eq_true (ap3 a s k)
  · rw [if_neg h]
    split
    · rename_i h3; cases h3
    · rfl
theorem yZ (w : List Nat) (t g : Nat) : ∃ i, i ≤ w.length ∧ (w.take t ++ [g] ++ w.drop t).eraseIdx i = w := by
  rcases Nat.lt_or_ge w.length t with h | h
  · refine ⟨w.length, Nat.le_refl _, ?_⟩
    rw [List.take_of_length_le (Nat.le_of_lt h), List.drop_of_length_le (Nat.le_of_lt h), List.append_nil, List.eraseIdx_append_of_length_le (Nat.le_refl _), Nat.sub_self]
    simp
  · refine ⟨t, h, ?_⟩
    have e : (w.take t).length = t := by rw [List.length_take]; exact Nat.min_eq_left h
    rw [List.append_assoc, List.eraseIdx_append_of_length_le (Nat.le_of_eq e), e, Nat.sub_self]
    simp
theorem uF {a s : Int} {n g t : Nat} (r : List Nat) (hr : r = mX ∨ r = dk) : (wd a s n).take t ++ [g] ++ (wd a s n).drop t ≠ r ∧ wd a s n ≠ r := by
  have q : ∀ i, i < 7 → apl (r.eraseIdx i) = false := by
    rcases hr with rfl | rfl <;> decide
  have q0 : apl r = false := by rcases hr with rfl | rfl <;> decide
  have ap := Ad a s n
  refine ⟨fun h => ?_, fun h => ?_⟩
  · obtain ⟨i, hi, e⟩ := yZ (wd a s n) t g
    rw [h] at e
    have l : (wd a s n).length < 7 := by
      rw [← e]
      refine Nat.lt_of_le_of_lt (List.length_eraseIdx_le ..) ?_
      rcases hr with rfl | rfl <;> decide
    rw [← e, q i (Nat.lt_of_le_of_lt hi l)] at ap
    cases ap
  · rw [h, q0] at ap; cases ap
theorem uJ {c : Int} {k : Nat} {r : List Nat} (hr : r = mX ∨ r = dk) : nms c k ≠ r := by
  unfold nms
  split
  · exact (uF r hr).1
  · exact (uF (g := 0) (t := 0) r hr).2
inductive eM (c : Int) : List (List Nat) → Prop
  | two : eM c [nms c 0, nms c 6]
  | more {ps : List (List Nat)} {u : List Nat} {k : Nat} : eM c ps → u ∈ ps → u ++ 58 :: nms c k ∉ ps → (spN 58 u).length ≤ 5 → eM c (ps ++ [u ++ 58 :: nms c k])
end K17
set_option maxHeartbeats 400000
namespace K17
open PySem L2
set_option genInjectivity false in
set_option genSizeOf false in
structure Adr where
  iZ : Addr
  lM : FuncData
  js : Addr
  lJ : FuncData
  gZ : Addr
  ju : FuncData
  kM : Addr
  nC : FuncData
  ic : Addr
  jH : FuncData
  kH : Addr
  ny : FuncData
  jp : Addr
  lQ : FuncData
  qJ : Addr
  rD : FuncData
  fw : Addr
  jY : FuncData
  cU : Addr
  e6 : FuncData
  e_ : Addr
  kj : FuncData
  m6 : Addr
  oC : FuncData
  dZ : Addr
  g8 : FuncData
  eU : Addr
  gN : FuncData
  gp : Addr
  iO : FuncData
  gu : Addr
  iU : FuncData
  fV : Addr
  iM : FuncData
  f_ : Addr
  iT : FuncData
  gg : Addr
  iK : FuncData
  dM : Addr
  eT : FuncData
  dJ : Addr
  iS : FuncData
  gb : Addr
  lP : FuncData
  dY : Addr
  io : FuncData
  e9 : Addr
  jS : FuncData
  eK : Addr
  lN : FuncData
  dm : Addr
  kg : FuncData
  eC : Addr
  iQ : FuncData
  dL : Addr
  eP : FuncData
  dD : Addr
  eO : FuncData
  lO : Addr
  xE : FuncData
  cw : Addr
  eg : FuncData
  cX : Addr
  ed : FuncData
  cT : Addr
  fo : FuncData
  c_ : Addr
  fN : FuncData
  fA : Addr
  jV : FuncData
  fE : Addr
  jD : FuncData
  da : Addr
  fK : FuncData
  cz : Addr
  et : FuncData
  d5 : Addr
  gY : FuncData
  ie : Addr
  lU : FuncData
  eW : Addr
  jn : FuncData
  ee : Addr
  fQ : FuncData
  jy : Addr
  oI : Addr
  sd : Addr
  iP : Addr
  lA : Addr
  ph : Addr
  aU : Addr
  uG : Addr
  fJ : Addr
  nI : Addr
  fc : Addr
  je : Addr
  lf : Addr
  aG : Addr
  bq : Addr
  aF : Addr
  jI : Addr
structure Txt (K : PySem.W.Frag) (mg : Str → Option Value) (a : Adr) : Prop where
  i7 : Fun K "is_whole" "is_whole" cD a.iZ a.lM
  t_ : mg "is_whole" = some (.ref a.iZ)
  jf : Fun K "is_among" "is_among" cA a.js a.lJ
  tZ : mg "is_among" = some (.ref a.js)
  gW : Fun K "signs_lie" "signs_lie" cf a.gZ a.ju
  r_ : mg "signs_lie" = some (.ref a.gZ)
  fI : Fun K "is_name" "is_name" cS a.kM a.nC
  pb : mg "is_name" = some (.ref a.kM)
  h_ : Fun K "are_names" "are_names" ce a.ic a.jH
  sE : mg "are_names" = some (.ref a.ic)
  lD : Fun K "is_path" "is_path" cV a.kH a.ny
  vp : mg "is_path" = some (.ref a.kH)
  i9 : Fun K "names_of" "names_of" cC a.jp a.lQ
  tY : mg "names_of" = some (.ref a.jp)
  pW : Fun K "above" "above" eB a.qJ a.rD
  zC : mg "above" = some (.ref a.qJ)
  ib : Fun K "is_within" "is_within" bT a.fw a.jY
  ra : mg "is_within" = some (.ref a.fw)
  dS : Fun K "amounts_within" "amounts_within" aT a.cU a.e6
  lg : mg "amounts_within" = some (.ref a.cU)
  dq : Fun K "statement" "statement" bF a.e_ a.kj
  h8 : mg "statement" = some (.ref a.e_)
  nD : Fun K "is_day" "is_day" dE a.m6 a.oC
  yw : mg "is_day" = some (.ref a.m6)
  fF : Fun K "is_currency" "is_currency" bv a.dZ a.g8
  nW : mg "is_currency" = some (.ref a.dZ)
  bg : Fun K "_law_cell_at" "_law_cell_at" bA a.eU a.gN
  bX : mg "_law_cell_at" = some (.ref a.eU)
  aD : Fun K "_law_mixed" "_law_mixed" bM a.gp a.iO
  aY : mg "_law_mixed" = some (.ref a.gp)
  eE : Fun K "_law_whole" "_law_whole" bN a.gu a.iU
  j4 : mg "_law_whole" = some (.ref a.gu)
  gv : Fun K "_law_names" "_law_names" bO a.fV a.iM
  qP : mg "_law_names" = some (.ref a.fV)
  gn : Fun K "_law_paths" "_law_paths" bQ a.f_ a.iT
  pQ : mg "_law_paths" = some (.ref a.f_)
  gA : Fun K "_law_chart" "_law_chart" bP a.gg a.iK
  pN : mg "_law_chart" = some (.ref a.gg)
  dt : Fun K "_law_currencies" "_law_currencies" aX a.dM a.eT
  jE : mg "_law_currencies" = some (.ref a.dM)
  dH : Fun K "_law_first" "_law_first" bi a.dJ a.iS
  fY : mg "_law_first" = some (.ref a.dJ)
  dR : Fun K "_law_day" "_law_day" cj a.gb a.lP
  i8 : mg "_law_day" = some (.ref a.gb)
  fG : Fun K "_law_amount" "_law_amount" bt a.dY a.io
  om : mg "_law_amount" = some (.ref a.dY)
  im : Fun K "_law_rows" "_law_rows" bU a.e9 a.jS
  sL : mg "_law_rows" = some (.ref a.e9)
  i_ : Fun K "_law_due" "_law_due" bK a.eK a.lN
  tP : mg "_law_due" = some (.ref a.eK)
  cL : Fun K "_law_told" "_law_told" bd a.dm a.kg
  fj : mg "_law_told" = some (.ref a.dm)
  dA : Fun K "_law_asked" "_law_asked" bE a.eC a.iQ
  gB : mg "_law_asked" = some (.ref a.eC)
  cK : Fun K "_law_no_account" "_law_no_account" aZ a.dL a.eP
  fB : mg "_law_no_account" = some (.ref a.dL)
  dw : Fun K "_law_comes_then" "_law_comes_then" aW a.dD a.eO
  jK : mg "_law_comes_then" = some (.ref a.dD)
  Ct : Fun K "law" "law" dQ a.lO a.xE
  CY : mg "law" = some (.ref a.lO)
  df : Fun K "__init__" "Account.__init__" aR a.cw a.eg
  sR : jq K a.aG "__init__" a.cw
  eA : Fun K "stands_on" "Account.stands_on" aN a.cX a.ed
  gS : jq K a.aG "stands_on" a.cX
  fM : Fun K "__init__" "Chart.__init__" bc a.cT a.fo
  uX : jq K a.bq "__init__" a.cT
  gH : Fun K "add_top" "Chart.add_top" a_ a.c_ a.fN
  lB : jq K a.bq "add_top" a.c_
  gT : Fun K "add" "Chart.add" bR a.fA a.jV
  jF : jq K a.bq "add" a.fA
  hV : Fun K "has" "Chart.has" bS a.fE a.jD
  jU : jq K a.bq "has" a.fE
  gG : Fun K "account" "Chart.account" ba a.da a.fK
  kt : jq K a.bq "account" a.da
  eR : Fun K "__init__" "Journal.__init__" aS a.cz a.et
  sQ : jq K a.aF "__init__" a.cz
  iI : Fun K "put" "Journal.put" br a.d5 a.gY
  il : jq K a.aF "put" a.d5
  yk : Fun K "many" "Journal.many" bW a.ie a.lU
  wl : jq K a.aF "many" a.ie
  uO : Fun K "booking" "Journal.booking" bx a.eW a.jn
  t7 : jq K a.aF "booking" a.eW
  gF : Fun K "every" "Journal.every" bj a.ee a.fQ
  kI : jq K a.aF "every" a.ee
  pD : mg "HouseError" = some (.ref a.jy)
  vq : mg "BadName" = some (.ref a.oI)
  wY : mg "BadDay" = some (.ref a.sd)
  oj : mg "BadCurrency" = some (.ref a.iP)
  oS : mg "BadPath" = some (.ref a.lA)
  vB : mg "BadKind" = some (.ref a.ph)
  ii : mg "NoAccount" = some (.ref a.aU)
  uD : mg "Twice" = some (.ref a.uG)
  oY : mg "NotOpen" = some (.ref a.fJ)
  xj : mg "NoRate" = some (.ref a.nI)
  rK : mg "NoBooking" = some (.ref a.fc)
  sW : mg "NoBudget" = some (.ref a.je)
  vQ : mg "NoOrder" = some (.ref a.lf)
  oA : mg "Account" = some (.ref a.aG)
  y0 : mg "Chart" = some (.ref a.bq)
  o7 : mg "Journal" = some (.ref a.aF)
  bH : Cls K a.aG
  hJ : NoAttr K a.aG "kind"
  jh : NoAttr K a.aG "currency"
  gE : NoAttr K a.aG "first"
  db : NoAttr K a.aG "until"
  gM : NoAttr K a.aG "below"
  nn : Mk K a.aG a.cw
  cn : Cls K a.bq
  bJ : NoAttr K a.bq "by_path"
  yl : Mk K a.bq a.cT
  cN : Cls K a.aF
  cE : NoAttr K a.aF "bookings"
  jt : NoAttr K a.aF "undoings"
  mL : Mk K a.aF a.cz
  nL : PySem.W.excIn K a.iP [.type "ValueError", .type "Exception", .type "BaseException", .type "object"] "ValueError.__new__" = true
  yd : PySem.W.excIn K a.sd [.type "ValueError", .type "Exception", .type "BaseException", .type "object"] "ValueError.__new__" = true
  vT : PySem.W.excIn K a.ph [.type "ValueError", .type "Exception", .type "BaseException", .type "object"] "ValueError.__new__" = true
  vM : PySem.W.excIn K a.oI [.type "ValueError", .type "Exception", .type "BaseException", .type "object"] "ValueError.__new__" = true
  pi : PySem.W.excIn K a.lA [.type "ValueError", .type "Exception", .type "BaseException", .type "object"] "ValueError.__new__" = true
  lL : PySem.W.excIn K a.aU [.type "ValueError", .type "Exception", .type "BaseException", .type "object"] "ValueError.__new__" = true
  cO : fH K a.aU
  gk : PySem.W.exmOne K (.ref a.aU) (.ref a.jy) = some true
  gQ : PySem.W.kitOne K (.ref a.aU) (.ref a.aU) = some true
  gO : PySem.W.kitOne K (.ref a.aU) (.ref a.fc) = some false
  ia : PySem.W.kitOne K (.ref a.aU) (.ref a.je) = some false
  iD : PySem.W.kitOne K (.ref a.aU) (.ref a.lf) = some false
  jl : PySem.W.kitOne K (.ref a.aU) (.ref a.nI) = some false
  iF : PySem.W.kitOne K (.ref a.aU) (.ref a.fJ) = some false
  fX : PySem.W.kitOne K (.ref a.aU) (.type "ValueError") = some true
  zW : PySem.W.excIn K a.fc [.type "ValueError", .type "Exception", .type "BaseException", .type "object"] "ValueError.__new__" = true
  vZ : PySem.W.excIn K a.fJ [.type "ValueError", .type "Exception", .type "BaseException", .type "object"] "ValueError.__new__" = true
  u5 : PySem.W.excIn K a.uG [.type "ValueError", .type "Exception", .type "BaseException", .type "object"] "ValueError.__new__" = true
  y8 : mg "KINDS" = some (.ref a.jI)
  jI : ∃ (o : Obj) (its : Array Value) (n : Nat), K.lookup a.jI = some o ∧ o.cls = .type "tuple" ∧ o.data = .seq its n ∧ its.size ≤ sizeLine ∧ Vals (([[104, 97, 118, 101], [111, 119, 101], [111, 119, 110], [103, 97, 105, 110], [99, 111, 115, 116]] : List (List Nat)).map T) its.toList
  pH : mg "ValueError" = none
  ul : mg "all" = none
  wC : mg "bool" = none
  lE : mg "enumerate" = none
  wJ : mg "int" = none
  aK : mg "isinstance" = none
  eQ : mg "len" = none
  uk : mg "list" = none
  B2 : mg "max" = none
  zM : mg "min" = none
  eX : mg "range" = none
  mE : mg "reversed" = none
  qY : mg "sorted" = none
  wF : mg "str" = none
  uQ : mg "sum" = none
  pq : mg "tuple" = none
theorem nN : bootBuiltins "ValueError" = some (.type "ValueError") := by decide +kernel
theorem pX : bootBuiltins "all" = some (.builtin "all") := by decide +kernel
theorem uB : bootBuiltins "bool" = some (.type "bool") := by decide +kernel
theorem t0 : bootBuiltins "int" = some (.type "int") := by decide +kernel
theorem aE : bootBuiltins "isinstance" = some (.builtin "isinstance") := by decide +kernel
theorem dh : bootBuiltins "len" = some (.builtin "len") := by decide +kernel
theorem py : bootBuiltins "list" = some (.type "list") := by decide +kernel
theorem Br : bootBuiltins "max" = some (.builtin "max") := by decide +kernel
theorem wO : bootBuiltins "min" = some (.builtin "min") := by decide +kernel
theorem oJ : bootBuiltins "sorted" = some (.builtin "sorted") := by decide +kernel
theorem tU : bootBuiltins "str" = some (.type "str") := by decide +kernel
theorem qK : bootBuiltins "sum" = some (.builtin "sum") := by decide +kernel
theorem mJ : bootBuiltins "tuple" = some (.type "tuple") := by decide +kernel
theorem se : aB ["thing"] ["thing"] (ag cD) := ⟨rfl, rfl, rfl, by decide +kernel, rfl, by decide +kernel, by decide +kernel⟩
theorem sj {K : PySem.W.Frag} {f : Addr} {fd : FuncData} (F : Fun K "is_whole" "is_whole" cD f fd) : Binds K fd ["thing"] [] := F.binds (ps := ["thing"]) fun _ _ _ _ _ _ us hl => by obtain ⟨_, rfl⟩ := ex1 hl; rfl
theorem qZ : aB ["thing", "least", "most"] ["thing", "least", "most"] (ag cA) := ⟨rfl, rfl, rfl, by decide +kernel, rfl, by decide +kernel, by decide +kernel⟩
theorem rB {K : PySem.W.Frag} {f : Addr} {fd : FuncData} (F : Fun K "is_among" "is_among" cA f fd) : Binds K fd ["thing", "least", "most"] [] := F.binds (ps := ["thing", "least", "most"]) fun _ _ _ _ _ _ us hl => by obtain ⟨_, _, _, rfl⟩ := ex3 hl; rfl
theorem pA : aB ["text", "least", "most"] ["text", "least", "most"] (ag cf) := ⟨rfl, rfl, rfl, by decide +kernel, rfl, by decide +kernel, by decide +kernel⟩
theorem pE {K : PySem.W.Frag} {f : Addr} {fd : FuncData} (F : Fun K "signs_lie" "signs_lie" cf f fd) : Binds K fd ["text", "least", "most"] [] := F.binds (ps := ["text", "least", "most"]) fun _ _ _ _ _ _ us hl => by obtain ⟨_, _, _, rfl⟩ := ex3 hl; rfl
theorem t5 : aB ["thing"] ["thing"] (ag cS) := ⟨rfl, rfl, rfl, by decide +kernel, rfl, by decide +kernel, by decide +kernel⟩
theorem mW {K : PySem.W.Frag} {f : Addr} {fd : FuncData} (F : Fun K "is_name" "is_name" cS f fd) : Binds K fd ["thing"] [] := F.binds (ps := ["thing"]) fun _ _ _ _ _ _ us hl => by obtain ⟨_, rfl⟩ := ex1 hl; rfl
theorem pU : aB ["names"] ["names"] (ag ce) := ⟨rfl, rfl, rfl, by decide +kernel, rfl, by decide +kernel, by decide +kernel⟩
theorem pI {K : PySem.W.Frag} {f : Addr} {fd : FuncData} (F : Fun K "are_names" "are_names" ce f fd) : Binds K fd ["names"] [] := F.binds (ps := ["names"]) fun _ _ _ _ _ _ us hl => by obtain ⟨_, rfl⟩ := ex1 hl; rfl
theorem ug : aB ["thing"] ["thing"] (ag cV) := ⟨rfl, rfl, rfl, by decide +kernel, rfl, by decide +kernel, by decide +kernel⟩
theorem sY {K : PySem.W.Frag} {f : Addr} {fd : FuncData} (F : Fun K "is_path" "is_path" cV f fd) : Binds K fd ["thing"] [] := F.binds (ps := ["thing"]) fun _ _ _ _ _ _ us hl => by obtain ⟨_, rfl⟩ := ex1 hl; rfl
theorem sw : aB ["path"] ["path"] (ag cC) := ⟨rfl, rfl, rfl, by decide +kernel, rfl, by decide +kernel, by decide +kernel⟩
theorem rC {K : PySem.W.Frag} {f : Addr} {fd : FuncData} (F : Fun K "names_of" "names_of" cC f fd) : Binds K fd ["path"] [] := F.binds (ps := ["path"]) fun _ _ _ _ _ _ us hl => by obtain ⟨_, rfl⟩ := ex1 hl; rfl
theorem sA : aB ["path", "names"] ["path"] (ag eB) := ⟨rfl, rfl, rfl, by decide +kernel, rfl, by decide +kernel, by decide +kernel⟩
theorem wG {K : PySem.W.Frag} {f : Addr} {fd : FuncData} (F : Fun K "above" "above" eB f fd) : Binds K fd ["path"] [] := F.binds (ps := ["path"]) fun _ _ _ _ _ _ us hl => by obtain ⟨_, rfl⟩ := ex1 hl; rfl
theorem pM : aB ["path", "other"] ["path", "other"] (ag bT) := ⟨rfl, rfl, rfl, by decide +kernel, rfl, by decide +kernel, by decide +kernel⟩
theorem qa {K : PySem.W.Frag} {f : Addr} {fd : FuncData} (F : Fun K "is_within" "is_within" bT f fd) : Binds K fd ["path", "other"] [] := F.binds (ps := ["path", "other"]) fun _ _ _ _ _ _ us hl => by obtain ⟨_, _, rfl⟩ := ex2 hl; rfl
theorem j6 : aB ["booking", "path", "currency"] ["booking", "path", "currency"] (ag aT) := ⟨rfl, rfl, rfl, by decide +kernel, rfl, by decide +kernel, by decide +kernel⟩
theorem jL {K : PySem.W.Frag} {f : Addr} {fd : FuncData} (F : Fun K "amounts_within" "amounts_within" aT f fd) : Binds K fd ["booking", "path", "currency"] [] := F.binds (ps := ["booking", "path", "currency"]) fun _ _ _ _ _ _ us hl => by obtain ⟨_, _, _, rfl⟩ := ex3 hl; rfl
theorem j9 : aB ["chart", "journal", "path", "currency", "first", "last", "opening", "moves", "booking", "amounts", "lines", "balance", "day", "number", "amount"] ["chart", "journal", "path", "currency", "first", "last"] (ag bF) := ⟨rfl, rfl, rfl, by decide +kernel, rfl, by decide +kernel, by decide +kernel⟩
theorem jJ {K : PySem.W.Frag} {f : Addr} {fd : FuncData} (F : Fun K "statement" "statement" bF f fd) : Binds K fd ["chart", "journal", "path", "currency", "first", "last"] [] := F.binds (ps := ["chart", "journal", "path", "currency", "first", "last"]) fun _ _ _ _ _ _ us hl => by obtain ⟨_, _, _, _, _, _, rfl⟩ := ex6 hl; rfl
theorem vH : aB ["thing"] ["thing"] (ag dE) := ⟨rfl, rfl, rfl, by decide +kernel, rfl, by decide +kernel, by decide +kernel⟩
theorem v8 {K : PySem.W.Frag} {f : Addr} {fd : FuncData} (F : Fun K "is_day" "is_day" dE f fd) : Binds K fd ["thing"] [] := F.binds (ps := ["thing"]) fun _ _ _ _ _ _ us hl => by obtain ⟨_, rfl⟩ := ex1 hl; rfl
theorem mO : aB ["thing"] ["thing"] (ag bv) := ⟨rfl, rfl, rfl, by decide +kernel, rfl, by decide +kernel, by decide +kernel⟩
theorem mI {K : PySem.W.Frag} {f : Addr} {fd : FuncData} (F : Fun K "is_currency" "is_currency" bv f fd) : Binds K fd ["thing"] [] := F.binds (ps := ["thing"]) fun _ _ _ _ _ _ us hl => by obtain ⟨_, rfl⟩ := ex1 hl; rfl
theorem lX : aB ["_law_script", "_law_k"] ["_law_script", "_law_k"] (ag bA) := ⟨rfl, rfl, rfl, by decide +kernel, rfl, by decide +kernel, by decide +kernel⟩
theorem gL {K : PySem.W.Frag} {f : Addr} {fd : FuncData} (F : Fun K "_law_cell_at" "_law_cell_at" bA f fd) : Binds K fd ["_law_script", "_law_k"] [] := F.binds (ps := ["_law_script", "_law_k"]) fun _ _ _ _ _ _ us hl => by obtain ⟨_, _, rfl⟩ := ex2 hl; rfl
theorem nJ : aB ["_law_cell", "_law_k"] ["_law_cell", "_law_k"] (ag bM) := ⟨rfl, rfl, rfl, by decide +kernel, rfl, by decide +kernel, by decide +kernel⟩
theorem d7 {K : PySem.W.Frag} {f : Addr} {fd : FuncData} (F : Fun K "_law_mixed" "_law_mixed" bM f fd) : Binds K fd ["_law_cell", "_law_k"] [] := F.binds (ps := ["_law_cell", "_law_k"]) fun _ _ _ _ _ _ us hl => by obtain ⟨_, _, rfl⟩ := ex2 hl; rfl
theorem ol : aB ["_law_found"] ["_law_found"] (ag bN) := ⟨rfl, rfl, rfl, by decide +kernel, rfl, by decide +kernel, by decide +kernel⟩
theorem nY {K : PySem.W.Frag} {f : Addr} {fd : FuncData} (F : Fun K "_law_whole" "_law_whole" bN f fd) : Binds K fd ["_law_found"] [] := F.binds (ps := ["_law_found"]) fun _ _ _ _ _ _ us hl => by obtain ⟨_, rfl⟩ := ex1 hl; rfl
theorem iL : aB ["_law_cell", "_law_letters", "_law_size", "_law_step", "_law_word", "_law_at", "_law_names_here", "_law_k", "_law_sign"] ["_law_cell"] (ag bO) := ⟨rfl, rfl, rfl, by decide +kernel, rfl, by decide +kernel, by decide +kernel⟩
theorem nU {K : PySem.W.Frag} {f : Addr} {fd : FuncData} (F : Fun K "_law_names" "_law_names" bO f fd) : Binds K fd ["_law_cell"] [] := F.binds (ps := ["_law_cell"]) fun _ _ _ _ _ _ us hl => by obtain ⟨_, rfl⟩ := ex1 hl; rfl
theorem iY : aB ["_law_script", "_law_many", "_law_names_here", "_law_paths_here", "_law_k", "_law_cell", "_law_ahead", "_law_path"] ["_law_script", "_law_many"] (ag bQ) := ⟨rfl, rfl, rfl, by decide +kernel, rfl, by decide +kernel, by decide +kernel⟩
theorem nR {K : PySem.W.Frag} {f : Addr} {fd : FuncData} (F : Fun K "_law_paths" "_law_paths" bQ f fd) : Binds K fd ["_law_script", "_law_many"] [] := F.binds (ps := ["_law_script", "_law_many"]) fun _ _ _ _ _ _ us hl => by obtain ⟨_, _, rfl⟩ := ex2 hl; rfl
theorem iX : aB ["_law_paths_here", "_law_chart_here", "_law_k", "_law_path"] ["_law_paths_here"] (ag bP) := ⟨rfl, rfl, rfl, by decide +kernel, rfl, by decide +kernel, by decide +kernel⟩
theorem nO {K : PySem.W.Frag} {f : Addr} {fd : FuncData} (F : Fun K "_law_chart" "_law_chart" bP f fd) : Binds K fd ["_law_paths_here"] [] := F.binds (ps := ["_law_paths_here"]) fun _ _ _ _ _ _ us hl => by obtain ⟨_, rfl⟩ := ex1 hl; rfl
theorem eS : aB ["_law_cell", "_law_letters", "_law_word", "_law_at"] ["_law_cell"] (ag aX) := ⟨rfl, rfl, rfl, by decide +kernel, rfl, by decide +kernel, by decide +kernel⟩
theorem jk {K : PySem.W.Frag} {f : Addr} {fd : FuncData} (F : Fun K "_law_currencies" "_law_currencies" aX f fd) : Binds K fd ["_law_cell"] [] := F.binds (ps := ["_law_cell"]) fun _ _ _ _ _ _ us hl => by obtain ⟨_, rfl⟩ := ex1 hl; rfl
theorem iW : aB ["_law_month", "_law_year", "_law_day_here", "_law_long_year", "_law_place"] ["_law_month"] (ag bi) := ⟨rfl, rfl, rfl, by decide +kernel, rfl, by decide +kernel, by decide +kernel⟩
theorem oz {K : PySem.W.Frag} {f : Addr} {fd : FuncData} (F : Fun K "_law_first" "_law_first" bi f fd) : Binds K fd ["_law_month"] [] := F.binds (ps := ["_law_month"]) fun _ _ _ _ _ _ us hl => by obtain ⟨_, rfl⟩ := ex1 hl; rfl
theorem sv : aB ["_law_cell", "_law_month"] ["_law_cell", "_law_month"] (ag cj) := ⟨rfl, rfl, rfl, by decide +kernel, rfl, by decide +kernel, by decide +kernel⟩
theorem lF {K : PySem.W.Frag} {f : Addr} {fd : FuncData} (F : Fun K "_law_day" "_law_day" cj f fd) : Binds K fd ["_law_cell", "_law_month"] [] := F.binds (ps := ["_law_cell", "_law_month"]) fun _ _ _ _ _ _ us hl => by obtain ⟨_, _, rfl⟩ := ex2 hl; rfl
theorem g5 : aB ["_law_cell", "_law_some"] ["_law_cell"] (ag bt) := ⟨rfl, rfl, rfl, by decide +kernel, rfl, by decide +kernel, by decide +kernel⟩
theorem mn {K : PySem.W.Frag} {f : Addr} {fd : FuncData} (F : Fun K "_law_amount" "_law_amount" bt f fd) : Binds K fd ["_law_cell"] [] := F.binds (ps := ["_law_cell"]) fun _ _ _ _ _ _ us hl => by obtain ⟨_, rfl⟩ := ex1 hl; rfl
theorem kc : aB ["_law_cell", "_law_paths_here", "_law_currencies_here", "_law_rows_here", "_law_k", "_law_path", "_law_currency", "_law_amount_here"] ["_law_cell", "_law_paths_here", "_law_currencies_here"] (ag bU) := ⟨rfl, rfl, rfl, by decide +kernel, rfl, by decide +kernel, by decide +kernel⟩
theorem qC {K : PySem.W.Frag} {f : Addr} {fd : FuncData} (F : Fun K "_law_rows" "_law_rows" bU f fd) : Binds K fd ["_law_cell", "_law_paths_here", "_law_currencies_here"] [] := F.binds (ps := ["_law_cell", "_law_paths_here", "_law_currencies_here"]) fun _ _ _ _ _ _ us hl => by obtain ⟨_, _, _, rfl⟩ := ex3 hl; rfl
theorem lK : aB ["_law_booked", "_law_path", "_law_currency", "_law_first_here", "_law_last", "_law_opening", "_law_lines", "_law_number", "_law_day_here", "_law_rows_here", "_law_amounts", "_law_found", "_law_balance", "_law_amount_here"] ["_law_booked", "_law_path", "_law_currency", "_law_first_here", "_law_last"] (ag bK) := ⟨rfl, rfl, rfl, by decide +kernel, rfl, by decide +kernel, by decide +kernel⟩
theorem ro {K : PySem.W.Frag} {f : Addr} {fd : FuncData} (F : Fun K "_law_due" "_law_due" bK f fd) : Binds K fd ["_law_booked", "_law_path", "_law_currency", "_law_first_here", "_law_last"] [] := F.binds (ps := ["_law_booked", "_law_path", "_law_currency", "_law_first_here", "_law_last"]) fun _ _ _ _ _ _ us hl => by obtain ⟨_, _, _, _, _, rfl⟩ := ex5 hl; rfl
theorem jR : aB ["_law_chart_here", "_law_journal", "_law_booked", "_law_query", "_law_held", "_law_path", "_law_currency", "_law_first_here", "_law_last", "_law_due_here", "_law_found", "_law_line"] ["_law_chart_here", "_law_journal", "_law_booked", "_law_query", "_law_held"] (ag bd) := ⟨rfl, rfl, rfl, by decide +kernel, rfl, by decide +kernel, by decide +kernel⟩
theorem jZ {K : PySem.W.Frag} {f : Addr} {fd : FuncData} (F : Fun K "_law_told" "_law_told" bd f fd) : Binds K fd ["_law_chart_here", "_law_journal", "_law_booked", "_law_query", "_law_held"] [] := F.binds (ps := ["_law_chart_here", "_law_journal", "_law_booked", "_law_query", "_law_held"]) fun _ _ _ _ _ _ us hl => by obtain ⟨_, _, _, _, _, rfl⟩ := ex5 hl; rfl
theorem iV : aB ["_law_cell", "_law_base", "_law_paths_here", "_law_currencies_here", "_law_first_here", "_law_last"] ["_law_cell", "_law_base", "_law_paths_here", "_law_currencies_here"] (ag bE) := ⟨rfl, rfl, rfl, by decide +kernel, rfl, by decide +kernel, by decide +kernel⟩
theorem on {K : PySem.W.Frag} {f : Addr} {fd : FuncData} (F : Fun K "_law_asked" "_law_asked" bE f fd) : Binds K fd ["_law_cell", "_law_base", "_law_paths_here", "_law_currencies_here"] [] := F.binds (ps := ["_law_cell", "_law_base", "_law_paths_here", "_law_currencies_here"]) fun _ _ _ _ _ _ us hl => by obtain ⟨_, _, _, _, rfl⟩ := ex4 hl; rfl
theorem eN : aB ["_law_chart_here", "_law_journal", "_law_path", "_law_currency", "e", "_law_others"] ["_law_chart_here", "_law_journal", "_law_path", "_law_currency"] (ag aZ) := ⟨rfl, rfl, rfl, by decide +kernel, rfl, by decide +kernel, by decide +kernel⟩
theorem jo {K : PySem.W.Frag} {f : Addr} {fd : FuncData} (F : Fun K "_law_no_account" "_law_no_account" aZ f fd) : Binds K fd ["_law_chart_here", "_law_journal", "_law_path", "_law_currency"] [] := F.binds (ps := ["_law_chart_here", "_law_journal", "_law_path", "_law_currency"]) fun _ _ _ _ _ _ us hl => by obtain ⟨_, _, _, _, rfl⟩ := ex4 hl; rfl
theorem eV : aB ["_law_chart_here", "_law_journal", "_law_booked", "_law_odd", "_law_paths_here", "_law_currency", "_law_held", "_law_fresh"] ["_law_chart_here", "_law_journal", "_law_booked", "_law_odd", "_law_paths_here", "_law_currency", "_law_held"] (ag aW) := ⟨rfl, rfl, rfl, by decide +kernel, rfl, by decide +kernel, by decide +kernel⟩
theorem jc {K : PySem.W.Frag} {f : Addr} {fd : FuncData} (F : Fun K "_law_comes_then" "_law_comes_then" aW f fd) : Binds K fd ["_law_chart_here", "_law_journal", "_law_booked", "_law_odd", "_law_paths_here", "_law_currency", "_law_held"] [] := F.binds (ps := ["_law_chart_here", "_law_journal", "_law_booked", "_law_odd", "_law_paths_here", "_law_currency", "_law_held"]) fun _ _ _ _ _ _ us hl => by obtain ⟨_, _, _, _, _, _, _, rfl⟩ := ex7 hl; rfl
theorem wx : aB ["_law_script", "_law_base", "_law_paths_here", "_law_currencies_here", "_law_chart_here", "_law_journal", "_law_booked", "_law_held", "_law_k", "_law_rows_here", "_law_day_here", "_law_handed", "_law_one", "_law_other", "_law_query", "_law_back", "_law_number", "_law_mine", "_law_odd"] ["_law_script"] (ag dQ) := ⟨rfl, rfl, rfl, by decide +kernel, rfl, by decide +kernel, by decide +kernel⟩
theorem iG : aB ["self", "kind", "currency", "first"] ["self", "kind", "currency", "first"] (ag aR) := ⟨rfl, rfl, rfl, by decide +kernel, rfl, by decide +kernel, by decide +kernel⟩
theorem ez {K : PySem.W.Frag} {f : Addr} {fd : FuncData} (F : Fun K "__init__" "Account.__init__" aR f fd) : Binds K fd ["self", "kind", "currency", "first"] [] := F.binds (ps := ["self", "kind", "currency", "first"]) fun _ _ _ _ _ _ us hl => by obtain ⟨_, _, _, _, rfl⟩ := ex4 hl; rfl
theorem ik : aB ["self", "day"] ["self", "day"] (ag aN) := ⟨rfl, rfl, rfl, by decide +kernel, rfl, by decide +kernel, by decide +kernel⟩
theorem ij {K : PySem.W.Frag} {f : Addr} {fd : FuncData} (F : Fun K "stands_on" "Account.stands_on" aN f fd) : Binds K fd ["self", "day"] [] := F.binds (ps := ["self", "day"]) fun _ _ _ _ _ _ us hl => by obtain ⟨_, _, rfl⟩ := ex2 hl; rfl
theorem jP : aB ["self"] ["self"] (ag bc) := ⟨rfl, rfl, rfl, by decide +kernel, rfl, by decide +kernel, by decide +kernel⟩
theorem ke {K : PySem.W.Frag} {f : Addr} {fd : FuncData} (F : Fun K "__init__" "Chart.__init__" bc f fd) : Binds K fd ["self"] [] := F.binds (ps := ["self"]) fun _ _ _ _ _ _ us hl => by obtain ⟨_, rfl⟩ := ex1 hl; rfl
theorem lj : aB ["self", "name", "kind"] ["self", "name", "kind"] (ag a_) := ⟨rfl, rfl, rfl, by decide +kernel, rfl, by decide +kernel, by decide +kernel⟩
theorem kW {K : PySem.W.Frag} {f : Addr} {fd : FuncData} (F : Fun K "add_top" "Chart.add_top" a_ f fd) : Binds K fd ["self", "name", "kind"] [] := F.binds (ps := ["self", "name", "kind"]) fun _ _ _ _ _ _ us hl => by obtain ⟨_, _, _, rfl⟩ := ex3 hl; rfl
theorem jx : aB ["self", "path", "currency", "day", "upper"] ["self", "path", "currency", "day"] (ag bR) := ⟨rfl, rfl, rfl, by decide +kernel, rfl, by decide +kernel, by decide +kernel⟩
theorem jA {K : PySem.W.Frag} {f : Addr} {fd : FuncData} (F : Fun K "add" "Chart.add" bR f fd) : Binds K fd ["self", "path", "currency", "day"] [] := F.binds (ps := ["self", "path", "currency", "day"]) fun _ _ _ _ _ _ us hl => by obtain ⟨_, _, _, _, rfl⟩ := ex4 hl; rfl
theorem qj : aB ["self", "path"] ["self", "path"] (ag bS) := ⟨rfl, rfl, rfl, by decide +kernel, rfl, by decide +kernel, by decide +kernel⟩
theorem jz {K : PySem.W.Frag} {f : Addr} {fd : FuncData} (F : Fun K "has" "Chart.has" bS f fd) : Binds K fd ["self", "path"] [] := F.binds (ps := ["self", "path"]) fun _ _ _ _ _ _ us hl => by obtain ⟨_, _, rfl⟩ := ex2 hl; rfl
theorem k_ : aB ["self", "path"] ["self", "path"] (ag ba) := ⟨rfl, rfl, rfl, by decide +kernel, rfl, by decide +kernel, by decide +kernel⟩
theorem km {K : PySem.W.Frag} {f : Addr} {fd : FuncData} (F : Fun K "account" "Chart.account" ba f fd) : Binds K fd ["self", "path"] [] := F.binds (ps := ["self", "path"]) fun _ _ _ _ _ _ us hl => by obtain ⟨_, _, rfl⟩ := ex2 hl; rfl
theorem iB : aB ["self"] ["self"] (ag aS) := ⟨rfl, rfl, rfl, by decide +kernel, rfl, by decide +kernel, by decide +kernel⟩
theorem iH {K : PySem.W.Frag} {f : Addr} {fd : FuncData} (F : Fun K "__init__" "Journal.__init__" aS f fd) : Binds K fd ["self"] [] := F.binds (ps := ["self"]) fun _ _ _ _ _ _ us hl => by obtain ⟨_, rfl⟩ := ex1 hl; rfl
theorem g_ : aB ["self", "day", "note", "rows", "undoes", "number"] ["self", "day", "note", "rows", "undoes"] (ag br) := ⟨rfl, rfl, rfl, by decide +kernel, rfl, by decide +kernel, by decide +kernel⟩
theorem nr {K : PySem.W.Frag} {f : Addr} {fd : FuncData} (F : Fun K "put" "Journal.put" br f fd) : Binds K fd ["self", "day", "note", "rows", "undoes"] [] := F.binds (ps := ["self", "day", "note", "rows", "undoes"]) fun _ _ _ _ _ _ us hl => by obtain ⟨_, _, _, _, _, rfl⟩ := ex5 hl; rfl
theorem lC : aB ["self"] ["self"] (ag bj) := ⟨rfl, rfl, rfl, by decide +kernel, rfl, by decide +kernel, by decide +kernel⟩
theorem ky {K : PySem.W.Frag} {f : Addr} {fd : FuncData} (F : Fun K "every" "Journal.every" bj f fd) : Binds K fd ["self"] [] := F.binds (ps := ["self"]) fun _ _ _ _ _ _ us hl => by obtain ⟨_, rfl⟩ := ex1 hl; rfl
seal L2.PE L2.PT L2.PW L2.PA L2.PS L2.PSs L2.PI L2.PG L2.PGs L2.PO
local macro_rules | `(tactic| walk_at "rd") => `(tactic| try simp only [xH, rdI, V.int.injEq, V.ref.injEq, uS, xQ, uK, uo, xb, xI, wX, xF, xK, L2.gK, List.map_cons, List.map_nil, List.cons_append, List.nil_append, List.append_nil, List.length_cons, List.length_nil, List.replicate, List.getElem?_cons_zero, List.getElem?_cons_succ, List.set_cons_zero, List.set_cons_succ, Nat.reduceSub, Nat.reduceAdd, Int.reduceLT, Int.reduceLE, Int.reducePow, Int.reduceNeg, Nat.reducePow, List.cons.injEq, exists_eq_left', exists_eq_left, eq_self, if_false, if_true, ↓reduceIte, ite_not, forall_const, Option.bind_some, id_eq])
local macro_rules | `(tactic| walk_at "om") => `(tactic| first | exact Nat.le_trans (by decide) (by assumption : 1000 ≤ sizeLine) | omega)
section
variable {pS : Addr} {ns : List Int} {P : Program} {w : World} {K : PySem.W.Frag} {mg : Str → Option Value} {base : Heap} {a : Adr}
def sp_sC : Sp := sp1 fun x H Q _ => NoT H ∧ asK H x fun _ => Q (.bl (isI x)) H
theorem rY (T : Txt K mg a) : bD P w K mg base (XE P w) 1 a.iZ a.lM ["thing"] sp_sC := by
  refine T.i7.okG se (fun vs H Q E h => sp1.len h) (fun cdv A outer s H vs Q E hr h => ?_)
  obtain ⟨x0, rfl, h⟩ := sp1.inv h
  obtain ⟨hN, h1⟩ := h
  obtain ⟨t, ht, hb, k⟩ := asK.inv h1
  refine ⟨hN, _, (ak (aH (dv (ay (b7 K) rfl T.aK aE (FA.pa (aa (fv 0) (aa (dN (v := .ty "int") rfl T.wJ t0 rfl) af)))) (de (pC (ay (b7 K) rfl T.aK aE (FA.pa (aa (fv 0) (aa (dN (v := .ty "bool") rfl T.wC uB rfl) af))))))))), ?_⟩
  walk_at "rd"
  simp only [ht]
  rw [← sI ht] at k
  rcases hb with rfl | rfl | rfl | rfl | rfl | rfl | rfl
  all_goals first
    | exact A7 k
    | exact vj k
def amg (x : V) (lo hi : Int) : Bool := match x with
  | .int i => decide (lo ≤ i) && decide (i ≤ hi)
  | _ => false
theorem yI {x : V} {lo hi : Int} (h : isI x = false) : amg x lo hi = false := by
  unfold amg
  split
  · cases h
  · rfl
def sp_sO : Sp := sp3 fun x y z H Q _ => NoT H ∧ asI y fun lo => asI z fun hi => asK H x fun _ => Q (.bl (amg x lo hi)) H
theorem rT (T : Txt K mg a) : bD P w K mg base (XE P w) 2 a.js a.lJ ["thing", "least", "most"] sp_sO := by
  refine T.jf.okG qZ (fun vs H Q E h => sp3.len h) (fun cdv A outer s H vs Q E hr h => ?_)
  obtain ⟨x0, x1, x2, rfl, h⟩ := sp3.inv h
  obtain ⟨hN, h1⟩ := h
  obtain ⟨lo, rfl, h2⟩ := asI.inv h1
  obtain ⟨hi, rfl, h3⟩ := asI.inv h2
  obtain ⟨t, ht, hb, k⟩ := asK.inv h3
  have G_is_whole := rY (P := P) (w := w) (base := base) T
  have b_is_whole := sj T.i7
  refine ⟨hN, _, (ak (aH (dv (au G_is_whole (hr.mono (by decide)) rfl T.t_ T.i7.kp b_is_whole .nil aC (FA.pa (aa (fv 0) af))) (de (kf h9 h9 (fv 1) (fv 0) (fv 2)))))), ?_⟩
  walk_at "rd"
  refine ⟨hN, asK.of ht ?_⟩
  cases e : isI x0 with
  | false =>
    rw [yI e] at k
    exact vj k
  | true =>
    cases x0 with
    | int i =>
      refine A7 ?_
      walk_at "rd"
      split
      · rename_i h1
        have e : amg (.int i) lo hi = decide (i ≤ hi) := by simp [amg, h1]
        rw [e] at k; exact k
      · rename_i h1
        have e : amg (.int i) lo hi = false := by simp [amg, h1]
        rw [e] at k; exact k
    | _ => cases e
def sp_v_ : Sp := sp1 fun x H Q _ => NoT H ∧ asK H x fun _ => Q (.bl (amg x 0 146096)) H
theorem vm (T : Txt K mg a) : bD P w K mg base (XE P w) 3 a.m6 a.oC ["thing"] sp_v_ := by
  refine T.nD.okG vH (fun vs H Q E h => sp1.len h) (fun cdv A outer s H vs Q E hr h => ?_)
  obtain ⟨x0, rfl, h⟩ := sp1.inv h
  obtain ⟨hN, h1⟩ := h
  have G_is_among := rT (P := P) (w := w) (base := base) T
  have b_is_among := rB T.jf
  refine ⟨hN, _, (ak (aH (au G_is_among (hr.mono (by decide)) rfl T.tZ T.jf.kp b_is_among .nil aC (FA.pa (aa (fv 0) (aa ad (aa ad af))))))), ?_⟩
  walk_at "rd"
  exact ⟨hN, h1⟩
def sp_v5 : Sp := sp1 fun _ _ _ _ => False
theorem mV (T : Txt K mg a) : bD P w K mg base (XE P w) 2 a.dZ a.g8 ["thing"] sp_v5 := by
  refine T.fF.okG mO (fun vs H Q E h => sp1.len h) (fun cdv A outer s H vs Q E hr h => ?_)
  obtain ⟨x0, rfl, h⟩ := sp1.inv h
  have HU : (cG (XE P w) P w K mg base ["thing"] "is_currency" (ag bv) a.dZ cdv A outer s H (gcE H E)).A.units + 100 < cLine := bL hr
  exact h.elim
theorem AS (a b : Nat) : leN [a] [b] = decide (a ≤ b) := by
  unfold leN
  have h : ([b] < [a]) ↔ b < a := by
    rw [List.cons_lt_cons_iff]; simp
  rw [decide_eq_decide.mpr h]
  by_cases h2 : b < a
  · rw [decide_eq_true h2, decide_eq_false (by walk_at "om")]; rfl
  · rw [decide_eq_false h2, decide_eq_true (by walk_at "om")]; rfl
local macro_rules | `(tactic| walk_at "rd") => `(tactic| try simp only [xH, rdI, V.int.injEq, V.ref.injEq, uS, xQ, uK, uo, xb, xI, wX, xF, xK, L2.gK, List.map_cons, List.map_nil, List.cons_append, List.nil_append, List.append_nil, List.length_cons, List.length_nil, List.replicate, List.getElem?_cons_zero, List.getElem?_cons_succ, List.set_cons_zero, List.set_cons_succ, Nat.reduceSub, Nat.reduceAdd, Int.reduceLT, Int.reduceLE, Int.reducePow, Int.reduceNeg, Nat.reducePow, List.cons.injEq, exists_eq_left', exists_eq_left, eq_self, if_false, if_true, ↓reduceIte, ite_not, forall_const, Option.bind_some, id_eq, AS])
def ok (l : List Nat) : Prop := (∀ c ∈ l, c < 128) ∧ l.length ≤ 1000
theorem ur {l : List Nat} (h : ok l) : l.length ≤ sizeLine := Nat.le_trans h.2 (by rw [sizeLine_eq]; decide)
def lie (l : List Nat) (a b : Nat) : Bool := l.all fun c => decide (a ≤ c) && decide (c ≤ b)
def sp_pv : Sp := sp3 fun x y z H Q _ => NoT H ∧ asT x fun l => asT y fun lo => asT z fun hi => ok l ∧ ∃ a b, lo = [a] ∧ hi = [b] ∧ Q (.bl (lie l a b)) H
theorem qy (T : Txt K mg a) : bD P w K mg base (XE P w) 1 a.gZ a.ju ["text", "least", "most"] sp_pv := by
  refine T.gW.okG pA (fun vs H Q E h => sp3.len h) (fun cdv A outer s H vs Q E hr h => ?_)
  obtain ⟨x0, x1, x2, rfl, h⟩ := sp3.inv h
  obtain ⟨hN, h1⟩ := h
  obtain ⟨l, rfl, h2⟩ := asT.inv h1
  obtain ⟨lo, rfl, h3⟩ := asT.inv h2
  obtain ⟨hi, rfl, hl, a, b, rfl, rfl, k⟩ := asT.inv h3
  refine ⟨hN, _, (ak (aH (ay (l_ K rfl) rfl T.ul pX (FA.pa (aa (d_ rfl (cl := _) (x := "sign") (xs := ["sign"]) (fr := ["least", "most"]) (ks := [1, 2]) (by exact ⟨rfl, by decide +kernel, rfl, by decide +kernel, rfl, d8 rfl, rfl, bo rfl, bo (k := fun y => List.lookup y _) rfl, dX rfl⟩) rfl (A5 (fv 0)) (fun _ _ _ _ _ => (aI (i := 0) (hZ (l := ["sign", "least", "most"]) (by decide)) rfl (Or.inl rfl))) (fun _ _ _ _ _ => eZ) (fun _ _ _ _ _ => (kf h9 h9 (fv 1) (fv 0) (fv 2)))) af))))), ?_⟩
  walk_at "rd"
  refine cmS (fun _ => True) (fun _ _ _ => trivial) l (fun _ => true) (fun c => .bl (decide (a ≤ c) && decide (c ≤ b))) (fun R r => r) hl.1 (ur hl) (fun c _ H R _ r => r) (fun c _ _ H R _ r => ?_) (fun D hD => ?_)
  · walk_at "rd"
    by_cases h1 : a ≤ c
    · simp only [h1, decide_true, Bool.true_and] at r ⊢
      exact r
    · simp only [h1, decide_false, Bool.false_and] at r ⊢
      exact r
  · refine ⟨l.map fun c => decide (a ≤ c) && decide (c ≤ b), SqL.of (by rw [ae, List.filter_eq_self.mpr (by simp), List.map_map]; rfl), H, Gc.none (ai _ hD), ?_⟩
    have e : (l.map fun c => decide (a ≤ c) && decide (c ≤ b)).all id = lie l a b := by
      rw [List.all_map]; rfl
    rw [e]; exact k
theorem pO {H : Hp} {x : V} {t : String} (ht : b4 H x = some t) (h : ¬ ∃ l, x = .str ⟨⟨l⟩⟩) : b5 t "str" = false := by
  unfold b4 at ht
  split at ht
  case h_4 y => exact absurd ⟨y.cps.toList, rfl⟩ h
  case h_5 => split at ht <;> cases ht <;> decide
  all_goals (cases ht <;> decide)
def okV (x : V) : Prop := ∀ l, x = .str ⟨⟨l⟩⟩ → ok l
def nm (l : List Nat) : Bool := decide (1 ≤ l.length) && decide (l.length ≤ 12) && lie l 97 122
def nameV : V → Bool
  | .str y => nm (cs y)
  | _ => false
def sp_t8 : Sp := sp1 fun x H Q _ => NoT H ∧ okV x ∧ asK H x fun _ => Q (.bl (nameV x)) H
theorem m3 (T : Txt K mg a) : bD P w K mg base (XE P w) 2 a.kM a.nC ["thing"] sp_t8 := by
  refine T.fI.okG t5 (fun vs H Q E h => sp1.len h) (fun cdv A outer s H vs Q E hr h => ?_)
  obtain ⟨x0, rfl, h⟩ := sp1.inv h
  obtain ⟨hN, ho, h1⟩ := h
  obtain ⟨t, ht, hb, k⟩ := asK.inv h1
  have G_signs_lie := qy (P := P) (w := w) (base := base) T
  have b_signs_lie := pE T.gW
  refine ⟨hN, _, (ak (aH (dv (ay (b7 K) rfl T.aK aE (FA.pa (aa (fv 0) (aa (dN (v := .ty "str") rfl T.wF tU rfl) af)))) (dv (kf h9 h9 ad (ay (cy K) rfl T.eQ dh (FA.pa (aa (fv 0) af))) ad) (de (au G_signs_lie (hr.mono (by decide)) rfl T.r_ T.gW.kp b_signs_lie .nil aC (FA.pa (aa (fv 0) (aa (aL [97]) (aa (aL [122]) af)))))))))), ?_⟩
  by_cases hx : ∃ l, x0 = .str ⟨⟨l⟩⟩
  · obtain ⟨l, rfl⟩ := hx
    have hl := ho l rfl
    have k' : Q (.bl (nm l)) H := k
    cases ht
    walk_at "rd"
    refine ⟨ur hl, ?_⟩
    split
    · rename_i h1
      split
      · rename_i h2
        have e : nm l = lie l 97 122 := by
          unfold nm; rw [decide_eq_true (by walk_at "om"), decide_eq_true (by walk_at "om")]; rfl
        rw [e] at k'
        exact ⟨hN, hl, 97, 122, rfl, rfl, k'⟩
      · rename_i h2
        have e : nm l = false := by
          unfold nm; rw [decide_eq_false (by walk_at "om" : ¬ l.length ≤ 12)]; simp
        rw [e] at k'; exact k'
    · rename_i h1
      have e : nm l = false := by
        unfold nm; rw [decide_eq_false (by walk_at "om" : ¬ 1 ≤ l.length)]; simp
      rw [e] at k'; exact k'
  · have e := pO ht hx
    have e2 : nameV x0 = false := by
      cases x0 with
      | str y => exact absurd ⟨y.cps.toList, rfl⟩ hx
      | _ => rfl
    rw [e2] at k
    walk_at "rd"
    simp only [ht]
    rw [e]
    exact vj k
def sp_qx (K : PySem.W.Frag) : Sp := sp1 fun x H Q _ => asR x fun p => NoT H ∧ ∃ xs, SqL K H p xs ∧ xs.length ≤ 300 ∧ (∀ y ∈ xs, okV y ∧ ∃ t, b4 H y = some t) ∧ Q (.bl (decide (1 ≤ xs.length) && decide (xs.length ≤ 6) && xs.all nameV)) H
theorem qH (T : Txt K mg a) : bD P w K mg base (XE P w) 3 a.ic a.jH ["names"] (sp_qx K) := by
  refine T.h_.okG pU (fun vs H Q E h => sp1.len h) (fun cdv A outer s H vs Q E hr h => ?_)
  obtain ⟨x0, rfl, h⟩ := sp1.inv h
  obtain ⟨p, rfl, hN, xs, hS, hl, hx, k⟩ := asR.inv h
  have G_is_name := m3 (P := P) (w := w) (base := base) T
  have b_is_name := mW T.fI
  refine ⟨hN, _, (ak (aH (dv (kf h9 h9 ad (ay (cy K) rfl T.eQ dh (FA.pa (aa (fv 0) af))) ad) (de (ay (l_ K rfl) rfl T.ul pX (FA.pa (aa (d_ rfl (cl := _) (x := "name") (xs := ["name"]) (fr := []) (ks := []) (by exact ⟨rfl, by decide +kernel, rfl, by decide +kernel, rfl, d8 rfl, rfl, bo rfl, bo (k := fun y => List.lookup y _) rfl, dX rfl⟩) rfl (d9 K (fv 0)) (fun _ _ _ _ _ => (aI (i := 0) (hZ (l := ["name"]) (by decide)) rfl (Or.inl rfl))) (fun _ _ _ _ _ => eZ) (fun _ _ _ _ _ => (au G_is_name (hr.mono (by decide)) rfl T.pb T.fI.kp b_is_name .nil xD (FA.pa (aa (fv 0) af))))) af))))))), ?_⟩
  walk_at "rd"
  refine ⟨xs, .inl hS, ?_⟩
  have sz : 1000 ≤ sizeLine := by rw [sizeLine_eq]; decide
  split
  · rename_i h1
    split
    · rename_i h2
      have e : (decide (1 ≤ xs.length) && decide (xs.length ≤ 6) && xs.all nameV) = xs.all nameV := by
        rw [decide_eq_true (by walk_at "om"), decide_eq_true (by walk_at "om")]; rfl
      rw [e] at k
      refine cmL p xs (fun H' => NoT H' ∧ SqL K H' p xs ∧ Same H H') (fun D ys hD => ⟨ao hN rfl, hS.same (ai _ hD), ai _ hD⟩) (fun H' c => c.2.1) (fun _ => true) (fun x => .bl (nameV x)) (fun R r => r) hS (by walk_at "om") (fun x _ H' R _ r => r) (fun x hx' _ H' R c r => ?_) (fun D hD => ?_)
      · obtain ⟨o1, t, o2⟩ := hx x hx'
        walk_at "rd"
        exact ⟨c.1, o1, asK.of (vR c.2.2 o2) r⟩
      · refine ⟨xs.map nameV, SqL.of (by rw [ae, List.filter_eq_self.mpr (by simp), List.map_map]; rfl), H, Gc.none (ai _ hD), ?_⟩
        rw [List.all_map]; exact k
    · rename_i h2
      have e : (decide (1 ≤ xs.length) && decide (xs.length ≤ 6) && xs.all nameV) = false := by
        rw [decide_eq_false (by walk_at "om" : ¬ xs.length ≤ 6)]; simp
      rw [e] at k; exact k
  · rename_i h1
    have e : (decide (1 ≤ xs.length) && decide (xs.length ≤ 6) && xs.all nameV) = false := by
      rw [decide_eq_false (by walk_at "om" : ¬ 1 ≤ xs.length)]; simp
    rw [e] at k; exact k
def iJ (l : List Nat) : Bool := decide (1 ≤ (spN 58 l).length) && decide ((spN 58 l).length ≤ 6) && (spN 58 l).all nm
def qT : V → Bool
  | .str y => iJ (cs y)
  | _ => false
def okP (x : V) : Prop := ∀ l, x = .str ⟨⟨l⟩⟩ → (∀ c ∈ l, c < 128) ∧ l.length ≤ 199
def sp_tW : Sp := sp1 fun x H Q _ => NoT H ∧ okP x ∧ asK H x fun _ => Q (.bl (qT x)) H
theorem sT (T : Txt K mg a) : bD P w K mg base (XE P w) 4 a.kH a.ny ["thing"] sp_tW := by
  refine T.lD.okG ug (fun vs H Q E h => sp1.len h) (fun cdv A outer s H vs Q E hr h => ?_)
  obtain ⟨x0, rfl, h⟩ := sp1.inv h
  obtain ⟨hN, ho, h1⟩ := h
  obtain ⟨t, ht, hb, k⟩ := asK.inv h1
  have G_are_names := qH (P := P) (w := w) (base := base) T
  have b_are_names := pI T.h_
  refine ⟨hN, _, (ak (aH (dv (ay (b7 K) rfl T.aK aE (FA.pa (aa (fv 0) (aa (dN (v := .ty "str") rfl T.wF tU rfl) af)))) (de (au G_are_names (hr.mono (by decide)) rfl T.sE T.h_.kp b_are_names .nil aC (FA.pa (aa (cr K PySem.F.plainAttrs_str PySem.F.slot_str_split PySem.F.type_str_split mD (fv 0) (FA.pa (aa (aL [58]) af))) af))))))), ?_⟩
  by_cases hx : ∃ l, x0 = .str ⟨⟨l⟩⟩
  · obtain ⟨l, rfl⟩ := hx
    have hl := ho l rfl
    have k' : Q (.bl (iJ l)) H := k
    cases ht
    walk_at "rd"
    have sz : 1000 ≤ sizeLine := by rw [sizeLine_eq]; decide
    have sl := mj 58 l
    refine ⟨by walk_at "om", fun p hp => ⟨ao hN rfl, _, SqL.of ae, by rw [List.length_map]; omega, fun y hy => ?_, H, Gc.none (ai _ hp), ?_⟩⟩
    · obtain ⟨q, hq, rfl⟩ := List.mem_map.mp hy
      obtain ⟨m1, m2⟩ := kb 58 l q hq
      exact ⟨fun l' e => by cases e; exact ⟨fun c hc => hl.1 c (m2 c hc), by walk_at "om"⟩, _, rfl⟩
    · have e : (List.map L2.T (spN 58 l)).all nameV = (spN 58 l).all nm := by rw [List.all_map]; rfl
      rw [List.length_map, e]; exact k'
  · have e := pO ht hx
    have e2 : qT x0 = false := by
      cases x0 with
      | str y => exact absurd ⟨y.cps.toList, rfl⟩ hx
      | _ => rfl
    rw [e2] at k
    walk_at "rd"
    simp only [ht]
    rw [e]
    exact vj k
def tx (ls : List (List Nat)) : HO := .lst (ls.map L2.T)
def sp_rM (c : Addr) : Sp := sp1 fun x H Q E => NoT H ∧ okP x ∧ asK H x fun _ => if qT x = true then asT x fun l => ∀ p, H p = none → Q (.ref p) (upd H p (tx (spN 58 l))) else E (.ref c) none H
theorem qQ (T : Txt K mg a) : bD P w K mg base (XE P w) 5 a.jp a.lQ ["path"] (sp_rM a.lA) := by
  refine T.i9.okG sw (fun vs H Q E h => sp1.len h) (fun cdv A outer s H vs Q E hr h => ?_)
  obtain ⟨x0, rfl, h⟩ := sp1.inv h
  obtain ⟨hN, ho, h1⟩ := h
  obtain ⟨t, ht, hb, k⟩ := asK.inv h1
  have G_is_path := sT (P := P) (w := w) (base := base) T
  have b_is_path := sY T.lD
  refine ⟨hN, _, (ah (bG (cI (cv (au G_is_path (hr.mono (by decide)) rfl T.vp T.lD.kp b_is_path .nil aC (FA.pa (aa (fv 0) af))))) (ak (cP T.pi PySem.F.excBase_ValueError rfl rfl T.oS dG (FA.pa (aa (aL [116, 104, 105, 115, 32, 105, 115, 32, 110, 111, 32, 112, 97, 116, 104]) af)))) aQ)
      (ak (aH (cr K PySem.F.plainAttrs_str PySem.F.slot_str_split PySem.F.type_str_split mD (fv 0) (FA.pa (aa (aL [58]) af)))))), ?_⟩
  walk_at "rd"
  have sz : 1000 ≤ sizeLine := by rw [sizeLine_eq]; decide
  refine ⟨hN, ho, asK.of ht ?_⟩
  cases e : qT x0 with
  | false =>
    rw [e] at k
    rw [if_pos rfl]
    exact ⟨by walk_at "om", k⟩
  | true =>
    rw [e, if_pos rfl] at k
    rw [if_neg (by decide)]
    obtain ⟨l, rfl, k⟩ := asT.inv k
    have hl := ho l rfl
    walk_at "rd"
    exact ⟨by walk_at "om", fun p hp => ⟨_, Gc.one (ai _ hp) hp ae rfl, k p hp⟩⟩
theorem Bw {l : List Nat} (h : nm l = true) : 1 ≤ l.length ∧ l.length ≤ 12 ∧ ∀ c ∈ l, 97 ≤ c ∧ c ≤ 122 := by
  unfold nm lie at h
  simp only [Bool.and_eq_true, decide_eq_true_eq, List.all_eq_true] at h
  exact ⟨h.1.1, h.1.2, fun c hc => h.2 c hc⟩
theorem BU (xs : List V) {i : Int} (h : 0 ≤ i) : vI xs none (some i) = xs.take i.toNat := by
  unfold vI
  have e : i = ((i.toNat : Nat) : Int) := by walk_at "om"
  rw [e, HT.sIx_none, HT.sIx_nat, List.drop_zero, Nat.sub_zero]
  by_cases hl : i.toNat ≤ xs.length
  · rw [Nat.min_eq_left hl]; rfl
  · rw [Nat.min_eq_right (by walk_at "om"), List.take_of_length_le (by walk_at "om"), List.take_of_length_le (by simp; omega)]
theorem uV (n : Nat) : ∀ (ls : List (List Nat)), (∀ l ∈ ls, l.length ≤ n) → (ls.map List.length).sum ≤ n * ls.length
  | [], _ => by simp
  | l :: r, h => by
    have := uV n r fun x hx => h x (List.mem_cons_of_mem _ hx)
    have h1 := h l (by simp)
    simp only [List.map_cons, List.sum_cons, List.length_cons, Nat.mul_add, Nat.mul_one]
    omega
theorem xt {ls : List (List Nat)} (h : ∀ l ∈ ls, l.length ≤ 1000) (hl : ls.length ≤ 1000) : wE [58] ls := by
  have := uV 1000 ls h
  have h2 : 1000 * ls.length ≤ 1000 * 1000 := Nat.mul_le_mul_left _ hl
  unfold wE
  simp only [List.length_cons, List.length_nil]
  omega
def abN (l : List Nat) : List (List Nat) := (List.range ((spN 58 l).length - 1)).map fun k => bZ [58] ((spN 58 l).take (k + 1))
def sp_wn : Sp := sp1 fun x H Q _ => NoT H ∧ asT x fun l => ((∀ c ∈ l, c < 128) ∧ l.length ≤ 199) ∧ ∀ p, H p = none → Q (.ref p) (upd H p (tx (abN l)))
theorem yu (T : Txt K mg a) : bD P w K mg base (XE P w) 1 a.qJ a.rD ["path"] sp_wn := by
  refine T.pW.okG sA (fun vs H Q E h => sp1.len h) (fun cdv A outer s H vs Q E hr h => ?_)
  obtain ⟨x0, rfl, h⟩ := sp1.inv h
  have ND := sA.nd
  obtain ⟨hN, h1⟩ := h
  obtain ⟨l, rfl, hl, k⟩ := asT.inv h1
  refine ⟨hN, _, (ah (aw (i := 1) ND rfl (Or.inr rfl) (cr K PySem.F.plainAttrs_str PySem.F.slot_str_split PySem.F.type_str_split mD (fv 0) (FA.pa (aa (aL [58]) af))))
      (ak (aH (d_ rfl (cl := _) (x := "many") (xs := ["many"]) (fr := ["names"]) (ks := [1]) (by exact ⟨rfl, by decide +kernel, rfl, by decide +kernel, rfl, d8 rfl, rfl, bo rfl, bo (k := fun y => List.lookup y _) rfl, dX rfl⟩) rfl (oE rfl T.eX (FA.pa (aa ad (aa (ay (cy K) rfl T.eQ dh (FA.pa (aa (fv 1) af))) af)))) (fun _ _ _ _ _ => (aI (i := 0) (hZ (l := ["many", "names"]) (by decide)) rfl (Or.inl rfl))) (fun _ _ _ _ _ => eZ) (fun _ _ _ _ _ => (zQ (cr K PySem.F.plainAttrs_str PySem.F.slot_str_join PySem.F.type_str_join (rq K) (aL [58]) (FA.pa (aa (fT (wP K) (fv 1) ip (iq (fv 0))) af))))))))), ?_⟩
  walk_at "rd"
  have sz : 1000 ≤ sizeLine := by rw [sizeLine_eq]; decide
  have sl := mj 58 l
  refine ⟨by walk_at "om", fun p hp => ?_⟩
  have sm := ai (HO.lst (List.map L2.T (spN 58 l))) hp
  have nb : ((spN 58 l).length : Int) < 2 ^ 62 := by
    have : (400 : Int) < 2 ^ 62 := by decide
    omega
  refine Cv (fun H' => NoT H' ∧ SqL K H' p (List.map L2.T (spN 58 l))) (fun D ys hD => ⟨ao (ao hN rfl) rfl, SqL.same (ai _ hD) (SqL.of ae)⟩) 1 (spN 58 l).length ((spN 58 l).length - 1) (by walk_at "om") (fun _ => true)
    (fun v => match v with | .int i => L2.T (bZ [58] ((spN 58 l).take i.toNat)) | _ => .non) (fun R r => ?_) ⟨by decide, by decide, by walk_at "om", nb⟩ (by walk_at "om") (fun x _ H' R _ r => r) (fun j hj _ H' R c r => ?_) (fun D hD => ?_)
  · walk_at "rd"
    exact ⟨_, .inl (SqL.of ae), by rw [List.length_map]; exact r⟩
  · walk_at "rd"
    refine ⟨c.1, p, _, rfl, c.2, fun q hq => ⟨(spN 58 l).take (1 + (j : Int)).toNat, SqL.of (by rw [ae, BU _ (by walk_at "om"), List.map_take]), xt (fun x hx => ?_) (by rw [List.length_take]; omega), H', Gc.none (ai _ hq), r⟩⟩
    have := (kb 58 l x (List.mem_of_mem_take hx)).1
    omega
  · refine ⟨_, Gc.one (sm.trans (ai _ hD)) (sm.free hD) ae rfl, ?_⟩
    have e : (List.map (fun v => match v with | V.int i => L2.T (bZ [58] (List.take i.toNat (spN 58 l))) | _ => V.non) (List.filter (fun _ => true) (List.map (fun k : Nat => V.int (1 + (k : Int))) (List.range ((spN 58 l).length - 1))))) = (abN l).map L2.T := by
      rw [List.filter_eq_self.mpr (by simp), List.map_map]
      unfold abN
      rw [List.map_map]
      apply List.map_congr_left
      intro k _
      show L2.T (bZ [58] (List.take (1 + (k : Int)).toNat (spN 58 l))) = L2.T (bZ [58] (List.take (k + 1) (spN 58 l)))
      rw [show (1 + (k : Int)).toNat = k + 1 by walk_at "om"]
    rw [e]; exact k D (sm.free hD)
def sp_at (K : PySem.W.Frag) (p0 : Addr) (ns : List Int) : Sp := sp2 fun x y H Q _ => asR x fun p => asI y fun k => NoT H ∧ p0 = p ∧ SqL K H p0 (ns.map V.int) ∧ 0 ≤ k ∧ Q (.int (ns.getD k.toNat 0)) H
theorem gJ (T : Txt K mg a) : bD P w K mg base (XE P w) 1 a.eU a.gN ["_law_script", "_law_k"] (sp_at K pS ns) := by
  refine T.bg.okG lX (fun vs H Q E h => sp2.len h) (fun cdv A outer s H vs Q E hr h => ?_)
  obtain ⟨x0, x1, rfl, h⟩ := sp2.inv h
  obtain ⟨p, rfl, h1⟩ := asR.inv h
  obtain ⟨k, rfl, hN, rfl, hS, k0, q⟩ := asI.inv h1
  refine ⟨hN, _, (ah (bG (bI sP (fv 1) (ay (cy K) rfl T.eQ dh (FA.pa (aa (fv 0) af))) (bn _)) (ak (aH (aV (az K) (fv 0) (fv 1) (fun _ _ => rfl)))) aQ)
      (ak (aH ad))), ?_⟩
  walk_at "rd"
  refine ⟨ns.map V.int, .inl hS, ?_⟩
  rw [List.length_map]
  split
  · rename_i h2
    exact ⟨_, _, .inl hS, tK k0 h2, q⟩
  · rename_i h2
    have g : ns.getD k.toNat 0 = 0 := by
      have l : ns.length ≤ k.toNat := by walk_at "om"
      simp [List.getD, l]
    rw [g] at q
    exact q
def LET : List Nat := [97, 98, 99, 100, 101, 102, 103, 104, 105, 106, 107, 108, 109, 110, 111, 112, 113, 114, 115, 116, 117, 118, 119, 120, 121, 122]
theorem xT {i : Int} (h0 : 0 ≤ i) (h1 : i < 26) : atI LET i = some (97 + i.toNat) := by
  obtain ⟨j, rfl⟩ : ∃ j : Nat, i = j := ⟨i.toNat, by walk_at "om"⟩
  refine bz ?_
  have hb : ∀ k, k < 26 → LET[k]? = some (97 + k) := by decide
  exact hb j (by walk_at "om")
end
section
variable {pS : Addr} {ns : List Int} {P : Program} {w : World} {K : PySem.W.Frag} {mg : Str → Option Value} {base : Heap} {a : Adr}
def Keep (S : List Addr) (H H' : Hp) : Prop := ∀ c z, H c = some z → c ∉ S → H' c = some z
theorem Keep.refl {S : List Addr} {H : Hp} : Keep S H H := fun _ _ e _ => e
theorem Keep.trans {S : List Addr} {H H1 H2 : Hp} (x : Keep S H H1) (y : Keep S H1 H2) : Keep S H H2 := fun c z e n => y c z (x c z e n) n
theorem Keep.mono {S S' : List Addr} {H H' : Hp} (x : Keep S H H') (h : ∀ c, c ∈ S → c ∈ S') : Keep S' H H' := fun c z e n => x c z e fun m => n (h c m)
theorem Keep.new {S : List Addr} {H H1 : Hp} {p : Addr} {o : HO} (x : Keep S H H1) (h : H1 p = none) : Keep S H (upd H1 p o) := fun c z e n => by
  rw [al (aj (x c z e n) h)]; exact x c z e n
theorem Keep.put {S : List Addr} {H H1 : Hp} {p : Addr} {o : HO} (x : Keep S H H1) (h : p ∈ S) : Keep S H (upd H1 p o) := fun c z e n => by
  rw [al (by rintro rfl; exact n h)]; exact x c z e n
theorem Keep.same {S : List Addr} {H H' : Hp} (x : Same H H') : Keep S H H' := fun c z e _ => x c z e
theorem dI {H : Hp} {p q : Addr} {x y : HO} (h : H p = some x) (g : H q = some y) (n : x ≠ y) : p ≠ q := by
  rintro rfl; rw [h] at g; cases g; exact n rfl
def cl : Option Int → V
  | none => .non
  | some m => .int m
structure Acc where
  pa : List Nat
  ob : Addr
  bl : Addr
  ki : V
  cu : V
  fi : Int
  un : Option Int
  be : List (List Nat)
def hX (k c f u b : V) : List (Str × V) := [("kind", k), ("currency", c), ("first", f), ("until", u), ("below", b)]
theorem fk (k c f u b : V) : List.lookup (Str.ofString "kind") (hX k c f u b) = some k := ku
theorem ff (k c f u b : V) : List.lookup (Str.ofString "first") (hX k c f u b) = some f := by unfold hX; rw [bB (by decide +kernel), bB (by decide +kernel)]; exact ku
theorem fu (k c f u b : V) : List.lookup (Str.ofString "until") (hX k c f u b) = some u := by unfold hX; rw [bB (by decide +kernel), bB (by decide +kernel), bB (by decide +kernel)]; exact ku
theorem fb (k c f u b : V) : List.lookup (Str.ofString "below") (hX k c f u b) = some b := by unfold hX; rw [bB (by decide +kernel), bB (by decide +kernel), bB (by decide +kernel), bB (by decide +kernel)]; exact ku
theorem CQ (k c f u b : V) : List.lookup (Str.ofString "stands_on") (hX k c f u b) = none := by unfold hX; rw [bB (by decide +kernel), bB (by decide +kernel), bB (by decide +kernel), bB (by decide +kernel), bB (by decide +kernel)]; rfl
theorem CW (k c f u b v : V) : dO (Str.ofString "until") v (hX k c f u b) = hX k c f v b := by
  have q1 : ¬ (Str.ofString "kind" = Str.ofString "until") := by decide +kernel
  have q2 : ¬ (Str.ofString "currency" = Str.ofString "until") := by decide +kernel
  have q3 : ¬ (Str.ofString "first" = Str.ofString "until") := by decide +kernel
  simp [dO, hX, q1, q2, q3]
theorem Be (k c f u b : V) : dO (Str.ofString "below") b (dO (Str.ofString "until") u (dO (Str.ofString "first") f (dO (Str.ofString "currency") c (dO (Str.ofString "kind") k [])))) = hX k c f u b := by
  have q1 : ¬ (Str.ofString "kind" = Str.ofString "until") := by decide +kernel
  have q2 : ¬ (Str.ofString "currency" = Str.ofString "until") := by decide +kernel
  have q3 : ¬ (Str.ofString "first" = Str.ofString "until") := by decide +kernel
  have q4 : ¬ (Str.ofString "kind" = Str.ofString "first") := by decide +kernel
  have q5 : ¬ (Str.ofString "currency" = Str.ofString "first") := by decide +kernel
  have q6 : ¬ (Str.ofString "kind" = Str.ofString "currency") := by decide +kernel
  have q7 : ¬ (Str.ofString "kind" = Str.ofString "below") := by decide +kernel
  have q8 : ¬ (Str.ofString "currency" = Str.ofString "below") := by decide +kernel
  have q9 : ¬ (Str.ofString "first" = Str.ofString "below") := by decide +kernel
  have q0 : ¬ (Str.ofString "until" = Str.ofString "below") := by decide +kernel
  simp [dO, hX, q1, q2, q3, q4, q5, q6, q7, q8, q9, q0]
def sp_vi (A : Addr) : Sp := sp4 fun x k c f H Q _ => NoT H ∧ asR x fun p => ∃ dx, H p = some (.ins A dx []) ∧ ∀ b H', H b = none → H' p = some (.ins A dx (hX k c f .non (.ref b))) → H' b = some (.lst []) → Keep [p] H H' → NoT H' → Q .non H'
theorem ej (T : Txt K mg a) : bD P w K mg base (XE P w) 1 a.cw a.eg ["self", "kind", "currency", "first"] (sp_vi a.aG) := by
  refine T.df.okX iG (fun vs H Q E h => sp4.len h) (fun cdv A outer s H vs Q E hr h => ?_)
  obtain ⟨x0, x1, x2, x3, rfl, h⟩ := sp4.inv h
  obtain ⟨hN, h1⟩ := h
  obtain ⟨p, rfl, dx, hp, k⟩ := asR.inv h1
  refine ⟨_, (ah (eY K (fv 0) (fv 1))
      (ah (eY K (fv 0) (fv 2))
      (ah (eY K (fv 0) (fv 3))
      (ah (eY K (fv 0) i6)
      (ak (eY K (fv 0) (cW (FA.pa af)))))))), ?_⟩
  walk_at "rd"
  refine ⟨_, _, _, hp, T.bH, T.hJ, by decide, _, _, _, ae, T.bH, T.jh, by show 1 < 1000; decide, _, _, _, ae, T.bH, T.gE, by show 2 < 1000; decide, _, _, _, ae, T.bH, T.db, by show 3 < 1000; decide, Nat.zero_le _, fun b hb => ?_⟩
  rw [qD, qD, qD] at hb ⊢
  have np : p ≠ b := fun q => by rw [← q, ae] at hb; cases hb
  have hb0 : H b = none := by rw [al (Ne.symm np)] at hb; exact hb
  refine ⟨_, _, _, (al np).trans ae, T.bH, T.gM, by show 4 < 1000; decide, ?_⟩
  rw [Be]
  refine k b _ hb0 ae ?_ ?_ ?_
  · rw [al (Ne.symm np), ae]
  · exact ((Keep.refl.put (List.mem_singleton.2 rfl)).new hb).put (List.mem_singleton.2 rfl)
  · exact ao (ao (ao hN rfl) rfl) rfl
def lat (u : Option Int) (d : Int) : Bool := match u with
  | none => true
  | some t => decide (d < t)
def opn (f : Int) (u : Option Int) (d : Int) : Bool := decide (f ≤ d) && lat u d
def sp_on (A : Addr) : Sp := sp2 fun x y H Q _ => NoT H ∧ asR x fun p => asI y fun d => ∃ dx k c f u b, H p = some (.ins A dx (hX k c (.int f) (cl u) b)) ∧ Q (.bl (opn f u d)) H
theorem g0 (T : Txt K mg a) : bD P w K mg base (XE P w) 1 a.cX a.ed ["self", "day"] (sp_on a.aG) := by
  refine T.eA.okG ik (fun vs H Q E h => sp2.len h) (fun cdv A outer s H vs Q E hr h => ?_)
  obtain ⟨x0, x1, rfl, h⟩ := sp2.inv h
  obtain ⟨hN, h1⟩ := h
  obtain ⟨p, rfl, h2⟩ := asR.inv h1
  obtain ⟨d, rfl, dx, k, c, f, u, b, hp, q⟩ := asI.inv h2
  refine ⟨hN, _, (ak (aH (dv (eD h9 (ck K (fv 0)) (fv 1) (bn _)) (de (oU (xS (AE (ck K (fv 0)))) (de (eD sP (fv 1) (ck K (fv 0)) (bn _)))))))), ?_⟩
  walk_at "rd"
  refine ⟨_, _, _, _, hp, T.bH, T.gE, ff .., ?_⟩
  walk_at "rd"
  split
  · rename_i h1
    refine ⟨_, _, _, _, hp, T.bH, T.db, fu .., ?_⟩
    have e : opn f u d = lat u d := by unfold opn; rw [decide_eq_true h1]; rfl
    rw [e] at q
    cases u with
    | none => exact q
    | some t =>
      rw [if_neg (by intro z; cases z)]
      exact ⟨_, _, _, _, hp, T.bH, T.db, fu .., ⟨H, Gc.refl, q⟩⟩
  · rename_i h1
    have e : opn f u d = false := by unfold opn; rw [decide_eq_false h1]; rfl
    rw [e] at q; exact q
def kyA (c : Acc) : Key × V := (.inr ⟨⟨c.pa⟩⟩, .ref c.ob)
structure AAt (A : Addr) (H : Hp) (c : Acc) : Prop where
  ob : ∃ dx, H c.ob = some (.ins A dx (hX c.ki c.cu (.int c.fi) (cl c.un) (.ref c.bl)))
  ls : H c.bl = some (.lst (c.be.map L2.T))
structure CAt (C A : Addr) (H : Hp) (p d : Addr) (cs : List Acc) : Prop where
  ob : ∃ dx, H p = some (.ins C dx [("by_path", .ref d)])
  dc : H d = some (.dK (cs.map kyA))
  ac : ∀ c ∈ cs, AAt A H c
  np : (cs.map (·.pa)).Nodup
  na : (cs.map (·.ob)).Nodup
  nb : (cs.map (·.bl)).Nodup
theorem CAt.keep {C A : Addr} {S : List Addr} {H H' : Hp} {p d : Addr} {cs : List Acc} (j : CAt C A H p d cs) (x : Keep S H H') (hp : p ∉ S) (hd : d ∉ S) (hc : ∀ c ∈ cs, c.ob ∉ S ∧ c.bl ∉ S) : CAt C A H' p d cs :=
  ⟨by obtain ⟨dx, e⟩ := j.ob; exact ⟨dx, x _ _ e hp⟩, x _ _ j.dc hd, fun c hm => ⟨by obtain ⟨dx, e⟩ := (j.ac c hm).ob; exact ⟨dx, x _ _ e (hc c hm).1⟩, x _ _ (j.ac c hm).ls (hc c hm).2⟩, j.np, j.na, j.nb⟩
theorem CAt.same {C A : Addr} {H H' : Hp} {p d : Addr} {cs : List Acc} (j : CAt C A H p d cs) (x : Same H H') : CAt C A H' p d cs :=
  j.keep (S := []) (Keep.same x) List.not_mem_nil List.not_mem_nil fun _ _ => ⟨List.not_mem_nil, List.not_mem_nil⟩
def fnd (cs : List Acc) (l : List Nat) : Option Acc := cs.find? fun c => decide (c.pa = l)
theorem iw (l : List Nat) : ∀ cs : List Acc, ko (cs.map kyA) (.inr ⟨⟨l⟩⟩) = (fnd cs l).map fun c => .ref c.ob
  | [] => rfl
  | c :: r => by
    have ih := iw l r
    by_cases h : c.pa = l
    · rw [List.map_cons, jG (by show Sum.inr _ = Sum.inr _; rw [h])]
      simp [fnd, h, kyA]
    · rw [List.map_cons, jw (fun z => h (by simpa [kyA] using z)), ih]
      simp [fnd, h]
theorem yO {cs : List Acc} {l : List Nat} {c : Acc} (h : fnd cs l = some c) : c ∈ cs ∧ c.pa = l :=
  ⟨List.mem_of_find?_eq_some h, by simpa using List.find?_some h⟩
theorem nE {cs : List Acc} {l : List Nat} (h : fnd cs l = none) : ∀ c ∈ cs, c.pa ≠ l := fun c hc => by
  simpa using List.find?_eq_none.mp h c hc
theorem lZ {β : Type} {f : Acc → β} : ∀ {cs : List Acc} {c c' : Acc}, (cs.map f).Nodup → c ∈ cs → c' ∈ cs → f c = f c' → c = c'
  | [], _, _, _, h, _, _ => nomatch h
  | x :: r, c, c', hn, h, h', e => by
    rw [List.map_cons, List.nodup_cons] at hn
    rcases List.mem_cons.mp h with h1 | h1
    · rcases List.mem_cons.mp h' with h2 | h2
      · rw [h1, h2]
      · subst h1
        exact absurd (by rw [e]; exact List.mem_map_of_mem h2) hn.1
    · rcases List.mem_cons.mp h' with h2 | h2
      · subst h2
        exact absurd (by rw [← e]; exact List.mem_map_of_mem h1) hn.1
      · exact lZ hn.2 h1 h2 e
theorem qw {cs : List Acc} (hn : (cs.map (·.pa)).Nodup) {c : Acc} (hc : c ∈ cs) : fnd cs c.pa = some c := by
  cases e : fnd cs c.pa with
  | none => exact absurd rfl (nE e c hc)
  | some c' =>
    obtain ⟨h1, h2⟩ := yO e
    rw [lZ hn h1 hc h2]
theorem lkp (x : V) : List.lookup (Str.ofString "by_path") [(Str.ofString "by_path", x)] = some x := ku
def sp_vE (C A : Addr) : Sp := sp1 fun x H Q _ => NoT H ∧ asR x fun p => ∃ dx, H p = some (.ins C dx []) ∧ ∀ d H', H d = none → CAt C A H' p d [] → Keep [p] H H' → NoT H' → Q .non H'
theorem j5 (T : Txt K mg a) : bD P w K mg base (XE P w) 1 a.cT a.fo ["self"] (sp_vE a.bq a.aG) := by
  refine T.fM.okX jP (fun vs H Q E h => sp1.len h) (fun cdv A outer s H vs Q E hr h => ?_)
  obtain ⟨x0, rfl, h⟩ := sp1.inv h
  obtain ⟨hN, h1⟩ := h
  obtain ⟨p, rfl, dx, hp, k⟩ := asR.inv h1
  refine ⟨_, (ak (eY K (fv 0) uI)), ?_⟩
  walk_at "rd"
  intro d hd
  have np : p ≠ d := aj hp hd
  refine ⟨_, _, _, (al np).trans hp, T.cn, T.bJ, by show 0 < 1000; decide, ?_⟩
  refine k d _ hd ⟨⟨dx, ?_⟩, ?_, (fun _ h => nomatch h), .nil, .nil, .nil⟩ ?_ ?_
  · rw [ae]; simp [dO]
  · rw [al (Ne.symm np), ae]; rfl
  · exact (Keep.refl.new hd).put (List.mem_singleton.2 rfl)
  · exact ao (ao hN rfl) rfl
def lT (cs : List Acc) : V → Bool
  | .str y => (fnd cs y.cps.toList).isSome
  | _ => false
def sp_AK (C A : Addr) : Sp := sp2 fun x y H Q _ => NoT H ∧ asR x fun p => asK H y fun _ => ∃ d cs, CAt C A H p d cs ∧ Q (.bl (lT cs y)) H
theorem j0 (T : Txt K mg a) : bD P w K mg base (XE P w) 1 a.fE a.jD ["self", "path"] (sp_AK a.bq a.aG) := by
  refine T.hV.okG qj (fun vs H Q E h => sp2.len h) (fun cdv A outer s H vs Q E hr h => ?_)
  obtain ⟨x0, x1, rfl, h⟩ := sp2.inv h
  have HU : (cG (XE P w) P w K mg base ["self", "path"] "Chart.has" (ag bS) a.fE cdv A outer s H (gcE H E)).A.units + 100 < cLine := bL hr
  obtain ⟨hN, h1⟩ := h
  obtain ⟨p, rfl, h2⟩ := asR.inv h1
  obtain ⟨t, ht, hb, d, cs, J, k⟩ := asK.inv h2
  obtain ⟨dx, hp⟩ := J.ob
  refine ⟨hN, _, (ak (aH (dv (ay (b7 K) rfl T.aK aE (FA.pa (aa (fv 1) (aa (dN (v := .ty "str") rfl T.wF tU rfl) af)))) (de (xS (ue (Nat.lt_of_le_of_lt (Nat.add_le_add_left (by decide) _) HU) (fv 1) (ck K (fv 0))) (by with_unfolding_all rfl)))))), ?_⟩
  by_cases hx : ∃ l, x1 = .str ⟨⟨l⟩⟩
  · obtain ⟨l, rfl⟩ := hx
    cases ht
    walk_at "rd"
    refine ⟨_, _, _, _, hp, T.cn, T.bJ, lkp _, d, _, rfl, DGet.k (k := .inr ⟨⟨l⟩⟩) J.dc, ?_⟩
    rw [iw, Option.isSome_map]; exact k
  · have e := pO ht hx
    have e2 : lT cs x1 = false := by
      cases x1 with
      | str y => exact absurd ⟨y.cps.toList, rfl⟩ hx
      | _ => rfl
    rw [e2] at k
    walk_at "rd"
    simp only [ht]
    rw [e]
    exact vj k
def sp_tI (C A no : Addr) : Sp := sp2 fun x y H Q E => NoT H ∧ asR x fun p => asT y fun l => ∃ d cs, CAt C A H p d cs ∧ match fnd cs l with | some c => Q (.ref c.ob) H | none => E (.ref no) none H
theorem wU (x : V) : List.lookup (Str.ofString "has") [(Str.ofString "by_path", x)] = none := by rw [bB (by decide +kernel)]; rfl
theorem s_ (x : V) : List.lookup (Str.ofString "account") [(Str.ofString "by_path", x)] = none := by rw [bB (by decide +kernel)]; rfl
theorem kr (T : Txt K mg a) : bD P w K mg base (XE P w) 2 a.da a.fK ["self", "path"] (sp_tI a.bq a.aG a.aU) := by
  refine T.gG.okG k_ (fun vs H Q E h => sp2.len h) (fun cdv A outer s H vs Q E hr h => ?_)
  obtain ⟨x0, x1, rfl, h⟩ := sp2.inv h
  have HU : (cG (XE P w) P w K mg base ["self", "path"] "Chart.account" (ag ba) a.da cdv A outer s H (gcE H E)).A.units + 100 < cLine := bL hr
  obtain ⟨hN, h1⟩ := h
  obtain ⟨p, rfl, h2⟩ := asR.inv h1
  obtain ⟨l, rfl, d, cs, J, k⟩ := asT.inv h2
  obtain ⟨dx, hp⟩ := J.ob
  have one : 1 ≤ sizeLine := by rw [sizeLine_eq]; decide
  have G_Chart_has := j0 (P := P) (w := w) (base := base) T
  have b_Chart_has := jz T.hV
  refine ⟨hN, _, (ah (bG (cI (cv (dC (fv 0) T.cn T.jU G_Chart_has (hr.mono (by decide)) b_Chart_has .nil aC (FA.pa (aa (fv 1) af))))) (ak (cP T.lL PySem.F.excBase_ValueError rfl rfl T.ii dG (FA.pa (aa (aL [116, 104, 101, 114, 101, 32, 105, 115, 32, 110, 111, 32, 115, 117, 99, 104, 32, 97, 99, 99, 111, 117, 110, 116]) af)))) aQ)
      (ak (aH (zf (Nat.lt_of_le_of_lt (Nat.add_le_add_left (by decide) _) HU) (ck K (fv 0)) (fv 1) (fun _ _ => rfl))))), ?_⟩
  walk_at "rd"
  refine ⟨_, _, hp, wU _, hN, d, cs, J, ?_⟩
  rw [show lT cs (L2.T l) = (fnd cs l).isSome from rfl]
  cases e : fnd cs l with
  | none =>
    rw [e] at k
    split
    · exact ⟨one, k⟩
    · rename_i z; exact absurd rfl z
  | some c =>
    rw [e] at k
    rw [if_neg (by intro z; cases z)]
    refine ⟨_, _, _, _, hp, T.cn, T.bJ, lkp _, d, .ref c.ob, rfl, ?_, k⟩
    have g := DGet.k (k := .inr ⟨⟨l⟩⟩) J.dc
    rw [iw, e] at g
    exact g
end
section
variable {pS : Addr} {ns : List Int} {P : Program} {w : World} {K : PySem.W.Frag} {mg : Str → Option Value} {base : Heap} {a : Adr}
theorem gd {β : Type} {l : List β} {x : β} (h : l.Nodup) (n : x ∉ l) : (l ++ [x]).Nodup :=
  List.nodup_append.mpr ⟨h, List.nodup_cons.mpr ⟨List.not_mem_nil, List.nodup_nil⟩, fun a ha b hb => by rw [List.mem_singleton.mp hb]; rintro rfl; exact n ha⟩
theorem CAt.bl_d {C A : Addr} {H : Hp} {p d : Addr} {cs : List Acc} (J : CAt C A H p d cs) {c : Acc} (hc : c ∈ cs) : c.bl ≠ d := dI (J.ac c hc).ls J.dc (by intro z; cases z)
theorem CAt.ob_d {C A : Addr} {H : Hp} {p d : Addr} {cs : List Acc} (J : CAt C A H p d cs) {c : Acc} (hc : c ∈ cs) : c.ob ≠ d := by
  obtain ⟨dx, e⟩ := (J.ac c hc).ob; exact dI e J.dc (by intro z; cases z)
theorem CAt.p_d {C A : Addr} {H : Hp} {p d : Addr} {cs : List Acc} (J : CAt C A H p d cs) : p ≠ d := by
  obtain ⟨dx, e⟩ := J.ob; exact dI e J.dc (by intro z; cases z)
theorem CAt.p_bl {C A : Addr} {H : Hp} {p d : Addr} {cs : List Acc} (J : CAt C A H p d cs) {c : Acc} (hc : c ∈ cs) : p ≠ c.bl := by
  obtain ⟨dx, e⟩ := J.ob; exact dI e (J.ac c hc).ls (by intro z; cases z)
theorem CAt.ob_bl {C A : Addr} {H : Hp} {p d : Addr} {cs : List Acc} (J : CAt C A H p d cs) {c c' : Acc} (hc : c ∈ cs) (hc' : c' ∈ cs) : c.ob ≠ c'.bl := by
  obtain ⟨dx, e⟩ := (J.ac c hc).ob; exact dI e (J.ac c' hc').ls (by intro z; cases z)
theorem rQ {cs : List Acc} {l : List Nat} (h : fnd cs l = none) (c : Acc) (e : c.pa = l) : j2 (cs.map kyA) (.inr ⟨⟨l⟩⟩) (.ref c.ob) = (cs ++ [c]).map kyA := by
  rw [xP _ (by rw [iw, h]; rfl), List.map_append, ← e]; rfl
theorem CAt.more {C A : Addr} {H H' : Hp} {p d : Addr} {cs : List Acc} (J : CAt C A H p d cs) (kp : Keep [] H H') {c : Acc} (hf : fnd cs c.pa = none) (h0 : H c.ob = none) (h1 : H c.bl = none) (hc : AAt A H' c) :
    CAt C A (upd H' d (.dK ((cs ++ [c]).map kyA))) p d (cs ++ [c]) := by
  have J1 := J.keep kp List.not_mem_nil List.not_mem_nil fun _ _ => ⟨List.not_mem_nil, List.not_mem_nil⟩
  have dn := J1.dc
  obtain ⟨dc, eo⟩ := hc.ob
  have n1 : c.ob ≠ d := dI eo dn (by intro z; cases z)
  have n2 : c.bl ≠ d := dI hc.ls dn (by intro z; cases z)
  refine ⟨?_, ae, fun z hz => ?_, ?_, ?_, ?_⟩
  · obtain ⟨dx, e⟩ := J1.ob
    exact ⟨dx, (al J1.p_d).trans e⟩
  · rcases List.mem_append.mp hz with hz | hz
    · obtain ⟨dz, e⟩ := (J1.ac z hz).ob
      exact ⟨⟨dz, (al (J1.ob_d hz)).trans e⟩, (al (J1.bl_d hz)).trans (J1.ac z hz).ls⟩
    · rw [List.mem_singleton.mp hz]
      exact ⟨⟨dc, (al n1).trans eo⟩, (al n2).trans hc.ls⟩
  · rw [List.map_append]
    refine gd J.np fun h => ?_
    obtain ⟨z, hz, e⟩ := List.mem_map.mp h
    exact nE hf z hz e
  · rw [List.map_append]
    refine gd J.na fun h => ?_
    obtain ⟨z, hz, e⟩ := List.mem_map.mp h
    obtain ⟨dz, eo⟩ := (J.ac z hz).ob
    rw [e, h0] at eo; cases eo
  · rw [List.map_append]
    refine gd J.nb fun h => ?_
    obtain ⟨z, hz, e⟩ := List.mem_map.mp h
    have eo := (J.ac z hz).ls
    rw [e, h1] at eo; cases eo
theorem fP {H H' : Hp} {x dx : Addr} {o o' : HO} (hx : H x = none) (hd : H dx = none) (kp : Keep [x] (upd (upd H dx o) x o') H') : Keep [] H H' := fun c z e _ => by
  have n1 : c ≠ x := aj e hx
  have n2 : c ≠ dx := aj e hd
  exact kp c z (by rw [al n1, al n2]; exact e) (by simpa using n1)
theorem cR {H : Hp} {x dx b : Addr} {o o' : HO} (h : upd (upd H dx o) x o' b = none) : H b = none := by
  have n1 : b ≠ x := fun z => by rw [z, ae] at h; cases h
  rw [al n1] at h
  have n2 : b ≠ dx := fun z => by rw [z, ae] at h; cases h
  rw [al n2] at h; exact h
def wB : List Nat := [104, 97, 118, 101]
def Ba : List Nat := [103, 97, 105, 110]
def sp_tj (C A : Addr) : Sp := sp3 fun x y z H Q _ => NoT H ∧ asR x fun p => asT y fun l => nm l = true ∧ (z = L2.T wB ∨ z = L2.T Ba) ∧ ∃ d cs, CAt C A H p d cs ∧ cs.length ≤ 100 ∧ fnd cs l = none ∧
  (∀ c H', c.pa = l → c.fi = 0 → c.un = none → c.be = [] → H c.ob = none → H c.bl = none → CAt C A H' p d (cs ++ [c]) → Keep [d] H H' → NoT H' → Q .non H')
theorem ym {z : V} (h : z = L2.T wB ∨ z = L2.T Ba) : inV z ([[104, 97, 118, 101], [111, 119, 101], [111, 119, 110], [103, 97, 105, 110], [99, 111, 115, 116]].map L2.T) = true := by
  rcases h with rfl | rfl <;> decide
theorem B5 {l : List Nat} (h : nm l = true) : ok l := by
  obtain ⟨_, h2, h3⟩ := Bw h
  exact ⟨fun c hc => by have := h3 c hc; omega, by omega⟩
theorem kU (T : Txt K mg a) : bD P w K mg base (XE P w) 4 a.c_ a.fN ["self", "name", "kind"] (sp_tj a.bq a.aG) := by
  refine T.gH.okX lj (fun vs H Q E h => sp3.len h) (fun cdv A outer s H vs Q E hr h => ?_)
  obtain ⟨x0, x1, x2, rfl, h⟩ := sp3.inv h
  have HU : (cG (XE P w) P w K mg base ["self", "name", "kind"] "Chart.add_top" (ag a_) a.c_ cdv A outer s H E).A.units + 100 < cLine := bL hr
  obtain ⟨hN, h1⟩ := h
  obtain ⟨p, rfl, h2⟩ := asR.inv h1
  obtain ⟨l, rfl, e, hz, d, cs, J, len, ef, k⟩ := asT.inv h2
  obtain ⟨dx, hp⟩ := J.ob
  have G_Account___init__ := ej (P := P) (w := w) (base := base) T
  have b_Account___init__ := ez T.df
  have G_is_name := m3 (P := P) (w := w) (base := base) T
  have b_is_name := mW T.fI
  refine ⟨_, (ah (bG (cI (cv (au G_is_name (hr.mono (by decide)) rfl T.pb T.fI.kp b_is_name .nil aC (FA.pa (aa (fv 1) af))))) (ak (cP T.vM PySem.F.excBase_ValueError rfl rfl T.vq dG (FA.pa (aa (aL [116, 104, 105, 115, 32, 105, 115, 32, 110, 111, 32, 110, 97, 109, 101]) af)))) aQ)
      (ah (bG (bI (oQ K) (fv 2) (gC (v := .ref a.jI) rfl T.y8 rfl) (by with_unfolding_all rfl)) (ak (cP T.vT PySem.F.excBase_ValueError rfl rfl T.vB dG (FA.pa (aa (aL [116, 104, 101, 114, 101, 32, 105, 115, 32, 110, 111, 32, 115, 117, 99, 104, 32, 107, 105, 110, 100]) af)))) aQ)
      (ah (bG (rG (ue (Nat.lt_of_le_of_lt (Nat.add_le_add_left (by decide) _) HU) (fv 1) (ck K (fv 0))) (by with_unfolding_all rfl)) (ak (cP T.u5 PySem.F.excBase_ValueError rfl rfl T.uD dG (FA.pa (aa (aL [116, 104, 101, 114, 101, 32, 105, 115, 32, 115, 117, 99, 104, 32, 97, 110, 32, 97, 99, 99, 111, 117, 110, 116]) af)))) aQ)
      (ak (qk (Nat.lt_of_le_of_lt (Nat.add_le_add_left (by decide) _) HU) (ck K (fv 0)) (fv 1) (ss T.nn G_Account___init__ (hr.mono (by decide)) rfl T.oA b_Account___init__ .nil aC (FA.pa (aa (fv 2) (aa i6 (aa ad af))))) rfl))))), ?_⟩
  walk_at "rd"
  refine ⟨hN, fun l' e' => by cases e'; exact B5 e, ?_⟩
  have en : nameV (L2.T l) = nm l := rfl
  rw [en, e, if_neg (by decide)]
  refine ⟨_, .inr (.inr T.jI), by rcases hz with rfl | rfl <;> rfl, by decide, ?_⟩
  rw [ym hz, if_neg (by decide)]
  refine ⟨_, _, _, _, hp, T.cn, T.bJ, lkp _, d, _, rfl, DGet.k (k := .inr ⟨⟨l⟩⟩) J.dc, ?_⟩
  rw [iw, Option.isSome_map, ef, if_neg (by intro z; cases z)]
  intro x dx hx hdx ne
  refine ⟨ao (ao hN rfl) rfl, _, ae, fun b H' hb h1 h2 kp hN' => ?_⟩
  have kp0 := fP hx hdx kp
  have J1 := J.keep kp0 List.not_mem_nil List.not_mem_nil fun _ _ => ⟨List.not_mem_nil, List.not_mem_nil⟩
  obtain ⟨dx1, hp1⟩ := J1.ob
  let c : Acc := ⟨l, x, b, x2, .non, 0, none, []⟩
  have smk : (cs.map kyA).length < sizeLine := by rw [List.length_map, sizeLine_eq]; omega
  refine ⟨_, _, _, _, hp1, T.cn, T.bJ, lkp _, d, _, rfl, DPut.k (k := .inr ⟨⟨l⟩⟩) J1.dc smk, ?_⟩
  rw [rQ ef c rfl]
  exact k c _ rfl rfl rfl rfl hx (cR hb) (J.more kp0 ef hx (cR hb) ⟨⟨dx, h1⟩, h2⟩) ((kp0.mono (fun _ h => nomatch h)).put (.head _)) (ao hN' rfl)
theorem mU (s x : List Nat) : ∀ (r : List (List Nat)), r ≠ [] → bZ s (r ++ [x]) = bZ s r ++ s ++ x
  | [], h => absurd rfl h
  | [y], _ => by simp [bZ]
  | y :: z :: r, _ => by
    have := mU s x (z :: r) (by simp)
    rw [List.cons_append, List.cons_append, bZ, ← List.cons_append, this, bZ]
    simp
theorem iz {v n : List Nat} (hn : 58 ∉ n) : spN 58 (v ++ 58 :: n) = spN 58 v ++ [n] := by
  have h := mM 58 (spN 58 v ++ [n]) (by simp) fun p hp => by
    rcases List.mem_append.mp hp with h | h
    · exact ir 58 v p h
    · rw [List.mem_singleton.mp h]; exact hn
  rw [mU _ _ _ (ji 58 v), hU] at h
  rw [← h]; simp
theorem zi {v n : List Nat} (hn : 58 ∉ n) : abN (v ++ 58 :: n) = abN v ++ [v] := by
  unfold abN
  rw [iz hn, List.length_append, List.length_singleton, Nat.add_sub_cancel]
  have hp : 0 < (spN 58 v).length := List.length_pos_iff.mpr (ji 58 v)
  obtain ⟨m, hm⟩ : ∃ m, (spN 58 v).length = m + 1 := ⟨(spN 58 v).length - 1, by omega⟩
  rw [hm, List.range_succ, List.map_append, Nat.add_sub_cancel]
  congr 1
  · apply List.map_congr_left
    intro k hk
    have := List.mem_range.mp hk
    rw [List.take_append_of_le_length (by omega)]
  · rw [List.map_singleton, ← hm, List.take_left', hU]
    rfl
def i5 (cs : List Acc) (l : List Nat) (f : Acc → Acc) : List Acc := cs.map fun z => if z.pa = l then f z else z
theorem fL {β : Type} {cs : List Acc} {l : List Nat} {f : Acc → Acc} (g : Acc → β) (h : ∀ z, g (f z) = g z) : (i5 cs l f).map g = cs.map g := by
  unfold i5
  rw [List.map_map]
  apply List.map_congr_left
  intro z _
  show g (if z.pa = l then f z else z) = g z
  split
  · exact h z
  · rfl
theorem g7 {cs : List Acc} {l : List Nat} {f : Acc → Acc} {z : Acc} (h : z ∈ i5 cs l f) : ∃ y ∈ cs, z = if y.pa = l then f y else y := by
  obtain ⟨y, hy, e⟩ := List.mem_map.mp h
  exact ⟨y, hy, e.symm⟩
def grw (l : List Nat) (z : Acc) : Acc := { z with be := z.be ++ [l] }
theorem itp {c : Prop} [Decidable c] {t e : Prop} (h : c) (x : t) : ite c t e := by rw [if_pos h]; exact x
theorem itn {c : Prop} [Decidable c] {t e : Prop} (h : ¬ c) (x : e) : ite c t e := by rw [if_neg h]; exact x
theorem CAt.grow {C A : Addr} {H : Hp} {p d : Addr} {cs : List Acc} (J : CAt C A H p d cs) {u : Acc} (hu : u ∈ cs) (l : List Nat) : CAt C A (upd H u.bl (.lst (u.be.map L2.T ++ [L2.T l]))) p d (i5 cs u.pa (grw l)) := by
  refine ⟨?_, ?_, fun z hz => ?_, ?_, ?_, ?_⟩
  · obtain ⟨dx, e⟩ := J.ob
    exact ⟨dx, (al (J.p_bl hu)).trans e⟩
  · rw [fL (f := grw l) kyA fun _ => rfl, al (Ne.symm (J.bl_d hu))]; exact J.dc
  · obtain ⟨y, hy, e⟩ := g7 hz
    obtain ⟨dy, ho⟩ := (J.ac y hy).ob
    by_cases h : y.pa = u.pa
    · have : y = u := lZ J.np hy hu h
      subst this
      rw [if_pos rfl] at e
      subst e
      exact ⟨⟨dy, (al (J.ob_bl hy hu)).trans ho⟩, by show upd H y.bl _ y.bl = some (.lst ((y.be ++ [l]).map L2.T)); rw [ae, List.map_append]; rfl⟩
    · rw [if_neg h] at e
      subst e
      have nb : z.bl ≠ u.bl := fun q => h (by rw [lZ J.nb hy hu q])
      exact ⟨⟨dy, (al (J.ob_bl hy hu)).trans ho⟩, (al nb).trans (J.ac z hy).ls⟩
  · rw [fL (f := grw l) _ fun _ => rfl]; exact J.np
  · rw [fL (f := grw l) _ fun _ => rfl]; exact J.na
  · rw [fL (f := grw l) _ fun _ => rfl]; exact J.nb
theorem xL {cs : List Acc} {v l : List Nat} {f : Acc → Acc} (hf : ∀ z, (f z).pa = z.pa) (h : fnd cs l = none) : fnd (i5 cs v f) l = none := by
  refine List.find?_eq_none.mpr fun z hz => ?_
  obtain ⟨y, hy, e⟩ := g7 hz
  have := nE h y hy
  subst e
  split
  · simpa [hf] using this
  · simpa using this
def sp_AH (C A : Addr) : Sp := sp4 fun x y z t H Q _ => NoT H ∧ asR x fun p => asT y fun l => ((∀ c ∈ l, c < 128) ∧ l.length ≤ 199) ∧ z = .non ∧ t = .int 0 ∧ ∃ v n d cs u, l = v ++ 58 :: n ∧ 58 ∉ n ∧ iJ l = true ∧ CAt C A H p d cs ∧ cs.length ≤ 100 ∧ (∀ c ∈ cs, c.be.length ≤ 100) ∧
  fnd cs l = none ∧ u ∈ cs ∧ u.pa = v ∧ u.un = none ∧ u.fi = 0 ∧
  ∀ c H', c.pa = l → c.fi = 0 → c.un = none → c.be = [] → H c.ob = none → H c.bl = none → CAt C A H' p d (i5 cs v (grw l) ++ [c]) → Keep (d :: cs.map (·.bl)) H H' → NoT H' → Q .non H'
theorem j_ (T : Txt K mg a) : bD P w K mg base (XE P w) 7 a.fA a.jV ["self", "path", "currency", "day"] (sp_AH a.bq a.aG) := by
  refine T.gT.okX jx (fun vs H Q E h => sp4.len h) (fun cdv A outer s H vs Q E hr h => ?_)
  obtain ⟨x0, x1, x2, x3, rfl, h⟩ := sp4.inv h
  have ND := jx.nd
  have HU : (cG (XE P w) P w K mg base ["self", "path", "currency", "day", "upper"] "Chart.add" (ag bR) a.fA cdv A outer s H E).A.units + 100 < cLine := bL hr
  obtain ⟨hN, h1⟩ := h
  obtain ⟨p, rfl, h2⟩ := asR.inv h1
  obtain ⟨l, rfl, hl, rfl, rfl, v, n, d, cs, u, el, hn, e, J, len, lb, ef, hu, pu, un, uf, k⟩ := asT.inv h2
  obtain ⟨dx, hp⟩ := J.ob
  have G_Account___init__ := ej (P := P) (w := w) (base := base) T
  have b_Account___init__ := ez T.df
  have G_Account_stands_on := g0 (P := P) (w := w) (base := base) T
  have b_Account_stands_on := ij T.eA
  have G_Chart_account := kr (P := P) (w := w) (base := base) T
  have b_Chart_account := km T.gG
  have G_above := yu (P := P) (w := w) (base := base) T
  have b_above := wG T.pW
  have G_is_day := vm (P := P) (w := w) (base := base) T
  have b_is_day := v8 T.nD
  have G_is_currency := mV (P := P) (w := w) (base := base) T
  have b_is_currency := mI T.fF
  have G_names_of := qQ (P := P) (w := w) (base := base) T
  have b_names_of := rC T.i9
  refine ⟨_, (ah (bG (xC (bI (cY K HU) (ay (cy K) rfl T.eQ dh (FA.pa (aa (au G_names_of (hr.mono (by decide)) rfl T.tY T.i9.kp b_names_of .nil aC (FA.pa (aa (fv 1) af))) af))) ad (bn _))) (ak (cP T.pi PySem.F.excBase_ValueError rfl rfl T.oS dG (FA.pa (aa (aL [97, 32, 115, 105, 110, 103, 108, 101, 32, 110, 97, 109, 101, 32, 105, 115, 32, 97, 32, 116, 111, 112]) af)))) aQ)
      (ah (bG (L2.PW.pt (jd (rG (pV (fv 2))) (gj (cI (cv (au G_is_currency (hr.mono (by decide)) rfl T.nW T.fF.kp b_is_currency .nil aC (FA.pa (aa (fv 2) af)))))))) (ak (cP T.nL PySem.F.excBase_ValueError rfl rfl T.oj dG (FA.pa (aa (aL [116, 104, 105, 115, 32, 105, 115, 32, 110, 111, 32, 99, 117, 114, 114, 101, 110, 99, 121]) af)))) aQ)
      (ah (bG (cI (cv (au G_is_day (hr.mono (by decide)) rfl T.yw T.nD.kp b_is_day .nil aC (FA.pa (aa (fv 3) af))))) (ak (cP T.yd PySem.F.excBase_ValueError rfl rfl T.wY dG (FA.pa (aa (aL [116, 104, 105, 115, 32, 105, 115, 32, 110, 111, 32, 100, 97, 121]) af)))) aQ)
      (ah (bG (rG (ue (Nat.lt_of_le_of_lt (Nat.add_le_add_left (by decide) _) HU) (fv 1) (ck K (fv 0))) (by with_unfolding_all rfl)) (ak (cP T.u5 PySem.F.excBase_ValueError rfl rfl T.uD dG (FA.pa (aa (aL [116, 104, 101, 114, 101, 32, 105, 115, 32, 115, 117, 99, 104, 32, 97, 110, 32, 97, 99, 99, 111, 117, 110, 116]) af)))) aQ)
      (ah (aw (i := 4) ND rfl (Or.inl rfl) (dC (fv 0) T.cn T.kt G_Chart_account (hr.mono (by decide)) b_Chart_account .nil aC (FA.pa (aa (zQ (aV (az K) (au G_above (hr.mono (by decide)) rfl T.zC T.pW.kp b_above .nil aC (FA.pa (aa (fv 1) af))) (rH mB ad) (fun _ _ => rfl))) af))))
      (ah (bG (L2.PW.pt (oG (rG (pV (ck K (fv 4)))) (pw (cI (cv (dC (fv 4) T.bH T.gS G_Account_stands_on (hr.mono (by decide)) b_Account_stands_on .nil aC (FA.pa (aa (fv 3) af)))))))) (ak (cP T.vZ PySem.F.excBase_ValueError rfl rfl T.oY dG (FA.pa (aa (aL [116, 104, 101, 32, 97, 99, 99, 111, 117, 110, 116, 32, 97, 98, 111, 118, 101, 32, 105, 115, 110, 39, 116, 32, 111, 112, 101, 110]) af)))) aQ)
      (ah (bY (cr K PySem.F.plainAttrs_list PySem.F.slot_list_append PySem.F.type_list_append bV (ck K (fv 4)) (FA.pa (aa (fv 1) af))))
      (ak (qk (Nat.lt_of_le_of_lt (Nat.add_le_add_left (by decide) _) HU) (ck K (fv 0)) (fv 1) (ss T.nn G_Account___init__ (hr.mono (by decide)) rfl T.oA b_Account___init__ .nil aC (FA.pa (aa (ck K (fv 4)) (aa (fv 2) (aa (fv 3) af))))) rfl))))))))), ?_⟩
  walk_at "rd"
  refine ⟨hN, hN, fun l' e => by cases e; exact hl, ?_⟩
  have ep : qT (L2.T l) = iJ l := rfl
  rw [ep, e, if_pos rfl]
  intro q hq
  refine ⟨_, .inl (SqL.of ae), H, Gc.none (ai _ hq), ?_⟩
  rw [List.length_map, el, iz hn, List.length_append, if_neg (by
    have hp : 0 < (spN 58 v).length := List.length_pos_iff.mpr (ji 58 v)
    simp only [List.length_singleton]; omega)]
  rw [← el]
  refine ⟨hN, itn (by decide) ⟨_, _, _, _, hp, T.cn, T.bJ, lkp _, d, _, rfl, DGet.k (k := .inr ⟨⟨l⟩⟩) J.dc, ?_⟩⟩
  rw [iw, Option.isSome_map, ef, if_neg (by intro z; cases z)]
  refine ⟨_, _, hp, s_ _, hN, hN, hl, fun q2 hq2 => ⟨_, L2.T v, .inl (SqL.of ae), ?_, ?_⟩⟩
  · rw [el, zi hn, List.map_append]; exact m8 _ _
  refine ⟨H, Gc.none (ai _ hq2), hN, ?_⟩
  walk_at "rd"
  refine ⟨d, cs, J, ?_⟩
  rw [show fnd cs v = some u by rw [← pu]; exact qw J.np hu]
  obtain ⟨du, ho⟩ := (J.ac u hu).ob
  refine ⟨_, _, _, _, ho, T.bH, T.db, fu .., ?_⟩
  rw [un]
  have eo : opn u.fi u.un 0 = true := by rw [un, uf]; rfl
  refine itp rfl ⟨_, _, ho, CQ .., hN, _, _, _, _, _, _, ho, ?_⟩
  rw [eo]
  have sml : (u.be.map L2.T).length < sizeLine := by have := lb u hu; rw [List.length_map, sizeLine_eq]; omega
  refine itn (by decide) ⟨_, _, _, _, ho, T.bH, T.gM, fb .., .inl ⟨rfl, _, SqL.of (J.ac u hu).ls⟩, u.bl, _, _, rfl, rfl, (J.ac u hu).ls, sml, ?_⟩
  have J1 := J.grow hu l
  have N1 : NoT (upd H u.bl (.lst (u.be.map L2.T ++ [L2.T l]))) := ao hN rfl
  have ho1 := (al (o := .lst (u.be.map L2.T ++ [L2.T l])) (J.ob_bl hu hu)).trans ho
  have K1 : Keep (d :: cs.map (·.bl)) H (upd H u.bl (.lst (u.be.map L2.T ++ [L2.T l]))) := Keep.refl.put (.tail _ (List.mem_map_of_mem hu))
  have n58 : ∀ q, upd H u.bl (.lst (u.be.map L2.T ++ [L2.T l])) q = none → H q = none := fun q hq => by
    by_cases hc : q = u.bl
    · rw [hc, ae] at hq; cases hq
    · rw [al hc] at hq; exact hq
  generalize upd H u.bl (.lst (u.be.map L2.T ++ [L2.T l])) = H1 at J1 N1 ho1 K1 n58 ⊢
  refine ⟨_, _, _, _, ho1, T.bH, T.hJ, fk .., fun x dx1 hx hdx ne => ?_⟩
  refine ⟨ao (ao N1 rfl) rfl, _, ae, fun b H' hb h1 h2 kp hN' => ?_⟩
  have kp0 := fP hx hdx kp
  have J2 := J1.keep kp0 List.not_mem_nil List.not_mem_nil fun _ _ => ⟨List.not_mem_nil, List.not_mem_nil⟩
  obtain ⟨dx2, hp2⟩ := J2.ob
  let c : Acc := ⟨l, x, b, u.ki, .non, 0, none, []⟩
  have smk : ((i5 cs u.pa (grw l)).map kyA).length < sizeLine := by rw [fL (f := grw l) kyA fun _ => rfl, List.length_map, sizeLine_eq]; omega
  have ef1 : fnd (i5 cs u.pa (grw l)) l = none := xL (fun _ => rfl) ef
  refine ⟨_, _, _, _, hp2, T.cn, T.bJ, lkp _, d, _, rfl, DPut.k (k := .inr ⟨⟨l⟩⟩) J2.dc smk, ?_⟩
  rw [rQ ef1 c rfl]
  have J3 := J1.more kp0 (c := c) ef1 hx (cR hb) ⟨⟨dx1, h1⟩, h2⟩
  rw [pu] at J3 ⊢
  exact k c _ rfl rfl rfl rfl (n58 _ hx) (n58 _ (cR hb)) J3 ((K1.trans (kp0.mono (fun _ h => nomatch h))).put (.head _)) (ao hN' rfl)
end
section
variable {pS : Addr} {ns : List Int} {P : Program} {w : World} {K : PySem.W.Frag} {mg : Str → Option Value} {base : Heap} {a : Adr}
def B1 (C dx b u : Addr) : HO := .ins C dx [("bookings", .ref b), ("undoings", .ref u)]
theorem lkb (x y : V) : List.lookup (Str.ofString "bookings") [(Str.ofString "bookings", x), (Str.ofString "undoings", y)] = some x := ku
structure JAt (C : Addr) (H : Hp) (p b u : Addr) (bs : List V) : Prop where
  ob : ∃ dx, H p = some (B1 C dx b u)
  ls : H b = some (.lst bs)
  dc : H u = some (.dK [])
theorem JAt.keep {C : Addr} {S : List Addr} {H H' : Hp} {p b u : Addr} {bs : List V} (j : JAt C H p b u bs) (x : Keep S H H') (hp : p ∉ S) (hb : b ∉ S) (hu : u ∉ S) : JAt C H' p b u bs :=
  ⟨by obtain ⟨dx, e⟩ := j.ob; exact ⟨dx, x _ _ e hp⟩, x _ _ j.ls hb, x _ _ j.dc hu⟩
def sp_vv (C : Addr) : Sp := sp1 fun x H Q _ => NoT H ∧ asR x fun p => ∃ dx, H p = some (.ins C dx []) ∧ ∀ b u H', H b = none → H u = none → JAt C H' p b u [] → Keep [p] H H' → NoT H' → Q .non H'
theorem iC (T : Txt K mg a) : bD P w K mg base (XE P w) 1 a.cz a.et ["self"] (sp_vv a.aF) := by
  refine T.eR.okX iB (fun vs H Q E h => sp1.len h) (fun cdv A outer s H vs Q E hr h => ?_)
  obtain ⟨x0, rfl, h⟩ := sp1.inv h
  obtain ⟨hN, h1⟩ := h
  obtain ⟨p, rfl, dx, hp, k⟩ := asR.inv h1
  refine ⟨_, (ah (eY K (fv 0) (cW (FA.pa af)))
      (ak (eY K (fv 0) uI))), ?_⟩
  walk_at "rd"
  refine ⟨Nat.zero_le _, fun b hb => ?_⟩
  have np : p ≠ b := aj hp hb
  refine ⟨_, _, _, (al np).trans hp, T.cN, T.cE, by show 0 < 1000; decide, fun u hu => ?_⟩
  have nu : p ≠ u := fun q => by rw [← q, ae] at hu; cases hu
  have nb : b ≠ u := fun q => by rw [← q, al (Ne.symm np), ae] at hu; cases hu
  refine ⟨_, _, _, (al nu).trans ae, T.cN, T.jt, by show 1 < 1000; decide, ?_⟩
  have hu0 : H u = none := by
    rw [al (Ne.symm nu), al (Ne.symm nb)] at hu; exact hu
  refine k b u _ hb hu0 ⟨⟨dx, ?_⟩, ?_, ?_⟩ ?_ ?_
  · rw [ae]
    have e : dO (Str.ofString "undoings") (V.ref u) (dO (Str.ofString "bookings") (V.ref b) []) = [(Str.ofString "bookings", .ref b), (Str.ofString "undoings", .ref u)] := by
      have q : ¬ (Str.ofString "bookings" = Str.ofString "undoings") := by decide +kernel
      simp [dO, q]
    rw [e]; rfl
  · rw [al (Ne.symm np), al nb, al (Ne.symm np), ae]
  · rw [al (Ne.symm nu), ae]
  · exact (((Keep.refl.new hb).put (List.mem_singleton.2 rfl)).new hu).put (List.mem_singleton.2 rfl)
  · exact ao (ao (ao (ao hN rfl) rfl) rfl) rfl
def sp_xx (C : Addr) : Sp := sp5 fun x d n r o H Q _ => NoT H ∧ asR x fun p => asR r fun r => o = .non ∧ ∃ b u bs rs, JAt C H p b u bs ∧ bs.length ≤ 100 ∧ H r = some (.lst rs) ∧
  ∀ t q H', H t = none → H' t = some (.tup rs) → H q = none → H' q = some (.tup [.int bs.length, d, n, .ref t, .non]) → JAt C H' p b u (bs ++ [.ref q]) → Keep [b] H H' → NoT H' → Q (.int bs.length) H'
theorem mQ (T : Txt K mg a) : bD P w K mg base (XE P w) 1 a.d5 a.gY ["self", "day", "note", "rows", "undoes"] (sp_xx a.aF) := by
  refine T.iI.okX g_ (fun vs H Q E h => sp5.len h) (fun cdv A outer s H vs Q E hr h => ?_)
  obtain ⟨x0, x1, x2, x3, x4, rfl, h⟩ := sp5.inv h
  have ND := g_.nd
  have HU : (cG (XE P w) P w K mg base ["self", "day", "note", "rows", "undoes", "number"] "Journal.put" (ag br) a.d5 cdv A outer s H E).A.units + 100 < cLine := bL hr
  obtain ⟨hN, h1⟩ := h
  obtain ⟨p, rfl, h2⟩ := asR.inv h1
  obtain ⟨r, rfl, rfl, b, u, bs, rs, J, l1, hs, k⟩ := asR.inv h2
  obtain ⟨dx, hp⟩ := J.ob
  refine ⟨_, (ah (aw (i := 5) ND rfl (Or.inl rfl) (ay (cy K) rfl T.eQ dh (FA.pa (aa (ck K (fv 0)) af))))
      (ah (bY (cr K PySem.F.plainAttrs_list PySem.F.slot_list_append PySem.F.type_list_append bV (ck K (fv 0)) (FA.pa (aa (dg (FA.pa (aa (fv 5) (aa (fv 1) (aa (fv 2) (aa (iu (yc K) rfl T.pq mJ (FA.pa (aa (fv 3) af))) (aa (fv 4) af))))))) af))))
      (ah (bG (rG (pV (fv 4))) (ak (qk (Nat.lt_of_le_of_lt (Nat.add_le_add_left (by decide) _) HU) (ck K (fv 0)) (fv 4) (fv 5) rfl)) aQ)
      (ak (aH (fv 5)))))), ?_⟩
  walk_at "rd"
  refine ⟨_, _, _, _, hp, T.cN, T.cE, lkb _ _, bs, .inl (.inl (.inl J.ls)), _, _, _, _, hp, T.cN, T.cE, lkb _ _, .inl ⟨rfl, bs, .inl (.inl J.ls)⟩, rs, .inl ⟨SqL.of hs, fun t ht => ⟨by rw [sizeLine_eq]; decide, fun q hq => ?_⟩⟩⟩
  have nb : p ≠ b := dI hp J.ls (by intro z; cases z)
  have bu : b ≠ u := dI J.ls J.dc (by intro z; cases z)
  have tp : p ≠ t := aj hp ht
  have tb : b ≠ t := aj J.ls ht
  have tu : u ≠ t := aj J.dc ht
  have s1 := ai (HO.tup rs) ht
  have qb := aj (s1 _ _ J.ls) hq
  have qu := aj (s1 _ _ J.dc) hq
  have qp := aj (s1 _ _ hp) hq
  have qt : t ≠ q := aj ae hq
  have q0 : H q = none := s1.free hq
  refine ⟨b, bs, _, rfl, rfl, by rw [al qb, al tb]; exact J.ls, by rw [sizeLine_eq]; omega, ?_⟩
  refine k t q _ ht ?_ q0 ?_ ⟨⟨dx, ?_⟩, ae, ?_⟩ (((Keep.refl.new ht).new hq).put (.head _)) (ao (ao (ao hN rfl) rfl) rfl)
  · rw [al (Ne.symm tb), al qt, ae]
  · rw [al (Ne.symm qb), ae]
  · rw [al nb, al qp, al tp]; exact hp
  · rw [al (Ne.symm bu), al qu, al tu]; exact J.dc
def sp_tT (C : Addr) : Sp := sp1 fun x H Q _ => NoT H ∧ asR x fun p => ∃ b u bs, JAt C H p b u bs ∧ ∀ q, H q = none → Q (.ref q) (upd H q (.lst bs))
theorem kJ (T : Txt K mg a) : bD P w K mg base (XE P w) 1 a.ee a.fQ ["self"] (sp_tT a.aF) := by
  refine T.gF.okG lC (fun vs H Q E h => sp1.len h) (fun cdv A outer s H vs Q E hr h => ?_)
  obtain ⟨x0, rfl, h⟩ := sp1.inv h
  obtain ⟨hN, h1⟩ := h
  obtain ⟨p, rfl, b, u, bs, J, k⟩ := asR.inv h1
  obtain ⟨dx, hp⟩ := J.ob
  refine ⟨hN, _, (ak (aH (iu (vc K) rfl T.uk py (FA.pa (aa (ck K (fv 0)) af))))), ?_⟩
  walk_at "rd"
  exact ⟨_, _, _, _, hp, T.cN, T.cE, lkb _ _, bs, .inl (.inl (.inl J.ls)), fun l hl => ⟨_, Gc.one (ai _ hl) hl ae rfl, k l hl⟩⟩
def sp_qO : Sp := sp2 fun x y H Q _ => NoT H ∧ asT x fun l => asT y fun o => o.length ≤ 1000 ∧ Q (.bl (wi l o)) H
theorem qv (T : Txt K mg a) : bD P w K mg base (XE P w) 1 a.fw a.jY ["path", "other"] sp_qO := by
  refine T.ib.okG pM (fun vs H Q E h => sp2.len h) (fun cdv A outer s H vs Q E hr h => ?_)
  obtain ⟨x0, x1, rfl, h⟩ := sp2.inv h
  have HU : (cG (XE P w) P w K mg base ["path", "other"] "is_within" (ag bT) a.fw cdv A outer s H (gcE H E)).A.units + 100 < cLine := bL hr
  obtain ⟨hN, h1⟩ := h
  obtain ⟨l, rfl, h2⟩ := asT.inv h1
  obtain ⟨o, rfl, ho, k⟩ := asT.inv h2
  refine ⟨hN, _, (ak (aH (oU (eD (cY K HU) (fv 0) (fv 1) (bn _)) (de (cr K PySem.F.plainAttrs_str PySem.F.slot_str_startswith PySem.F.type_str_startswith m_ (fv 0) (FA.pa (aa (aq aJ (fv 1) (aL [58])) af))))))), ?_⟩
  walk_at "rd"
  unfold wi at k
  split
  · rename_i h
    rw [decide_eq_true h] at k; exact k
  · rename_i h
    rw [decide_eq_false h] at k
    exact ⟨by rw [sizeLine_eq]; omega, k⟩
end
section
theorem pz (c : Int) (k : Nat) : nm (nms c k) = true := by
  obtain ⟨h1, h2, h3⟩ := gh (c := c) (k := k)
  unfold nm lie
  rw [decide_eq_true h1, decide_eq_true (by omega : (nms c k).length ≤ 12), Bool.true_and, Bool.true_and, List.all_eq_true]
  intro x hx
  have := h3 x hx
  simp; omega
theorem gt (c : Int) (k : Nat) : 58 ∉ nms c k := fun h => by have := (gh (c := c) (k := k)).2.2 58 h; omega
structure POk (l : List Nat) : Prop where
  pn : iJ l = true
  lo : ∀ c ∈ l, c < 128
  ln : l.length + 1 ≤ 13 * (spN 58 l).length
theorem POk.len {l : List Nat} (h : POk l) : l.length ≤ 100 := by
  have := h.pn
  unfold iJ at this
  simp only [Bool.and_eq_true, decide_eq_true_eq] at this
  have := h.ln
  omega
theorem POk.top {c : Int} {k : Nat} : POk (nms c k) := by
  have e := ka 58 _ (gt c k)
  obtain ⟨h1, h2, h3⟩ := gh (c := c) (k := k)
  refine ⟨?_, fun x hx => by have := h3 x hx; omega, by rw [e]; simp; omega⟩
  unfold iJ
  rw [e]
  simp [pz]
theorem POk.ext {c : Int} {k : Nat} {u : List Nat} (h : POk u) (l5 : (spN 58 u).length ≤ 5) : POk (u ++ 58 :: nms c k) := by
  have e := iz (v := u) (gt c k)
  obtain ⟨h1, h2, h3⟩ := gh (c := c) (k := k)
  have hp := h.pn
  unfold iJ at hp
  simp only [Bool.and_eq_true, decide_eq_true_eq] at hp
  refine ⟨?_, fun x hx => ?_, ?_⟩
  · unfold iJ
    rw [e, List.length_append, List.all_append]
    simp only [Bool.and_eq_true, decide_eq_true_eq]
    exact ⟨⟨by omega, by simp; omega⟩, hp.2, by simp [pz]⟩
  · rcases List.mem_append.mp hx with m | m
    · exact h.lo x m
    · rcases List.mem_cons.mp m with rfl | m
      · decide
      · have := h3 x m; omega
  · have := h.ln
    rw [e, List.length_append, List.length_append, List.length_singleton, List.length_cons]
    omega
namespace eM
variable {c : Int} {ps : List (List Nat)}
theorem ok (h : eM c ps) : ∀ p ∈ ps, POk p := by
  induction h with
  | two =>
    intro p hp
    simp only [List.mem_cons, List.not_mem_nil, or_false] at hp
    rcases hp with rfl | rfl <;> exact POk.top
  | more _ hu _ l5 ih =>
    intro p hp
    rcases List.mem_append.mp hp with m | m
    · exact ih p m
    · rw [List.mem_singleton.mp m]; exact (ih _ hu).ext l5
theorem nd (h : eM c ps) : ps.Nodup := by
  induction h with
  | two => exact List.nodup_cons.mpr ⟨by simpa using Ao c, by simp⟩
  | more _ _ hn _ ih => exact gd ih hn
theorem up (h : eM c ps) : ∀ i p, ps[i]? = some p → (58 ∉ p ∧ ∃ k, p = nms c k) ∨ ∃ u k, p = u ++ 58 :: nms c k ∧ u ∈ ps.take i := by
  induction h with
  | two =>
    intro i p hp
    match i with
    | 0 => cases hp; exact .inl ⟨gt c 0, 0, rfl⟩
    | 1 => cases hp; exact .inl ⟨gt c 6, 6, rfl⟩
    | i + 2 => simp at hp
  | @more ps u k _ hu hn _ ih =>
    intro i p hp
    rcases Nat.lt_or_ge i ps.length with lt | ge
    · rw [List.getElem?_append_left lt] at hp
      rcases ih i p hp with h | ⟨u', k', e, m⟩
      · exact .inl h
      · exact .inr ⟨u', k', e, by rw [List.take_append_of_le_length (Nat.le_of_lt lt)]; exact m⟩
    · have : i = ps.length := by
        have := (List.getElem?_eq_some_iff.mp hp).1
        simp at this; omega
      subst this
      rw [List.getElem?_concat_length] at hp
      cases hp
      exact .inr ⟨u, k, rfl, by rw [List.take_left']; exact hu; rfl⟩
theorem cut {u n u' n' : List Nat} (hn : 58 ∉ n) (hn' : 58 ∉ n') (e : u ++ 58 :: n = u' ++ 58 :: n') : u = u' ∧ n = n' := by
  have h := congrArg (spN 58) e
  rw [iz hn, iz hn'] at h
  obtain ⟨h1, h2⟩ := List.append_inj' h rfl
  have := congrArg (bZ [58]) h1
  rw [hU, hU] at this
  exact ⟨this, by simpa using h2⟩
theorem beneath (h : eM c ps) {u n : List Nat} (hn : 58 ∉ n) (m : u ++ 58 :: n ∈ ps) : u ∈ ps ∧ ∃ k, n = nms c k := by
  obtain ⟨i, hi⟩ := List.getElem?_of_mem m
  rcases h.up i _ hi with ⟨h1, _⟩ | ⟨u', k, e, m'⟩
  · exact absurd (by simp) h1
  · obtain ⟨rfl, rfl⟩ := cut hn (gt c k) e
    exact ⟨List.mem_of_mem_take m', k, rfl⟩
theorem last (h : eM c ps) {n : List Nat} (hn : 58 ∉ n) {l : List Nat} (hl : ps.getLast? = some l) : l ++ 58 :: n ∉ ps := by
  cases h with
  | two =>
    intro m
    simp at hl
    subst hl
    simp only [List.mem_cons, List.not_mem_nil, or_false] at m
    rcases m with m | m
    · exact gt c 0 (by rw [← m]; simp)
    · exact gt c 6 (by rw [← m]; simp)
  | @more ps u k h hu hw _ =>
    rw [List.getLast?_concat] at hl
    cases hl
    intro m
    rcases List.mem_append.mp m with m | m
    · exact hw (h.beneath hn m).1
    · have := congrArg List.length (List.mem_singleton.mp m)
      simp at this
theorem none_ (h : eM c ps) : mX ∉ ps ∧ [] ∉ ps ∧ (∀ u, u ++ 58 :: dk ∉ ps) ∧ ∀ u, u ++ [58] ∉ ps := by
  have z58 : 58 ∉ dk := by decide
  refine ⟨fun m => ?_, fun m => ?_, fun u m => ?_, fun u m => ?_⟩
  · obtain ⟨i, hi⟩ := List.getElem?_of_mem m
    rcases h.up i _ hi with ⟨_, k, e⟩ | ⟨u, k, e, _⟩
    · exact uJ (.inl rfl) e.symm
    · have : 58 ∈ mX := by rw [e]; simp
      exact absurd this (by decide)
  · have := (h.ok _ m).pn
    exact absurd this (by decide)
  · obtain ⟨_, k, e⟩ := h.beneath z58 m
    exact uJ (.inr rfl) e.symm
  · obtain ⟨_, k, e⟩ := h.beneath (n := []) (by simp) m
    have := (gh (c := c) (k := k)).1
    rw [← e] at this; simp at this
theorem head (h : eM c ps) : ps[0]? = some (nms c 0) := by
  induction h with
  | two => rfl
  | @more ps u k h _ _ _ ih => rw [List.getElem?_append_left (by have := (List.getElem?_eq_some_iff.mp ih).1; omega)]; exact ih
theorem fresh (c : Int) : POk (nms c 0 ++ 58 :: dk) := by
  have e := iz (v := nms c 0) (n := dk) (by decide)
  rw [ka 58 _ (gt c 0)] at e
  obtain ⟨h1, h2, h3⟩ := gh (c := c) (k := 0)
  refine ⟨?_, fun x hx => ?_, by rw [e]; simp [dk]; omega⟩
  · unfold iJ
    rw [e]
    have : nm dk = true := by decide
    simp [pz, this]
  · rcases List.mem_append.mp hx with m | m
    · have := h3 x m; omega
    · have : ∀ y ∈ 58 :: dk, y < 128 := by decide
      exact this x m
theorem len2 (h : eM c ps) : 2 ≤ ps.length := by
  induction h with
  | two => exact Nat.le_refl _
  | more _ _ _ _ ih => simp; omega
end eM
end
section
variable {pS : Addr} {ns : List Int} {P : Program} {w : World} {K : PySem.W.Frag} {mg : Str → Option Value} {base : Heap} {a : Adr}
def RwAt (H : Hp) (v : V) (r : Row) : Prop := ∃ q, v = .ref q ∧ H q = some (.tup [L2.T r.pa, L2.T r.cu, .int r.am])
def BkAt (H : Hp) (v : V) (b : Bk) : Prop := ∃ q t vs, v = .ref q ∧ H q = some (.tup [.int b.k, .int b.d, L2.T [], .ref t, .non]) ∧ H t = some (.tup vs) ∧ A2 (RwAt H) vs b.rs
def MnAt (W : List Addr) (H : Hp) (v : V) (b : Bk) : Prop := ∃ q t vs, v = .ref q ∧ H q = some (.tup [.int b.k, .int b.d, .ref t]) ∧ t ∉ W ∧ H t = some (.lst vs) ∧ A2 (RwAt H) vs b.rs
def LnAt (H : Hp) (v : V) (e : Int × Int × Int × Int) : Prop := ∃ q, v = .ref q ∧ H q = some (.tup [.int e.1, .int e.2.1, .int e.2.2.1, .int e.2.2.2])
def HdAt (W : List Addr) (H : Hp) (v : V) : Prop := ∃ q c d xs ys ls, v = .ref q ∧ q ∉ W ∧ c ∉ W ∧ d ∉ W ∧ H q = some (.lst [.ref c, .ref d]) ∧ H c = some (.lst xs) ∧ H d = some (.lst ys) ∧ A2 (LnAt H) xs ls ∧ A2 (LnAt H) ys ls
def ot (b : Bk) : Prop := b.rs.length ≤ 10 ∧ ∀ r ∈ b.rs, r.pa.length ≤ 200
def LW (W : List Addr) (H : Hp) : Prop := ∀ s ∈ W, ∃ o, H s = some o ∧ ∀ l, o ≠ .tup l
theorem LW.nil {H : Hp} : LW [] H := fun _ h => nomatch h
theorem LW.one {H : Hp} {s : Addr} {xs : List V} (h : H s = some (.lst xs)) : LW [s] H := fun z m => by rw [List.mem_singleton.mp m]; exact ⟨_, h, by intro _ z; cases z⟩
theorem LW.no {W : List Addr} {H : Hp} (t : LW W H) {q : Addr} {l : List V} (h : H q = some (.tup l)) : q ∉ W := fun m => by
  obtain ⟨o, e, n⟩ := t q m
  rw [h] at e; cases e; exact n _ rfl
theorem LW.new {W : List Addr} {H : Hp} (t : LW W H) {q : Addr} (h : H q = none) : q ∉ W := fun m => by
  obtain ⟨o, e, _⟩ := t q m
  rw [h] at e; cases e
theorem LW.mono {W W' : List Addr} {H : Hp} (t : LW W H) (h : ∀ c ∈ W', c ∈ W) : LW W' H := fun s m => t s (h s m)
theorem MnAt.mono {W W' : List Addr} {H : Hp} {v : V} {b : Bk} (x : MnAt W H v b) (h : ∀ c ∈ W', c ∈ W) : MnAt W' H v b := by
  obtain ⟨q, t, vs, e, e1, n, r⟩ := x
  exact ⟨q, t, vs, e, e1, fun m => n (h _ m), r⟩
theorem HdAt.mono {W W' : List Addr} {H : Hp} {v : V} (x : HdAt W H v) (h : ∀ c ∈ W', c ∈ W) : HdAt W' H v := by
  obtain ⟨q, c, d, xs, ys, ls, e, n1, n2, n3, r⟩ := x
  exact ⟨q, c, d, xs, ys, ls, e, fun m => n1 (h _ m), fun m => n2 (h _ m), fun m => n3 (h _ m), r⟩
section
variable {W : List Addr} {H H' : Hp} (x : Keep W H H') (t : LW W H)
include x t
theorem RwAt.keep {v : V} {r : Row} (h : RwAt H v r) : RwAt H' v r := by
  obtain ⟨q, rfl, e⟩ := h
  exact ⟨q, rfl, x _ _ e (t.no e)⟩
theorem cH {vs : List V} {rs : List Row} (h : A2 (RwAt H) vs rs) : A2 (RwAt H') vs rs := h.imp fun _ _ _ _ r => r.keep x t
theorem LnAt.keep {v : V} {r : Int × Int × Int × Int} (h : LnAt H v r) : LnAt H' v r := by
  obtain ⟨q, rfl, e⟩ := h
  exact ⟨q, rfl, x _ _ e (t.no e)⟩
theorem bC {vs : List V} {rs : List (Int × Int × Int × Int)} (h : A2 (LnAt H) vs rs) : A2 (LnAt H') vs rs := h.imp fun _ _ _ _ r => r.keep x t
theorem BkAt.keep {v : V} {b : Bk} (h : BkAt H v b) : BkAt H' v b := by
  obtain ⟨q, u, vs, rfl, e1, e2, r⟩ := h
  exact ⟨q, u, vs, rfl, x _ _ e1 (t.no e1), x _ _ e2 (t.no e2), cH x t r⟩
theorem cq {vs : List V} {bs : List Bk} (h : A2 (BkAt H) vs bs) : A2 (BkAt H') vs bs := h.imp fun _ _ _ _ r => r.keep x t
theorem MnAt.keep {v : V} {b : Bk} (h : MnAt W H v b) : MnAt W H' v b := by
  obtain ⟨q, u, vs, rfl, e1, n, e2, r⟩ := h
  exact ⟨q, u, vs, rfl, x _ _ e1 (t.no e1), n, x _ _ e2 n, cH x t r⟩
theorem cM {vs : List V} {bs : List Bk} (h : A2 (MnAt W H) vs bs) : A2 (MnAt W H') vs bs := h.imp fun _ _ _ _ r => r.keep x t
theorem HdAt.keep {v : V} (h : HdAt W H v) : HdAt W H' v := by
  obtain ⟨q, c, d, xs, ys, ls, rfl, n1, n2, n3, e1, e2, e3, r1, r2⟩ := h
  exact ⟨q, c, d, xs, ys, ls, rfl, n1, n2, n3, x _ _ e1 n1, x _ _ e2 n2, x _ _ e3 n3, bC x t r1, bC x t r2⟩
end
theorem mf {W : List Addr} {H : Hp} {vs : List V} {bs : List Bk} (h : A2 (MnAt W H) vs bs) : A2 (MnAt [] H) vs bs := h.imp fun _ _ _ _ ⟨q, t, vs, e, e1, n, r⟩ => ⟨q, t, vs, e, e1, List.not_mem_nil, r⟩
def mt (H : Hp) (v : V) : Row := match v with
  | .ref q => (match H q with
    | some (.tup [.str x, .str y, .int i]) => ⟨x.cps.toList, y.cps.toList, i⟩
    | _ => ⟨[], [], 0⟩)
  | _ => ⟨[], [], 0⟩
theorem RwAt.row {H : Hp} {v : V} {r : Row} (h : RwAt H v r) : mt H v = r := by
  obtain ⟨q, rfl, e⟩ := h
  show (match H q with | some (.tup [.str x, .str y, .int i]) => (⟨x.cps.toList, y.cps.toList, i⟩ : Row) | _ => ⟨[], [], 0⟩) = r
  rw [e]
theorem yp {H : Hp} {vs : List V} {rs : List Row} (h : A2 (RwAt H) vs rs) : vs.map (mt H) = rs := by
  induction h with
  | nil => rfl
  | cons r _ ih => rw [List.map_cons, ih, r.row]
theorem x_ {H : Hp} {vs : List V} {rs : List Row} (h : A2 (RwAt H) vs rs) (l c : List Nat) : (vs.filter fun v => decide ((mt H v).cu = c) && wi (mt H v).pa l).map (fun v => V.int (mt H v).am) = (amt rs l c).map V.int := by
  unfold amt
  rw [← yp h, List.filter_map, List.map_map, List.map_map]; rfl
def sp_sV (K : PySem.W.Frag) : Sp := sp3 fun x y z H Q _ => NoT H ∧ asR x fun q => asT y fun l => asT z fun c => l.length ≤ 200 ∧ ∃ v0 v1 v2 v4 t vs rs, H q = some (.tup [v0, v1, v2, .ref t, v4]) ∧ H t = some (.tup vs) ∧ A2 (RwAt H) vs rs ∧ rs.length ≤ 10 ∧
  ∀ p, H p = none → Q (.ref p) (upd H p (.lst ((amt rs l c).map V.int)))
theorem jO (T : Txt K mg a) : bD P w K mg base (XE P w) 2 a.cU a.e6 ["booking", "path", "currency"] (sp_sV K) := by
  refine T.dS.okG j6 (fun vs H Q E h => sp3.len h) (fun cdv A outer s H vs Q E hr h => ?_)
  obtain ⟨x0, x1, x2, rfl, h⟩ := sp3.inv h
  have HU : (cG (XE P w) P w K mg base ["booking", "path", "currency"] "amounts_within" (ag aT) a.cU cdv A outer s H (gcE H E)).A.units + 100 < cLine := bL hr
  obtain ⟨hN, h1⟩ := h
  obtain ⟨q, rfl, h2⟩ := asR.inv h1
  obtain ⟨l, rfl, h3⟩ := asT.inv h2
  obtain ⟨c, rfl, hl, v0, v1, v2, v4, t, vs, rs, hq, ht, hw, len, k⟩ := asT.inv h3
  have G_is_within := qv (P := P) (w := w) (base := base) T
  have b_is_within := qa T.ib
  refine ⟨hN, _, (ak (aH (d_ rfl (cl := _) (x := "row") (xs := ["row"]) (fr := ["currency", "path"]) (ks := [2, 1]) (by exact ⟨rfl, by decide +kernel, rfl, by decide +kernel, rfl, d8 rfl, rfl, bo rfl, bo (k := fun y => List.lookup y _) rfl, dX rfl⟩) rfl (qN K (aV (az K) (fv 0) ad (fun _ _ => rfl))) (fun _ _ _ _ _ => (aI (i := 0) (hZ (l := ["row", "currency", "path"]) (by decide)) rfl (Or.inl rfl))) (fun _ _ _ _ _ => (uW (L2.PW.pt (jd (bI (cY K HU) (aV (az K) (fv 0) ad (fun _ _ => rfl)) (fv 1) (bn _)) (gj (cv (au G_is_within (hr.mono (by decide)) rfl T.ra T.ib.kp b_is_within .nil xD (FA.pa (aa (aV (az K) (fv 0) ad (fun _ _ => rfl)) (aa (fv 2) af)))))))))) (fun _ _ _ _ _ => (aV (az K) (fv 0) ad (fun _ _ => rfl)))))), ?_⟩
  walk_at "rd"
  have sz : 1000 ≤ sizeLine := by rw [sizeLine_eq]; decide
  refine cmT t vs (fun H' => NoT H' ∧ Same H H') (fun D ys hD => ⟨ao hN rfl, ai _ hD⟩) (fun H' c => SqT.of (c.2 _ _ ht)) (fun v => decide ((mt H v).cu = c) && wi (mt H v).pa l) (fun v => V.int (mt H v).am) (fun R r => ?_) (SqT.of ht) (by have := hw.len; omega) (fun x hx H' R cc r => ?_) (fun x hx _ H' R cc r => ?_) (fun D hD => ?_)
  · walk_at "rd"
    exact ⟨_, _, .inr (SqT.of hq), rfl, r⟩
  · obtain ⟨r0, m0, w0⟩ := hw.mem hx
    have er := w0.row
    obtain ⟨q0, rfl, e0⟩ := w0
    rw [er] at r
    have e1 := cc.2 _ _ e0
    walk_at "rd"
    refine ⟨_, _, .inr (SqT.of e1), rfl, ?_⟩
    walk_at "rd"
    split
    · rename_i h
      rw [decide_eq_true h, Bool.true_and] at r
      refine ⟨_, _, .inr (SqT.of e1), rfl, cc.1, ?_⟩
      walk_at "rd"
      exact ⟨by walk_at "om", r⟩
    · rename_i h
      rw [decide_eq_false h, Bool.false_and] at r
      exact r
  · obtain ⟨r0, m0, w0⟩ := hw.mem hx
    have er := w0.row
    obtain ⟨q0, rfl, e0⟩ := w0
    rw [er] at r
    have e1 := cc.2 _ _ e0
    walk_at "rd"
    exact ⟨_, _, .inr (SqT.of e1), rfl, r⟩
  · rw [x_ hw]
    exact ⟨_, Gc.one (ai _ hD) hD ae rfl, k D hD⟩
end
section
variable {pS : Addr} {ns : List Int} {P : Program} {w : World} {K : PySem.W.Frag} {mg : Str → Option Value} {base : Heap} {a : Adr}
theorem cB {H H' : Hp} {D : Addr} {o : HO} (s : Same H H') (h : H D = none) : Same H (upd H' D o) := fun c z e => by
  rw [al (aj e h)]; exact s c z e
theorem jT {ta : TA} {g : TG} {tb : TS} {D : gP} {σ : St} {H : Hp} (h : ta σ H fun vs H1 => ∃ j : Int, vs = [.int j] ∧ -(2 ^ 62) ≤ j ∧ j < 2 ^ 62 ∧ FE (Itr 0 j.toNat) g tb D σ H1) : m9 (yj ta) g tb D σ H := h
theorem wb {ta : TA} {g : TG} {tb : TS} {D : gP} {σ : St} {H : Hp} (h : ta σ H fun vs H1 => ∃ i j : Int, vs = [.int i, .int j] ∧ (-(2 ^ 62) ≤ i ∧ i < 2 ^ 62 ∧ -(2 ^ 62) ≤ j ∧ j < 2 ^ 62) ∧ FE (Itr i (j - i).toNat) g tb D σ H1) : m9 (wM ta) g tb D σ H := h
theorem ut {l : List Nat} {i : Int} (h : 0 ≤ i) : iE l none (some i) = l.take i.toNat := by
  unfold iE
  obtain ⟨j, rfl⟩ := Int.eq_ofNat_of_zero_le h
  rw [HT.sIx_none, HT.sIx_nat, List.drop_zero, Nat.sub_zero, Int.toNat_natCast]
  by_cases hl : j ≤ l.length
  · rw [Nat.min_eq_left hl]
  · rw [Nat.min_eq_right (by walk_at "om"), List.take_of_length_le (by walk_at "om"), List.take_of_length_le (by walk_at "om")]
theorem mh (l : List Nat) (lo hi : Option Int) : (iE l lo hi).length ≤ l.length := by
  unfold iE; rw [List.length_take, List.length_drop]; omega
theorem vf {l : List Nat} {i : Int} (h : 0 ≤ i) : iE l (some i) none = l.drop i.toNat := by
  unfold iE
  obtain ⟨j, rfl⟩ := Int.eq_ofNat_of_zero_le h
  rw [HT.sIx_none, HT.sIx_nat, Int.toNat_natCast]
  by_cases hl : j ≤ l.length
  · rw [Nat.min_eq_left hl, List.take_of_length_le (by simp)]
  · rw [Nat.min_eq_right (by walk_at "om"), List.drop_of_length_le (by walk_at "om"), List.drop_of_length_le (by walk_at "om")]; simp
def MX (c k : Int) : Int := (c * 48271 + 7919 * k * k + 104729 * k + 12345) % 2147483647
theorem zY (c k : Int) : 0 ≤ MX c k ∧ MX c k < 2147483647 := ⟨Int.emod_nonneg _ (by decide), Int.emod_lt_of_pos _ (by decide)⟩
def sp_yn : Sp := sp2 fun x y H Q _ => NoT H ∧ asI x fun c => asI y fun k => (0 ≤ k ∧ k ≤ 1000) ∧ Q (.int (MX c k)) H
theorem dW (T : Txt K mg a) : bD P w K mg base (XE P w) 1 a.gp a.iO ["_law_cell", "_law_k"] sp_yn := by
  refine T.aD.okG nJ (fun vs H Q E h => sp2.len h) (fun cdv A outer s H vs Q E hr h => ?_)
  obtain ⟨x0, x1, rfl, h⟩ := sp2.inv h
  obtain ⟨hN, h1⟩ := h
  obtain ⟨c, rfl, h2⟩ := asI.inv h1
  obtain ⟨k, rfl, hk, q⟩ := asI.inv h2
  refine ⟨hN, _, (ak (aH (aq aP (aq aJ (aq aJ (aq aJ (aq dB (fv 0) ad) (aq dB (aq dB ad (fv 1)) (fv 1))) (aq dB ad (fv 1))) ad) ad))), ?_⟩
  walk_at "rd"
  exact ⟨.inr (by walk_at "om"), q⟩
def sp_vt : Sp := sp1 fun x H Q _ => NoT H ∧ asK H x fun _ => Q (.bl (isI x)) H
theorem oy (T : Txt K mg a) : bD P w K mg base (XE P w) 1 a.gu a.iU ["_law_found"] sp_vt := by
  refine T.eE.okG ol (fun vs H Q E h => sp1.len h) (fun cdv A outer s H vs Q E hr h => ?_)
  obtain ⟨x0, rfl, h⟩ := sp1.inv h
  obtain ⟨hN, h1⟩ := h
  obtain ⟨t, ht, hb, k⟩ := asK.inv h1
  refine ⟨hN, _, (ak (aH (dv (ay (b7 K) rfl T.aK aE (FA.pa (aa (fv 0) (aa (dN (v := .ty "int") rfl T.wJ t0 rfl) af)))) (de (pC (ay (b7 K) rfl T.aK aE (FA.pa (aa (fv 0) (aa (dN (v := .ty "bool") rfl T.wC uB rfl) af))))))))), ?_⟩
  walk_at "rd"
  simp only [ht]
  rw [← sI ht] at k
  rcases hb with rfl | rfl | rfl | rfl | rfl | rfl | rfl
  all_goals first
    | exact A7 k
    | exact vj k
def sp_xn : Sp := sp1 fun x H Q _ => NoT H ∧ asI x fun c => ∀ p, H p = none → Q (.ref p) (upd H p (.lst ((List.range 7).map fun k => L2.T (nms c k))))
theorem og (T : Txt K mg a) : bD P w K mg base (XE P w) 1 a.fV a.iM ["_law_cell"] sp_xn := by
  refine T.gv.okG iL (fun vs H Q E h => sp1.len h) (fun cdv A outer s H vs Q E hr h => ?_)
  obtain ⟨x0, rfl, h⟩ := sp1.inv h
  have ND := iL.nd
  obtain ⟨hN, h1⟩ := h
  obtain ⟨c, rfl, q⟩ := asI.inv h1
  have sz : 1000 ≤ sizeLine := by rw [sizeLine_eq]; decide
  refine ⟨hN, _, (ah (aw (i := 1) ND rfl (Or.inr rfl) (aL [97, 98, 99, 100, 101, 102, 103, 104, 105, 106, 107, 108, 109, 110, 111, 112, 113, 114, 115, 116, 117, 118, 119, 120, 121, 122]))
      (ah (aw (i := 2) ND rfl (Or.inl rfl) (aq aJ ad (aq aP (fv 0) ad)))
      (ah (aw (i := 3) ND rfl (Or.inr rfl) (aq aJ ad (aq aP (aq aO (fv 0) ad) ad)))
      (ah (aw (i := 4) ND rfl (Or.inl rfl) (cr K PySem.F.plainAttrs_str PySem.F.slot_str_join PySem.F.type_str_join (rq K) (aL []) (FA.pa (aa (d_ rfl (cl := _) (x := "_law_k") (xs := ["_law_k"]) (fr := ["_law_letters", "_law_cell", "_law_step"]) (ks := [1, 0, 3]) (by exact ⟨rfl, by decide +kernel, rfl, by decide +kernel, rfl, d8 rfl, rfl, bo rfl, bo (k := fun y => List.lookup y _) rfl, dX rfl⟩) rfl (eJ rfl T.eX (FA.pa (aa (fv 2) af))) (fun _ _ _ _ _ => (aI (i := 0) (hZ (l := ["_law_k", "_law_letters", "_law_cell", "_law_step"]) (by decide)) rfl (Or.inl rfl))) (fun _ _ _ _ _ => eZ) (fun _ _ _ _ _ => (aV (az K) (fv 1) (aq aP (aq aJ (aq aO (fv 2) ad) (aq dB (fv 3) (fv 0))) ad) (fun _ _ => rfl)))) af))))
      (ah (aw (i := 5) ND rfl (Or.inl rfl) (aq aP (aq aO (fv 0) ad) (aq aJ (fv 2) ad)))
      (ah (aw (i := 6) ND rfl (Or.inl rfl) (cW (FA.pa af)))
      (ah (dU (by passes_own) rfl (eJ rfl T.eX (FA.pa (aa ad af))) (aI (i := 7) ND rfl (Or.inl rfl)) (ah (aw (i := 8) ND rfl (Or.inl rfl) (aV (az K) (fv 1) (aq aP (aq aJ (aq aO (fv 0) ad) (aq dB ad (fv 7))) ad) (fun _ _ => rfl)))
      (ak (bY (cr K PySem.F.plainAttrs_list PySem.F.slot_list_append PySem.F.type_list_append bV (fv 6) (FA.pa (aa (aq aJ (aq aJ (fT m7 (fv 4) ip (iq (fv 5))) (fv 8)) (fT m7 (fv 4) (iq (fv 5)) ip)) af)))))))
      (ak (aH (aq xM (fv 6) (cW (FA.pa (aa (fv 4) af))))))))))))), ?_⟩
  walk_at "rd"
  refine cmR (fun _ => True) (fun _ _ _ => trivial) (1 + c % 10).toNat (fun _ => true) (fun j : Nat => L2.T [sg (c / 250) (1 + c / 10 % 25) j]) (fun R r => ?_) (by walk_at "om") (fun j hj H R _ r => r) (fun j hj _ H' R _ r => ?_) (fun D hD => ?_)
  · walk_at "rd"
    rw [show ((1 + c % 10).toNat : Int) = 1 + c % 10 by walk_at "om"] at r; exact r
  · walk_at "rd"
    refine ⟨.inl (by walk_at "om"), by walk_at "om", ?_⟩
    show match atI LET ((c / 250 + (1 + c / 10 % 25) * (j : Int)) % 26) with | some c => R (L2.T [c]) H' | none => False
    rw [xT (by walk_at "om") (by walk_at "om")]
    exact r
  · refine yq (List.range (1 + c % 10).toNat) (fun j : Nat => sg (c / 250) (1 + c / 10 % 25) j) (by rw [ae, List.filter_eq_self.mpr (by simp)]) (by rw [List.length_range]; omega) ?_
    show 0 < 1 + c % 10 + 1 ∧ _
    refine ⟨by walk_at "om", by walk_at "om", fun p hp => ?_⟩
    have hw : (wd (c / 250) (1 + c / 10 % 25) (1 + c % 10).toNat).length ≤ 10 := by simp [wd]; omega
    have s1 := ai (HO.lst (List.map (fun j : Nat => L2.T [sg (c / 250) (1 + c / 10 % 25) j]) (List.filter (fun _ => true) (List.range (1 + c % 10).toNat)))) hD
    generalize upd H D (HO.lst (List.map (fun j : Nat => L2.T [sg (c / 250) (1 + c / 10 % 25) j]) (List.filter (fun _ => true) (List.range (1 + c % 10).toNat)))) = H1 at s1 hp ⊢
    have p0 : H p = none := s1.free hp
    have a0 : 0 ≤ c / 6500 % (1 + c % 10 + 1) := Int.emod_nonneg _ (by walk_at "om")
    have a1 : c / 6500 % (1 + c % 10 + 1) < 1 + c % 10 + 1 := Int.emod_lt_of_pos _ (by walk_at "om")
    have en : ∀ k : Nat, nms c k = if k < 6 then (wd (c / 250) (1 + c / 10 % 25) (1 + c % 10).toNat).take (c / 6500 % (1 + c % 10 + 1)).toNat ++ [97 + ((c / 71500 + 3 * k) % 26).toNat] ++ (wd (c / 250) (1 + c / 10 % 25) (1 + c % 10).toNat).drop (c / 6500 % (1 + c % 10 + 1)).toNat else wd (c / 250) (1 + c / 10 % 25) (1 + c % 10).toNat := fun _ => rfl
    have ew : List.map (fun j : Nat => sg (c / 250) (1 + c / 10 % 25) j) (List.range (1 + c % 10).toNat) = wd (c / 250) (1 + c / 10 % 25) (1 + c % 10).toNat := rfl
    rw [ew]
    generalize wd (c / 250) (1 + c / 10 % 25) (1 + c % 10).toNat = w at hw en ⊢
    generalize c / 6500 % (1 + c % 10 + 1) = t at a0 a1 en ⊢
    refine jT ?_
    walk_at "rd"
    refine fS (lo := 0) (n := 6) (fun i σ' H' => Same H H' ∧ H' p = some (.lst ((List.range i).map fun k => L2.T (nms c k))) ∧ ∃ x7 x8, σ' = [some (.int c), some (L2.T LET), some (.int (1 + c % 10)), some (.int (1 + c / 10 % 25)), some (L2.T w), some (.int t), some (.ref p), x7, x8]) ⟨s1.trans (ai _ hp), ae, none, none, rfl⟩ ?_ ?_
    · rintro i σ' H' hi ⟨sm, hp', x7, x8, rfl⟩
      walk_at "rd"
      refine ⟨by show 26 ≤ sizeLine; omega, ?_⟩
      show match atI LET ((c / 71500 + 3 * (0 + (i : Int))) % 26) with | some c_1 => _ | none => False
      rw [xT (by walk_at "om") (by walk_at "om")]
      walk_at "rd"
      refine ⟨.inl ⟨_, SqL.of hp'⟩, by walk_at "om", ?_⟩
      rw [ut a0, vf a0]
      walk_at "rd"
      have ni : nms c i = List.take t.toNat w ++ [97 + ((c / 71500 + 3 * (0 + (i : Int))) % 26).toNat] ++ List.drop t.toNat w := by rw [en i, if_pos hi, Int.zero_add]
      rw [← ni]
      refine ⟨by simp; omega, by walk_at "om", by simp; omega, p, _, _, rfl, rfl, hp', by simp; omega, cB sm p0, ?_, _, _, rfl, rfl⟩
      rw [ae, List.range_succ, List.map_append]; rfl
    · rintro σ' H' ⟨sm, hp', x7, x8, rfl⟩
      walk_at "rd"
      refine ⟨by walk_at "om", fun q1 h1 => ⟨_, _, (al (aj hp' h1)).trans hp', ae, by simp; omega, fun q2 h2 => ?_⟩⟩
      have s2 := (sm.trans (ai (HO.lst [L2.T w]) h1)).trans (ai (HO.lst (List.map (fun k => L2.T (nms c k)) (List.range 6) ++ [L2.T w])) h2)
      refine ⟨_, Gc.one s2 ((sm.trans (ai _ h1)).free h2) ae rfl, ?_⟩
      have e : List.map (fun k => L2.T (nms c k)) (List.range 6) ++ [L2.T w] = (List.range 7).map fun k => L2.T (nms c k) := by
        rw [List.range_succ (n := 6), List.map_append, List.map_singleton, en 6, if_neg (by decide)]
      rw [e]
      exact q q2 ((sm.trans (ai _ h1)).free h2)
def sp_yL : Sp := sp1 fun x H Q _ => NoT H ∧ asI x fun c => ∀ cu : List (List Nat), cu.length = 3 → (∀ l ∈ cu, l.length ≤ 10) → ∀ q, H q = none → Q (.ref q) (upd H q (.lst (cu.map L2.T)))
theorem jj (T : Txt K mg a) : bD P w K mg base (XE P w) 1 a.dM a.eT ["_law_cell"] sp_yL := by
  refine T.dt.okG eS (fun vs H Q E h => sp1.len h) (fun cdv A outer s H vs Q E hr h => ?_)
  obtain ⟨x0, rfl, h⟩ := sp1.inv h
  have ND := eS.nd
  obtain ⟨hN, h1⟩ := h
  obtain ⟨c, rfl, q⟩ := asI.inv h1
  have sz : 1000 ≤ sizeLine := by rw [sizeLine_eq]; decide
  refine ⟨hN, _, (ah (aw (i := 1) ND rfl (Or.inr rfl) (aL [65, 66, 67, 68, 69, 70, 71, 72, 73, 74, 75, 76, 77, 78, 79, 80, 81, 82, 83, 84, 85, 86, 87, 88, 89, 90]))
      (ah (aw (i := 2) ND rfl (Or.inr rfl) (aq aJ (aV (az K) (fv 1) (aq aP (aq aO (fv 0) ad) ad) (fun _ _ => rfl)) (aV (az K) (fv 1) (aq aP (aq aO (fv 0) ad) ad) (fun _ _ => rfl))))
      (ah (aw (i := 3) ND rfl (Or.inr rfl) (aq aP (fv 0) ad))
      (ak (aH (d_ rfl (cl := _) (x := "_law_k") (xs := ["_law_k"]) (fr := ["_law_word", "_law_letters", "_law_at", "_law_cell"]) (ks := [2, 1, 3, 0]) (by exact ⟨rfl, by decide +kernel, rfl, by decide +kernel, rfl, d8 rfl, rfl, bo rfl, bo (k := fun y => List.lookup y _) rfl, dX rfl⟩) rfl (eJ rfl T.eX (FA.pa (aa ad af))) (fun _ _ _ _ _ => (aI (i := 0) (hZ (l := ["_law_k", "_law_word", "_law_letters", "_law_at", "_law_cell"]) (by decide)) rfl (Or.inl rfl))) (fun _ _ _ _ _ => eZ) (fun _ _ _ _ _ => (aq aJ (aq aJ (fT m7 (fv 1) ip (iq (fv 3))) (aV (az K) (fv 2) (aq aP (aq aJ (aq aO (fv 4) ad) (aq dB ad (fv 0))) ad) (fun _ _ => rfl))) (fT m7 (fv 1) (iq (fv 3)) ip))))))))), ?_⟩
  walk_at "rd"
  have up_at : ∀ i : Int, 0 ≤ i → i < 26 → ∃ z, atI [65, 66, 67, 68, 69, 70, 71, 72, 73, 74, 75, 76, 77, 78, 79, 80, 81, 82, 83, 84, 85, 86, 87, 88, 89, 90] i = some z := fun i h0 h1 => by
    obtain ⟨j, rfl⟩ := Int.eq_ofNat_of_zero_le h0
    have hj : j < [65, 66, 67, 68, 69, 70, 71, 72, 73, 74, 75, 76, 77, 78, 79, 80, 81, 82, 83, 84, 85, 86, 87, 88, 89, 90].length := by show j < 26; omega
    exact ⟨_, bz (List.getElem?_eq_getElem hj)⟩
  obtain ⟨z1, e1⟩ := up_at (c / 3 % 26) (by walk_at "om") (by walk_at "om")
  obtain ⟨z2, e2⟩ := up_at (c / 78 % 26) (by walk_at "om") (by walk_at "om")
  refine ⟨by walk_at "om", ?_⟩
  rw [e1]
  refine ⟨by walk_at "om", ?_⟩
  rw [e2]
  refine ⟨by walk_at "om", ?_⟩
  have gs : ∀ j : Nat, ∃ z, atI [65, 66, 67, 68, 69, 70, 71, 72, 73, 74, 75, 76, 77, 78, 79, 80, 81, 82, 83, 84, 85, 86, 87, 88, 89, 90] ((c / 2028 + 3 * (j : Int)) % 26) = some z := fun j => up_at _ (by walk_at "om") (by walk_at "om")
  obtain ⟨gz, hgz⟩ := Classical.axiomOfChoice gs
  refine cmR (fun _ => True) (fun _ _ _ => trivial) 3 (fun _ => true) (fun j : Nat => L2.T (iE [z1, z2] none (some (c % 3)) ++ [gz j] ++ iE [z1, z2] (some (c % 3)) none)) (fun R r => r) (by walk_at "om") (fun j hj H R _ r => r) (fun j hj _ H' R _ r => ?_) (fun D hD => ?_)
  · walk_at "rd"
    refine ⟨by walk_at "om", by walk_at "om", ?_⟩
    rw [hgz]
    walk_at "rd"
    have l1 := mh [z1, z2] none (some (c % 3))
    have l2 := mh [z1, z2] (some (c % 3)) none
    simp only [List.length_append, List.length_cons, List.length_nil] at *
    exact ⟨by walk_at "om", by walk_at "om", by walk_at "om", r⟩
  · have e : ((List.range 3).filter fun _ => true).map (fun j : Nat => L2.T (iE [z1, z2] none (some (c % 3)) ++ [gz j] ++ iE [z1, z2] (some (c % 3)) none)) = ((List.range 3).map fun j : Nat => iE [z1, z2] none (some (c % 3)) ++ [gz j] ++ iE [z1, z2] (some (c % 3)) none).map L2.T := by
      rw [List.filter_eq_self.mpr (by simp), List.map_map]; rfl
    rw [e]
    refine ⟨_, Gc.one (ai _ hD) hD ae rfl, q _ rfl (fun l hl => ?_) D hD⟩
    obtain ⟨j, _, rfl⟩ := List.mem_map.mp hl
    have := mh [z1, z2] none (some (c % 3))
    have := mh [z1, z2] (some (c % 3)) none
    simp only [List.length_append, List.length_cons, List.length_nil] at *
    omega
def sp_wy : Sp := sp1 fun x H Q _ => NoT H ∧ asI x fun m => ∀ i : Int, Q (.int i) H
theorem nS (T : Txt K mg a) : bD P w K mg base (XE P w) 1 a.dJ a.iS ["_law_month"] sp_wy := by
  refine T.dH.okG iW (fun vs H Q E h => sp1.len h) (fun cdv A outer s H vs Q E hr h => ?_)
  obtain ⟨x0, rfl, h⟩ := sp1.inv h
  have ND := iW.nd
  have HU : (cG (XE P w) P w K mg base ["_law_month", "_law_year", "_law_day_here", "_law_long_year", "_law_place"] "_law_first" (ag bi) a.dJ cdv A outer s H (gcE H E)).A.units + 100 < cLine := bL hr
  obtain ⟨hN, h1⟩ := h
  obtain ⟨m, rfl, q⟩ := asI.inv h1
  have c3 : ∃ u, PSs (cG (XE P w) P w K mg base ["_law_month", "_law_year", "_law_day_here", "_law_long_year", "_law_place"] "_law_first" (ag bi) a.dJ cdv A outer s H (gcE H E)) (List.drop 3 (av bi)) u ∧ ∀ (y d : Int) (bb : Bool), u { nx := fun _ H' => ∃ G, Gc H G H' ∧ Q .non G, rt := fun v H' => ∃ G, Gc H G H' ∧ Q v G } [some (.int m), some (.int y), some (.int d), some (.bl bb), none] H := by
    refine ⟨_, (ah (dU (by passes_own) rfl (eJ rfl T.eX (FA.pa (aa (aq aP (fv 0) ad) af))) (aI (i := 4) ND rfl (Or.inl rfl)) (ak (aw (i := 2) ND rfl (Or.inl rfl) (aq aJ (aq aJ (fv 2) (ig (FA.pa (aa ad (aa ad (aa ad (aa ad (aa ad (aa ad (aa ad (aa ad (aa ad (aa ad (aa ad af)))))))))))) (fv 4) (fun _ _ => rfl))) (iu zu rfl T.wJ t0 (FA.pa (aa (dv (eD (cY K HU) (fv 4) ad (bn _)) (de (fv 3))) af)))))))
      (ak (aH (fv 2)))), fun y d bb => ?_⟩
    walk_at "rd"
    refine jT ?_
    walk_at "rd"
    have m0 : 0 ≤ m % 12 ∧ m % 12 < 12 := by walk_at "om"
    refine ⟨by walk_at "om", by walk_at "om", fS (lo := 0) (n := (m % 12).toNat) (fun i σ' H' => H' = H ∧ ∃ d x4, σ' = [some (.int m), some (.int y), some (.int d), some (.bl bb), x4]) ⟨rfl, d, none, rfl⟩ ?_ ?_⟩
    · rintro i σ' H' hi ⟨rfl, d', x4, rfl⟩
      walk_at "rd"
      refine ⟨hN, by rw [sizeLine_eq]; decide, fun p hp => kL (ns := [31, 28, 31, 30, 31, 30, 31, 31, 30, 31, 30]) (by walk_at "om") (by show _ < (11 : Int); omega) ?_⟩
      walk_at "rd"
      split
      · first | exact ⟨_, _, rfl, rfl⟩ | exact ⟨_, rfl⟩
      · first | exact ⟨_, _, rfl, rfl⟩ | exact ⟨_, rfl⟩
    · rintro σ' H' ⟨rfl, d', x4, rfl⟩
      walk_at "rd"
      exact q d'
  obtain ⟨u3, hu3, c3⟩ := c3
  refine ⟨hN, _, (ah (aw (i := 1) ND rfl (Or.inl rfl) (aq aO (fv 0) ad))
      (ah (aw (i := 2) ND rfl (Or.inl rfl) (aq aJ (aq pJ (aq aJ (aq dB ad (fv 1)) (aq aO (aq aJ (fv 1) ad) ad)) (aq aO (aq aJ (fv 1) ad) ad)) (aq aO (aq aJ (fv 1) ad) ad)))
      (ah (aw (i := 3) ND rfl (Or.inl rfl) (dv (eD (cY K HU) (aq aP (fv 1) ad) ad (bn _)) (de (oU (eD (mP K HU) (aq aP (fv 1) ad) ad (bn _)) (de (eD (cY K HU) (aq aP (fv 1) ad) ad (bn _)))))))
      hu3))), ?_⟩
  walk_at "rd"
  split
  · split
    · exact c3 _ _ _
    · exact c3 _ _ _
  · exact c3 _ _ _
def sp_Bc : Sp := sp2 fun x y H Q _ => NoT H ∧ asI x fun c => asI y fun m => ∀ i : Int, Q (.int i) H
theorem lR (T : Txt K mg a) : bD P w K mg base (XE P w) 2 a.gb a.lP ["_law_cell", "_law_month"] sp_Bc := by
  refine T.dR.okG sv (fun vs H Q E h => sp2.len h) (fun cdv A outer s H vs Q E hr h => ?_)
  obtain ⟨x0, x1, rfl, h⟩ := sp2.inv h
  have HU : (cG (XE P w) P w K mg base ["_law_cell", "_law_month"] "_law_day" (ag cj) a.gb cdv A outer s H (gcE H E)).A.units + 100 < cLine := bL hr
  obtain ⟨hN, h1⟩ := h
  obtain ⟨c, rfl, h2⟩ := asI.inv h1
  obtain ⟨m, rfl, q⟩ := asI.inv h2
  have G__law_first := nS (P := P) (w := w) (base := base) T
  have b__law_first := oz T.dH
  refine ⟨hN, _, (ah (bG (bI (cY K HU) (aq aP (fv 0) ad) ad (bn _)) (ak (aH (au G__law_first (hr.mono (by decide)) rfl T.fY T.dH.kp b__law_first .nil aC (FA.pa (aa (fv 1) af))))) aQ)
      (ah (bG (bI (cY K HU) (aq aP (fv 0) ad) ad (bn _)) (ak (aH (aq pJ (au G__law_first (hr.mono (by decide)) rfl T.fY T.dH.kp b__law_first .nil aC (FA.pa (aa (aq aJ (fv 1) ad) af))) ad))) aQ)
      (ak (aH (aq aJ (au G__law_first (hr.mono (by decide)) rfl T.fY T.dH.kp b__law_first .nil aC (FA.pa (aa (fv 1) af))) (aq aP (aq aO (fv 0) ad) ad)))))), ?_⟩
  walk_at "rd"
  split
  · exact ⟨hN, q⟩
  · split
    · exact ⟨hN, fun i => q _⟩
    · exact ⟨hN, fun i => q _⟩
def sp_we : Sp := sp1 fun x H Q _ => NoT H ∧ asI x fun c => (0 ≤ c ∧ c < 2147483647) ∧ ∀ i : Int, Q (.int i) H
theorem nv (T : Txt K mg a) : bD P w K mg base (XE P w) 1 a.dY a.io ["_law_cell"] sp_we := by
  refine T.fG.okG g5 (fun vs H Q E h => sp1.len h) (fun cdv A outer s H vs Q E hr h => ?_)
  obtain ⟨x0, rfl, h⟩ := sp1.inv h
  have ND := g5.nd
  have HU : (cG (XE P w) P w K mg base ["_law_cell", "_law_some"] "_law_amount" (ag bt) a.dY cdv A outer s H (gcE H E)).A.units + 100 < cLine := bL hr
  obtain ⟨hN, h1⟩ := h
  obtain ⟨c, rfl, hc, q⟩ := asI.inv h1
  refine ⟨hN, _, (ah (aw (i := 1) ND rfl (Or.inl rfl) (aq aJ ad (aq aP (aq aO (fv 0) ad) ad)))
      (ah (bG (bI (cY K HU) (aq aP (fv 0) ad) ad (bn _)) (ak (aw (i := 1) ND rfl (Or.inl rfl) (aq aJ ad (aq aP (aq dB (fv 0) (fv 0)) (aq yg ad ad))))) aQ)
      (ah (bG (bI (cY K HU) (aq aP (fv 0) ad) ad (bn _)) (ak (aw (i := 1) ND rfl (Or.inl rfl) (aq pJ (aq yg ad ad) (aq aP (aq aO (fv 0) ad) ad)))) aQ)
      (ak (aH (aq dB (fv 1) (aq pJ ad (aq dB ad (aq aP (aq aO (fv 0) ad) ad))))))))), ?_⟩
  walk_at "rd"
  have e : (10 : Int) ^ Int.toNat 15 = 1000000000000000 := by decide
  have z : -18446744073709551616 < 1 - 2 * (c / 3 % 2) ∧ 1 - 2 * (c / 3 % 2) < 18446744073709551616 := by walk_at "om"
  have y : Int.natAbs 10 < 18446744073709551616 := by decide
  rw [e]
  split
  · refine ⟨.inl (by walk_at "om"), y, by decide, ?_⟩
    split
    · exact ⟨y, .inr z, q _⟩
    · exact ⟨.inr z, q _⟩
  · split
    · exact ⟨y, .inr z, q _⟩
    · exact ⟨.inr z, q _⟩
end
section
variable {pS : Addr} {ns : List Int} {P : Program} {w : World} {K : PySem.W.Frag} {mg : Str → Option Value} {base : Heap} {a : Adr}
theorem xX (x y : V) : List.lookup (Str.ofString "every") [(Str.ofString "bookings", x), (Str.ofString "undoings", y)] = none := by rw [bB (by decide +kernel), bB (by decide +kernel)]; rfl
def Bd (H : Hp) (Q : VK) (l c : List Nat) (f t : Int) (bs : List Bk) : Prop := ∀ out q m ys H', out.Perm (MVS l c f t bs) → Ord out → H q = none → H m = none → H' q = some (.tup [.int (OPN l c f bs), .ref m]) → H' m = some (.lst ys) → A2 (LnAt H') ys (LNS (OPN l c f bs) out) → Same H H' → NoT H' → Q (.ref q) H'
def sp_An (C A J no : Addr) : Sp := sp6 fun x y l c f t H Q E => NoT H ∧ asR x fun p => asR y fun j => asK H l fun _ => asT c fun c => asI f fun f => asI t fun t => ∃ d cs b u vs bs, CAt C A H p d cs ∧ JAt J H j b u vs ∧ A2 (BkAt H) vs bs ∧ bs.length ≤ 20 ∧ Num bs ∧ (∀ b ∈ bs, ot b) ∧
  if lT cs l = true then asT l fun l => l.length ≤ 200 ∧ Bd H Q l c f t bs else E (.ref no) none H
theorem zy {K : PySem.W.Frag} {H : Hp} {p q : Addr} {xs : List V} (hx : SqL K H p xs) (hq : SqL K H q []) : EqR K H p q xs.isEmpty := by
  cases xs with
  | nil => exact EqR.lst (e := fun _ => true) hx hq rfl fun j x y g _ => by simp at g
  | cons a r => exact EqR.len hx hq (by simp)
theorem md : ∀ (xs : List (Int × Int × Int)) (op : Int), (LNS op xs).length = xs.length
  | [], _ => rfl
  | x :: r, op => by rw [LNS, List.length_cons, List.length_cons, md r]
theorem jN {l c : List Nat} {f t : Int} {bs : List Bk} : (MVS l c f t bs).length ≤ bs.length := by
  unfold MVS; rw [List.length_map]; exact List.length_filter_le _ _
theorem cQ {α : Type} {l : List α} {i : Nat} {x : α} (h : l[i]? = some x) : l.take (i + 1) = l.take i ++ [x] := by rw [List.take_succ, h]; rfl
def MvAt (H : Hp) (ps : List Tr) : Prop := ∀ e ∈ ps, H e.1 = some (.tup [.int e.2.1, .int e.2.2.1, .int e.2.2.2])
theorem MvAt.same {H H' : Hp} {ps : List Tr} (h : MvAt H ps) (s : Same H H') : MvAt H' ps := fun e m => s _ _ (h e m)
theorem jM (T : Txt K mg a) : bD P w K mg base (XE P w) 5 a.e_ a.kj ["chart", "journal", "path", "currency", "first", "last"] (sp_An a.bq a.aG a.aF a.aU) := by
  refine T.dq.okX j9 (fun vs H Q E h => sp6.len h) (fun cdv A outer s H vs Q E hr h => ?_)
  obtain ⟨x0, x1, x2, x3, x4, x5, rfl, h⟩ := sp6.inv h
  have ND := j9.nd
  obtain ⟨hN, h1⟩ := h
  obtain ⟨p, rfl, h2⟩ := asR.inv h1
  obtain ⟨j, rfl, h3⟩ := asR.inv h2
  obtain ⟨kk, hk, hb, h4⟩ := asK.inv h3
  obtain ⟨c, rfl, h5⟩ := asT.inv h4
  obtain ⟨f, rfl, h6⟩ := asI.inv h5
  obtain ⟨t, rfl, d, cs, b, u, vs, bs, JC, JJ, hv, len, num, ok, k⟩ := asI.inv h6
  have one : 1 ≤ sizeLine := by rw [sizeLine_eq]; decide
  have G_Journal_every := kJ (P := P) (w := w) (base := base) T
  have b_Journal_every := ky T.gF
  have G_amounts_within := jO (P := P) (w := w) (base := base) T
  have b_amounts_within := jL T.dS
  have G_Chart_has := j0 (P := P) (w := w) (base := base) T
  have b_Chart_has := jz T.hV
  have c4 : ∃ u, PSs (cG (XE P w) P w K mg base ["chart", "journal", "path", "currency", "first", "last", "opening", "moves", "booking", "amounts", "lines", "balance", "day", "number", "amount"] "statement" (ag bF) a.e_ cdv A outer s H E) (List.drop 4 (av bF)) u ∧ ∀ l mv ps x8 x9 H1, x2 = L2.T l → Bd H Q l c f t bs → Same H H1 → NoT H1 → H mv = none → H1 mv = some (.lst (ps.map fun e : Tr => V.ref e.1)) → MvAt H1 ps → ps.map (·.2) = MVS l c f t bs →
      u { nx := fun _ H' => Q .non H', rt := Q } [some (.ref p), some (.ref j), some x2, some (L2.T c), some (.int f), some (.int t), some (.int (OPN l c f bs)), some (.ref mv), x8, x9, none, none, none, none, none] H1 := by
    refine ⟨_, (ah (aw (i := 10) ND rfl (Or.inl rfl) (cW (FA.pa af)))
      (ah (aw (i := 11) ND rfl (Or.inl rfl) (fv 6))
      (ah (dU (by passes_own) rfl (d9 K (ay (rj K) rfl T.qY oJ (FA.pa (aa (fv 7) af)))) (gw K (n := 3) rfl (bp (aI (i := 12) ND rfl (Or.inl rfl)) (bp (aI (i := 13) ND rfl (Or.inl rfl)) (bp (aI (i := 14) ND rfl (Or.inl rfl)) gf)))) (ah (aw (i := 11) ND rfl (Or.inl rfl) (aq aJ (fv 11) (fv 14)))
      (ak (bY (cr K PySem.F.plainAttrs_list PySem.F.slot_list_append PySem.F.type_list_append bV (fv 10) (FA.pa (aa (dg (FA.pa (aa (fv 13) (aa (fv 12) (aa (fv 14) (aa (fv 11) af)))))) af)))))))
      (ak (aH (dg (FA.pa (aa (fv 6) (aa (fv 10) af))))))))), fun l mv ps x8 x9 H1 el k sm nT hm hmv hps eps => ?_⟩
    walk_at "rd"
    refine ⟨Nat.zero_le _, fun ls hls => gU ?_⟩
    walk_at "rd"
    have nd := xr (l := l) (c := c) (f := f) (t := t) num.nd (num.rg (by walk_at "om"))
    rw [← eps, List.map_map] at nd
    have ml : mv ≠ ls := aj hmv hls
    have l0 : H ls = none := sm.free hls
    have s1 := ai (HO.lst []) hls
    have lp : ps.length ≤ bs.length := by rw [← List.length_map (f := (·.2)), eps]; exact jN
    refine ⟨ps, SqL.of ((al ml).trans hmv), fun e m => SqT.of (hps.same s1 e m), by walk_at "om", fun e m => wL (num.rg (by walk_at "om")) e.2 (by rw [← eps]; exact List.mem_map_of_mem m), nd, fun out po oo q hq => ?_⟩
    have lq : ls ≠ q := aj ae hq
    have q0 : H q = none := (sm.trans s1).free hq
    refine gX (SqL.of ae) (hE (fun i σ' H' => Same H H' ∧ NoT H' ∧ H' q = some (.lst (out.map fun e : Tr => V.ref e.1)) ∧ MvAt H' out ∧ ∃ ys x12 x13 x14, H' ls = some (.lst ys) ∧ A2 (LnAt H') ys (LNS (OPN l c f bs) ((out.take i).map (·.2))) ∧
      σ' = [some (.ref p), some (.ref j), some x2, some (L2.T c), some (.int f), some (.int t), some (.int (OPN l c f bs)), some (.ref mv), x8, x9, some (.ref ls), some (.int (bal (OPN l c f bs) ((out.take i).map (·.2)))), x12, x13, x14]) ⟨(sm.trans s1).trans (ai _ hq), ao (ao nT rfl) rfl, ae, fun e m => (s1.trans (ai _ hq)) _ _ (hps e (po.mem_iff.mp m)), [], none, none, none, (al lq).trans ae, .nil, by simp [bal]⟩ (fun i σ' H' _ h => SqL.of h.2.2.1) ?_ ?_)
    · rintro i x σ' H' hx ⟨sm', nT', hq', hm', ys, x12, x13, x14, hl', ha, rfl⟩
      rw [List.getElem?_map] at hx
      obtain ⟨e, he, rfl⟩ := Option.map_eq_some_iff.mp hx
      have em : e ∈ out := List.mem_of_getElem? he
      walk_at "rd"
      refine ⟨_, _, rfl, SqT.of (hm' e em), rfl, _, _, rfl, _, _, rfl, _, _, rfl, rfl, ?_⟩
      walk_at "rd"
      have ly := ha.len
      rw [md, List.length_map, List.length_take] at ly
      have lo := po.length_eq
      refine ⟨.inl ⟨_, SqL.of hl'⟩, by rw [sizeLine_eq]; decide, fun r hr => ?_⟩
      have kp : Keep [ls] H' (upd (upd H' r (.tup [.int e.2.2.1, .int e.2.1, .int e.2.2.2, .int (bal (OPN l c f bs) ((out.take i).map (·.2)) + e.2.2.2)])) ls (.lst (ys ++ [.ref r]))) := (Keep.refl.new hr).put (.head _)
      have rl : r ≠ ls := Ne.symm (aj hl' hr)
      refine ⟨ls, ys, _, rfl, rfl, (al (Ne.symm rl)).trans hl', by rw [sizeLine_eq]; omega, cB (sm'.trans (ai _ hr)) l0, ao (ao nT' rfl) rfl, kp _ _ hq' (by simpa using Ne.symm lq), fun z m => kp _ _ (hm' z m) ((LW.one hl').no (hm' z m)), _, _, _, _, ae, ?_, ?_, rfl, rfl, rfl⟩
      · rw [cQ he, List.map_append, List.map_singleton, mT]
        exact (bC kp (LW.one hl') ha).snoc ⟨r, rfl, by rw [al rl, ae]⟩
      · rw [cQ he, List.map_append, List.map_singleton, rV]
    · rintro σ' H' ⟨sm', nT', hq', hm', ys, x12, x13, x14, hl', ha, rfl⟩
      walk_at "rd"
      rw [List.length_map, List.take_length] at ha
      refine ⟨by rw [sizeLine_eq]; decide, fun r hr => ?_⟩
      have s2 := ai (HO.tup [V.int (OPN l c f bs), V.ref ls]) hr
      refine k (out.map (·.2)) r ls ys _ (by rw [← eps]; exact po.map _) (List.pairwise_map.mpr oo) (sm'.free hr) l0 ae (s2 _ _ hl') (bC (W := []) (Keep.same s2) LW.nil ha) (sm'.trans s2) (ao nT' rfl)
  obtain ⟨u4, hu4, c4⟩ := c4
  refine ⟨_, (ah (bG (cI (cv (dC (fv 0) T.cn T.jU G_Chart_has (hr.mono (by decide)) b_Chart_has .nil aC (FA.pa (aa (fv 2) af))))) (ak (cP T.lL PySem.F.excBase_ValueError rfl rfl T.ii dG (FA.pa (aa (aL [116, 104, 101, 114, 101, 32, 105, 115, 32, 110, 111, 32, 115, 117, 99, 104, 32, 97, 99, 99, 111, 117, 110, 116]) af)))) aQ)
      (ah (aw (i := 6) ND rfl (Or.inl rfl) ad)
      (ah (aw (i := 7) ND rfl (Or.inl rfl) (cW (FA.pa af)))
      (ah (dU (by passes_own) rfl (d9 K (vV (fv 1) T.cN T.kI G_Journal_every (hr.mono (by decide)) b_Journal_every .nil aC)) (aI (i := 8) ND rfl (Or.inl rfl)) (ah (aw (i := 9) ND rfl (Or.inl rfl) (au G_amounts_within (hr.mono (by decide)) rfl T.lg T.dS.kp b_amounts_within .nil aC (FA.pa (aa (fv 8) (aa (fv 2) (aa (fv 3) af))))))
      (ak (bG (bI sP (aV (az K) (fv 8) ad (fun _ _ => rfl)) (fv 4) (bn _)) (ak (aw (i := 6) ND rfl (Or.inl rfl) (aq aJ (fv 6) (ay (mi K rfl) rfl T.uQ qK (FA.pa (aa (fv 9) af)))))) (ak (bG (L2.PW.pt (jd (bI h9 (aV (az K) (fv 8) ad (fun _ _ => rfl)) (fv 5) (bn _)) (gj (bI zX (ay (cy K) rfl T.eQ dh (FA.pa (aa (fv 9) af))) ad (bn _))))) (ak (bY (cr K PySem.F.plainAttrs_list PySem.F.slot_list_append PySem.F.type_list_append bV (fv 7) (FA.pa (aa (dg (FA.pa (aa (aV (az K) (fv 8) ad (fun _ _ => rfl)) (aa (aV (az K) (fv 8) ad (fun _ _ => rfl)) (aa (ay (mi K rfl) rfl T.uQ qK (FA.pa (aa (fv 9) af))) af))))) af))))) aQ))))))
      hu4)))), ?_⟩
  walk_at "rd"
  obtain ⟨dx, hp⟩ := JC.ob
  refine ⟨_, _, hp, wU _, hN, asK.of hk ⟨d, cs, JC, ?_⟩⟩
  cases e : lT cs x2 with
  | false =>
    rw [e, if_neg (by decide)] at k
    exact itp rfl ⟨one, k⟩
  | true =>
    rw [e, if_pos rfl] at k
    obtain ⟨l, rfl, ll, k⟩ := asT.inv k
    refine itn (by decide) ⟨Nat.zero_le _, fun mv hmv => gU ?_⟩
    walk_at "rd"
    obtain ⟨dj, hj⟩ := JJ.ob
    have s1 := ai (HO.lst []) hmv
    refine ⟨_, _, s1 _ _ hj, xX _ _, ao hN rfl, b, u, vs, JJ.keep (S := []) (Keep.same s1) List.not_mem_nil List.not_mem_nil List.not_mem_nil, fun q hq => ?_⟩
    have mq : mv ≠ q := aj ae hq
    refine gX (SqL.of ae) (hE (fun i σ' H' => Same H H' ∧ NoT H' ∧ H' q = some (.lst vs) ∧ ∃ ps x8 x9, H' mv = some (.lst (ps.map fun e : Tr => V.ref e.1)) ∧ MvAt H' ps ∧ ps.map (·.2) = MVS l c f t (bs.take i) ∧
      σ' = [some (.ref p), some (.ref j), some (L2.T l), some (L2.T c), some (.int f), some (.int t), some (.int (OPN l c f (bs.take i))), some (.ref mv), x8, x9, none, none, none, none, none]) ⟨s1.trans (ai _ hq), ao (ao hN rfl) rfl, ae, [], none, none, (al mq).trans ae, (fun e m => nomatch m), rfl, rfl⟩ (fun i σ' H' _ h => SqL.of h.2.2.1) ?_ ?_)
    · rintro i x σ' H' hx ⟨sm, nT, hq', ps, x8, x9, hmv', hps, eps, rfl⟩
      obtain ⟨bb, hb1, hb2⟩ := hv.at_ hx
      have hb3 := hb2.keep (W := []) (Keep.same sm) LW.nil
      obtain ⟨qb, tb, vb, rfl, e1, e2, rw_⟩ := hb3
      have bok := ok bb (List.mem_of_getElem? hb1)
      rw [cQ hb1, sD, rR]
      walk_at "rd"
      refine ⟨nT, ll, _, _, _, _, tb, vb, bb.rs, e1, e2, rw_, bok.1, fun am ham => ?_⟩
      have sG := ai (HO.lst (List.map V.int (amt bb.rs l c))) ham
      have nG : NoT (upd H' am (HO.lst (List.map V.int (amt bb.rs l c)))) := ao nT rfl
      have hG : upd H' am (HO.lst (List.map V.int (amt bb.rs l c))) am = _ := ae
      generalize upd H' am (HO.lst (List.map V.int (amt bb.rs l c))) = G at sG nG hG ⊢
      have e1G := sG _ _ e1
      have mG := sG _ _ hmv'
      have pG := hps.same sG
      have lp : ps.length ≤ i := by
        rw [← List.length_map (f := (·.2)), eps]
        exact Nat.le_trans jN (by rw [List.length_take]; omega)
      have li : i < vs.length := (List.getElem?_eq_some_iff.mp hx).1
      have lv := hv.len
      walk_at "rd"
      refine ⟨_, _, .inr (SqT.of e1G), rfl, ?_⟩
      walk_at "rd"
      by_cases h : bb.d < f
      · have z : mvP l c f t bb = false := by simp [mvP, h]
        refine itp h ⟨_, .inl (SqL.of hG), sm.trans sG, nG, sG _ _ hq', ps, _, _, mG, pG, ?_, ?_, rfl, rfl⟩
        · rw [z, if_neg (by decide), List.append_nil, eps]
        · rw [if_pos h]
      · refine itn h ⟨_, _, .inr (SqT.of e1G), rfl, ?_⟩
        walk_at "rd"
        rw [if_neg h, Int.add_zero]
        by_cases h2 : bb.d ≤ t
        · refine itp h2 ⟨_, .inl (SqL.of hG), ?_⟩
          cases ea : amt bb.rs l c with
          | nil =>
            have z : mvP l c f t bb = false := by simp [mvP, ea]
            refine itn (by simp) ⟨sm.trans sG, nG, sG _ _ hq', ps, _, _, mG, pG, ?_, rfl, rfl, rfl⟩
            rw [z, if_neg (by decide), List.append_nil, eps]
          | cons a0 ar =>
            have z : mvP l c f t bb = true := by simp [mvP, ea, h, h2]
            rw [ea] at hG
            refine itp (by simp) ⟨.inl ⟨_, SqL.of mG⟩, _, _, .inr (SqT.of e1G), rfl, _, _, .inr (SqT.of e1G), rfl, _, .inl (SqL.of hG), by rw [sizeLine_eq]; decide, fun r hr => ?_⟩
            have rm : r ≠ mv := Ne.symm (aj mG hr)
            refine ⟨mv, _, _, rfl, rfl, (al (Ne.symm rm)).trans mG, by rw [sizeLine_eq, List.length_map]; omega, cB ((sm.trans sG).trans (ai _ hr)) hmv, ao (ao nG rfl) rfl, ?_, ps ++ [(r, bb.d, bb.k, (a0 :: ar).sum)], _, _, ?_, ?_, ?_, rfl, rfl, rfl⟩
            · rw [al (Ne.symm mq), al (aj (sG _ _ hq') hr)]; exact sG _ _ hq'
            · rw [ae, List.map_append]; rfl
            · have kp : Keep [mv] G (upd (upd G r (.tup [.int bb.d, .int bb.k, .int (a0 :: ar).sum])) mv (.lst (ps.map (fun e : Tr => V.ref e.1) ++ [.ref r]))) := (Keep.refl.new hr).put (.head _)
              intro w m
              rcases List.mem_append.mp m with m | m
              · exact kp _ _ (pG w m) ((LW.one mG).no (pG w m))
              · rw [List.mem_singleton.mp m, al rm, ae]
            · rw [z, if_pos rfl, List.map_append, eps]
              unfold mvF; rw [ea]; rfl
        · have z : mvP l c f t bb = false := by simp [mvP, h2]
          refine itn h2 ⟨sm.trans sG, nG, sG _ _ hq', ps, _, _, mG, pG, ?_, rfl, rfl, rfl⟩
          rw [z, if_neg (by decide), List.append_nil, eps]
    · rintro σ' H' ⟨sm, nT, hq', ps, x8, x9, hmv', hps, eps, rfl⟩
      rw [hv.len, List.take_length] at eps ⊢
      exact c4 l mv ps x8 x9 H' rfl k sm nT hmv hmv' hps eps
def sp_AN : Sp := sp5 fun x l c f t H Q _ => NoT H ∧ asR x fun m => asT l fun l => asT c fun c => asI f fun f => asI t fun t => l.length ≤ 200 ∧ ∃ ws bs, H m = some (.lst ws) ∧ A2 (MnAt [] H) ws bs ∧ bs.length ≤ 20 ∧ Num bs ∧ (∀ b ∈ bs, ot b) ∧ Bd H Q l c f t bs
theorem rE (T : Txt K mg a) : bD P w K mg base (XE P w) 5 a.eK a.lN ["_law_booked", "_law_path", "_law_currency", "_law_first_here", "_law_last"] sp_AN := by
  refine T.i_.okX lK (fun vs H Q E h => sp5.len h) (fun cdv A outer s H vs Q E hr h => ?_)
  obtain ⟨x0, x1, x2, x3, x4, rfl, h⟩ := sp5.inv h
  have ND := lK.nd
  have HU : (cG (XE P w) P w K mg base ["_law_booked", "_law_path", "_law_currency", "_law_first_here", "_law_last", "_law_opening", "_law_lines", "_law_number", "_law_day_here", "_law_rows_here", "_law_amounts", "_law_found", "_law_balance", "_law_amount_here"] "_law_due" (ag bK) a.eK cdv A outer s H E).A.units + 100 < cLine := bL hr
  obtain ⟨hN, h1⟩ := h
  obtain ⟨m0, rfl, h2⟩ := asR.inv h1
  obtain ⟨l, rfl, h3⟩ := asT.inv h2
  obtain ⟨c, rfl, h5⟩ := asT.inv h3
  obtain ⟨f, rfl, h6⟩ := asI.inv h5
  obtain ⟨t, rfl, ll, ws, bs, hm0, hv, len, num, ok, k⟩ := asI.inv h6
  have sz : 1000 ≤ sizeLine := by rw [sizeLine_eq]; decide
  have c3 : ∃ u, PSs (cG (XE P w) P w K mg base ["_law_booked", "_law_path", "_law_currency", "_law_first_here", "_law_last", "_law_opening", "_law_lines", "_law_number", "_law_day_here", "_law_rows_here", "_law_amounts", "_law_found", "_law_balance", "_law_amount_here"] "_law_due" (ag bK) a.eK cdv A outer s H E) (List.drop 3 (av bK)) u ∧ ∀ mv ps x7 x8 x9 x10 H1, Same H H1 → NoT H1 → H mv = none → H1 mv = some (.lst (ps.map fun e : Tr => V.ref e.1)) → MvAt H1 ps → ps.map (·.2) = MVS l c f t bs →
      u { nx := fun _ H' => Q .non H', rt := Q } [some (.ref m0), some (L2.T l), some (L2.T c), some (.int f), some (.int t), some (.int (OPN l c f bs)), some (.ref mv), x7, x8, x9, x10, none, none, none] H1 := by
    refine ⟨_, (ah (aw (i := 11) ND rfl (Or.inl rfl) (cW (FA.pa af)))
      (ah (aw (i := 12) ND rfl (Or.inl rfl) (fv 5))
      (ah (dU (by passes_own) rfl (d9 K (ay (rj K) rfl T.qY oJ (FA.pa (aa (fv 6) af)))) (gw K (n := 3) rfl (bp (aI (i := 8) ND rfl (Or.inl rfl)) (bp (aI (i := 7) ND rfl (Or.inl rfl)) (bp (aI (i := 13) ND rfl (Or.inl rfl)) gf)))) (ah (aw (i := 12) ND rfl (Or.inl rfl) (aq aJ (fv 12) (fv 13)))
      (ak (bY (cr K PySem.F.plainAttrs_list PySem.F.slot_list_append PySem.F.type_list_append bV (fv 11) (FA.pa (aa (dg (FA.pa (aa (fv 7) (aa (fv 8) (aa (fv 13) (aa (fv 12) af)))))) af)))))))
      (ak (aH (dg (FA.pa (aa (fv 5) (aa (fv 11) af))))))))), fun mv ps x7 x8 x9 x10 H1 sm nT hm hmv hps eps => ?_⟩
    walk_at "rd"
    refine ⟨Nat.zero_le _, fun ls hls => gU ?_⟩
    walk_at "rd"
    have nd := xr (l := l) (c := c) (f := f) (t := t) num.nd (num.rg (by walk_at "om"))
    rw [← eps, List.map_map] at nd
    have ml : mv ≠ ls := aj hmv hls
    have l0 : H ls = none := sm.free hls
    have s1 := ai (HO.lst []) hls
    have lp : ps.length ≤ bs.length := by rw [← List.length_map (f := (·.2)), eps]; exact jN
    refine ⟨ps, SqL.of ((al ml).trans hmv), fun e m => SqT.of (hps.same s1 e m), by walk_at "om", fun e m => wL (num.rg (by walk_at "om")) e.2 (by rw [← eps]; exact List.mem_map_of_mem m), nd, fun out po oo q hq => ?_⟩
    have lq : ls ≠ q := aj ae hq
    refine gX (SqL.of ae) (hE (fun i σ' H' => Same H H' ∧ NoT H' ∧ H' q = some (.lst (out.map fun e : Tr => V.ref e.1)) ∧ MvAt H' out ∧ ∃ ys x7 x8 x13, H' ls = some (.lst ys) ∧ A2 (LnAt H') ys (LNS (OPN l c f bs) ((out.take i).map (·.2))) ∧
      σ' = [some (.ref m0), some (L2.T l), some (L2.T c), some (.int f), some (.int t), some (.int (OPN l c f bs)), some (.ref mv), x7, x8, x9, x10, some (.ref ls), some (.int (bal (OPN l c f bs) ((out.take i).map (·.2)))), x13]) ⟨(sm.trans s1).trans (ai _ hq), ao (ao nT rfl) rfl, ae, fun e m => (s1.trans (ai _ hq)) _ _ (hps e (po.mem_iff.mp m)), [], x7, x8, none, (al lq).trans ae, .nil, by simp [bal]⟩ (fun i σ' H' _ h => SqL.of h.2.2.1) ?_ ?_)
    · rintro i x σ' H' hx ⟨sm', nT', hq', hm', ys, x7, x8, x13, hl', ha, rfl⟩
      rw [List.getElem?_map] at hx
      obtain ⟨e, he, rfl⟩ := Option.map_eq_some_iff.mp hx
      have em : e ∈ out := List.mem_of_getElem? he
      walk_at "rd"
      refine ⟨_, _, rfl, SqT.of (hm' e em), rfl, _, _, rfl, _, _, rfl, _, _, rfl, rfl, ?_⟩
      walk_at "rd"
      have ly := ha.len
      rw [md, List.length_map, List.length_take] at ly
      have lo := po.length_eq
      refine ⟨.inl ⟨_, SqL.of hl'⟩, by walk_at "om", fun r hr => ?_⟩
      have kp : Keep [ls] H' (upd (upd H' r (.tup [.int e.2.2.1, .int e.2.1, .int e.2.2.2, .int (bal (OPN l c f bs) ((out.take i).map (·.2)) + e.2.2.2)])) ls (.lst (ys ++ [.ref r]))) := (Keep.refl.new hr).put (.head _)
      have rl : r ≠ ls := Ne.symm (aj hl' hr)
      refine ⟨ls, ys, _, rfl, rfl, (al (Ne.symm rl)).trans hl', by walk_at "om", cB (sm'.trans (ai _ hr)) l0, ao (ao nT' rfl) rfl, kp _ _ hq' (by simpa using Ne.symm lq), fun z m => kp _ _ (hm' z m) ((LW.one hl').no (hm' z m)), _, _, _, _, ae, ?_, rfl, rfl, ?_, rfl⟩
      · rw [cQ he, List.map_append, List.map_singleton, mT]
        exact (bC kp (LW.one hl') ha).snoc ⟨r, rfl, by rw [al rl, ae]⟩
      · rw [cQ he, List.map_append, List.map_singleton, rV]
    · rintro σ' H' ⟨sm', nT', hq', hm', ys, x7, x8, x13, hl', ha, rfl⟩
      walk_at "rd"
      rw [List.length_map, List.take_length] at ha
      refine ⟨by walk_at "om", fun r hr => ?_⟩
      have s2 := ai (HO.tup [V.int (OPN l c f bs), V.ref ls]) hr
      exact k (out.map (·.2)) r ls ys _ (by rw [← eps]; exact po.map _) (List.pairwise_map.mpr oo) (sm'.free hr) l0 ae (s2 _ _ hl') (bC (W := []) (Keep.same s2) LW.nil ha) (sm'.trans s2) (ao nT' rfl)
  obtain ⟨u3, hu3, c3⟩ := c3
  refine ⟨_, (ah (aw (i := 5) ND rfl (Or.inl rfl) ad)
      (ah (aw (i := 6) ND rfl (Or.inl rfl) (cW (FA.pa af)))
      (ah (dU (by passes_own) rfl (d9 K (fv 0)) (gw K (n := 3) rfl (bp (aI (i := 7) ND rfl (Or.inl rfl)) (bp (aI (i := 8) ND rfl (Or.inl rfl)) (bp (aI (i := 9) ND rfl (Or.inl rfl)) gf)))) (ah (rz (i0 := 10) ND rfl (Or.inl rfl) rfl (cl := _) (x := "_law_row") (xs := ["_law_row"]) (fr := ["_law_currency", "_law_path"]) (ks := [2, 1]) (by exact ⟨rfl, by decide +kernel, rfl, by decide +kernel, rfl, d8 rfl, rfl, bo rfl, bo (k := fun y => List.lookup y _) rfl, dX rfl⟩) rfl (d9 K (fv 9)) (fun _ _ _ _ _ => (aI (i := 0) (hZ (l := ["_law_row", "_law_currency", "_law_path"]) (by decide)) rfl (Or.inl rfl))) (fun _ _ _ _ _ => (uW (L2.PW.pt (jd (bI (cY K HU) (aV (az K) (fv 0) ad (fun _ _ => rfl)) (fv 1) (bn _)) (gj (bI (cY K HU) (fT m7 (aq aJ (aV (az K) (fv 0) ad (fun _ _ => rfl)) (aL [58])) ip (iq (aq aJ (ay (cy K) rfl T.eQ dh (FA.pa (aa (fv 2) af))) ad))) (aq aJ (fv 2) (aL [58])) (bn _))))))) (fun _ _ _ _ _ => (aV (az K) (fv 0) ad (fun _ _ => rfl))))
      (ak (bG (bI sP (fv 8) (fv 3) (bn _)) (ak (aw (i := 5) ND rfl (Or.inl rfl) (aq aJ (fv 5) (ay (mi K rfl) rfl T.uQ qK (FA.pa (aa (fv 10) af)))))) (ak (bG (xC (L2.PW.pt (jd (bI h9 (fv 8) (fv 4) (bn _)) (gj (bI (mP K HU) (fv 10) (cW (FA.pa af)) (bn _)))))) (ak (bY (cr K PySem.F.plainAttrs_list PySem.F.slot_list_append PySem.F.type_list_append bV (fv 6) (FA.pa (aa (dg (FA.pa (aa (fv 8) (aa (fv 7) (aa (ay (mi K rfl) rfl T.uQ qK (FA.pa (aa (fv 10) af))) af))))) af))))) aQ))))))
      hu3))), ?_⟩
  walk_at "rd"
  refine ⟨Nat.zero_le _, fun mv hmv => gU ?_⟩
  walk_at "rd"
  have s1 := ai (HO.lst []) hmv
  refine gX (SqL.of (s1 _ _ hm0)) (hE (fun i σ' H' => Same H H' ∧ NoT H' ∧ ∃ ps x7 x8 x9 x10, H' mv = some (.lst (ps.map fun e : Tr => V.ref e.1)) ∧ MvAt H' ps ∧ ps.map (·.2) = MVS l c f t (bs.take i) ∧
      σ' = [some (.ref m0), some (L2.T l), some (L2.T c), some (.int f), some (.int t), some (.int (OPN l c f (bs.take i))), some (.ref mv), x7, x8, x9, x10, none, none, none]) ⟨s1, ao hN rfl, [], none, none, none, none, ae, (fun e m => nomatch m), rfl, rfl⟩ (fun i σ' H' _ h => SqL.of (h.1 _ _ hm0)) ?_ ?_)
  · rintro i x σ' H' hx ⟨sm, nT, ps, x7, x8, x9, x10, hmv', hps, eps, rfl⟩
    obtain ⟨bb, hb1, hb2⟩ := hv.at_ hx
    have hb3 := hb2.keep (W := []) (Keep.same sm) LW.nil
    obtain ⟨qb, tb, vb, rfl, e1, _, e2, rw_⟩ := hb3
    have bok := ok bb (List.mem_of_getElem? hb1)
    have lvb := rw_.len
    have bl := bok.1
    rw [cQ hb1, sD, rR]
    walk_at "rd"
    refine ⟨_, _, rfl, SqT.of e1, rfl, _, _, rfl, _, _, rfl, _, _, rfl, rfl, ?_⟩
    walk_at "rd"
    refine cmL tb vb (fun H2 => Same H' H2) (fun D ys hD => ai _ hD) (fun H2 c => SqL.of (c _ _ e2)) (fun v => decide ((mt H' v).cu = c) && wi (mt H' v).pa l) (fun v => V.int (mt H' v).am) (fun R r => r) (SqL.of e2) (by walk_at "om") (fun x hx H2 R cc r => ?_) (fun x hx _ H2 R cc r => ?_) (fun am ham => ?_)
    · obtain ⟨r0, m0, w0⟩ := rw_.mem hx
      have er := w0.row
      obtain ⟨q0, rfl, e0⟩ := w0
      rw [er] at r
      have e3 := cc _ _ e0
      have r5 := bok.2 r0 m0
      walk_at "rd"
      refine ⟨_, _, .inr (SqT.of e3), rfl, ?_⟩
      walk_at "rd"
      split
      · rename_i h
        rw [decide_eq_true h, Bool.true_and] at r
        refine ⟨_, _, .inr (SqT.of e3), rfl, ?_⟩
        walk_at "rd"
        refine ⟨by walk_at "om", by walk_at "om", by simp; omega, by walk_at "om", ?_⟩
        rw [ut (by walk_at "om"), show ((l.length : Int) + 1).toNat = l.length + 1 by walk_at "om", ← yD]; exact r
      · rename_i h
        rw [decide_eq_false h, Bool.false_and] at r
        exact r
    · obtain ⟨r0, m0, w0⟩ := rw_.mem hx
      have er := w0.row
      obtain ⟨q0, rfl, e0⟩ := w0
      rw [er] at r
      have e3 := cc _ _ e0
      walk_at "rd"
      exact ⟨_, _, .inr (SqT.of e3), rfl, r⟩
    · rw [x_ rw_]
      have sG := ai (HO.lst (List.map V.int (amt bb.rs l c))) ham
      have nG : NoT (upd H' am (HO.lst (List.map V.int (amt bb.rs l c)))) := ao nT rfl
      have hG : upd H' am (HO.lst (List.map V.int (amt bb.rs l c))) am = _ := ae
      generalize upd H' am (HO.lst (List.map V.int (amt bb.rs l c))) = G at sG nG hG ⊢
      have mG := sG _ _ hmv'
      have pG := hps.same sG
      have lp : ps.length ≤ i := by
        rw [← List.length_map (f := (·.2)), eps]
        exact Nat.le_trans jN (by rw [List.length_take]; omega)
      have li : i < ws.length := (List.getElem?_eq_some_iff.mp hx).1
      have lv := hv.len
      walk_at "rd"
      by_cases h : bb.d < f
      · have z : mvP l c f t bb = false := by simp [mvP, h]
        refine itp h ⟨_, .inl (SqL.of hG), sm.trans sG, nG, ps, _, _, _, _, mG, pG, ?_, ?_, rfl, rfl, rfl, rfl⟩
        · rw [z, if_neg (by decide), List.append_nil, eps]
        · rw [if_pos h]
      · refine itn h ⟨nG, ?_⟩
        rw [if_neg h, Int.add_zero]
        by_cases h2 : bb.d ≤ t
        · refine itp h2 ⟨Nat.zero_le _, fun e he => ⟨_, zy (SqL.of ((al (aj hG he)).trans hG)) (SqL.of ae), G, Gc.none (ai _ he), ?_⟩⟩
          cases ea : amt bb.rs l c with
          | nil =>
            have z : mvP l c f t bb = false := by simp [mvP, ea]
            refine itn (by simp) ⟨sm.trans sG, nG, ps, _, _, _, _, mG, pG, ?_, rfl, rfl, rfl, rfl, rfl⟩
            rw [z, if_neg (by decide), List.append_nil, eps]
          | cons a0 ar =>
            have z : mvP l c f t bb = true := by simp [mvP, ea, h, h2]
            rw [ea] at hG
            refine itp rfl ⟨.inl ⟨_, SqL.of mG⟩, _, .inl (SqL.of hG), by walk_at "om", fun r hr => ?_⟩
            have rm : r ≠ mv := Ne.symm (aj mG hr)
            refine ⟨mv, _, _, rfl, rfl, (al (Ne.symm rm)).trans mG, by rw [List.length_map]; omega, cB ((sm.trans sG).trans (ai _ hr)) hmv, ao (ao nG rfl) rfl, ps ++ [(r, bb.d, bb.k, (a0 :: ar).sum)], _, _, _, _, ?_, ?_, ?_, rfl, rfl, rfl, rfl, rfl⟩
            · rw [ae, List.map_append]; rfl
            · have kp : Keep [mv] G (upd (upd G r (.tup [.int bb.d, .int bb.k, .int (a0 :: ar).sum])) mv (.lst (ps.map (fun e : Tr => V.ref e.1) ++ [.ref r]))) := (Keep.refl.new hr).put (.head _)
              intro w m
              rcases List.mem_append.mp m with m | m
              · exact kp _ _ (pG w m) ((LW.one mG).no (pG w m))
              · rw [List.mem_singleton.mp m, al rm, ae]
            · rw [z, if_pos rfl, List.map_append, eps]
              unfold mvF; rw [ea]; rfl
        · have z : mvP l c f t bb = false := by simp [mvP, h2]
          refine itn h2 ⟨sm.trans sG, nG, ps, _, _, _, _, mG, pG, ?_, rfl, rfl, rfl, rfl, rfl⟩
          rw [z, if_neg (by decide), List.append_nil, eps]
  · rintro σ' H' ⟨sm, nT, ps, x7, x8, x9, x10, hmv', hps, eps, rfl⟩
    rw [hv.len, List.take_length] at eps ⊢
    exact c3 mv ps x7 x8 x9 x10 H' sm nT hmv hmv' hps eps
end
section
variable {pS : Addr} {ns : List Int} {P : Program} {w : World} {K : PySem.W.Frag} {mg : Str → Option Value} {base : Heap} {a : Adr}
theorem Keep.fresh {S : List Addr} {H H1 : Hp} {p : Addr} {o : HO} (x : Keep S H H1) (h : H p = none) : Keep S H (upd H1 p o) := fun c z e n => by
  rw [al (aj e h)]; exact x c z e n
theorem Keep.toSame {S : List Addr} {H H1 H2 : Hp} (s : Same H H1) (x : Keep S H1 H2) (f : ∀ c ∈ S, H c = none) : Same H H2 := fun c z e => x c z (s c z e) fun m => by
  rw [f c m] at e; cases e
theorem Same.frees {H G : Hp} (s : Same H G) {q : Addr} (h : G q = none) : H q = none := by
  cases e : H q with
  | none => rfl
  | some o => rw [s _ _ e] at h; cases h
structure LS (J : Addr) (H0 H : Hp) (pj b u bk hd : Addr) (cb : List Addr) (vs ws hs : List V) (bs : List Bk) : Prop where
  sm : Same H0 H
  nT : NoT H
  jr : JAt J H pj b u vs
  jv : A2 (BkAt H) vs bs
  bl : H bk = some (.lst ws)
  bw : A2 (MnAt (hd :: bk :: b :: cb) H) ws bs
  hl : H hd = some (.lst hs)
  hh : ∀ v ∈ hs, HdAt (hd :: bk :: b :: cb) H v
  n1 : hd ≠ bk
  n2 : hd ≠ b
  n3 : bk ≠ b
  f1 : H0 hd = none
  f2 : H0 bk = none
  f3 : H0 b = none
  fu : H0 u = none
  fp : H0 pj = none
  cl : LW cb H0
  nm : Num bs
  ok : ∀ b ∈ bs, ot b
variable {J : Addr} {H0 H H' : Hp} {pj b u bk hd : Addr} {cb : List Addr} {vs ws hs : List V} {bs : List Bk}
theorem LS.lw (L : LS J H0 H pj b u bk hd cb vs ws hs bs) : LW (hd :: bk :: b :: cb) H := fun s m => by
  simp only [List.mem_cons] at m
  rcases m with rfl | rfl | rfl | m
  · exact ⟨_, L.hl, by intro _ z; cases z⟩
  · exact ⟨_, L.bl, by intro _ z; cases z⟩
  · exact ⟨_, L.jr.ls, by intro _ z; cases z⟩
  · obtain ⟨o, e, n⟩ := L.cl s m
    exact ⟨o, L.sm _ _ e, n⟩
theorem LS.ob (L : LS J H0 H pj b u bk hd cb vs ws hs bs) : (pj ≠ hd ∧ pj ≠ bk ∧ pj ≠ b) ∧ u ≠ hd ∧ u ≠ bk ∧ u ≠ b := by
  obtain ⟨dx, e⟩ := L.jr.ob
  exact ⟨⟨dI e L.hl (by intro z; cases z), dI e L.bl (by intro z; cases z), dI e L.jr.ls (by intro z; cases z)⟩, dI L.jr.dc L.hl (by intro z; cases z), dI L.jr.dc L.bl (by intro z; cases z), dI L.jr.dc L.jr.ls (by intro z; cases z)⟩
theorem LS.same (L : LS J H0 H pj b u bk hd cb vs ws hs bs) (s : Same H H') (n : NoT H') : LS J H0 H' pj b u bk hd cb vs ws hs bs := by
  have k : Keep (hd :: bk :: b :: cb) H H' := Keep.same s
  exact ⟨L.sm.trans s, n, L.jr.keep (S := []) (Keep.same s) List.not_mem_nil List.not_mem_nil List.not_mem_nil, cq k L.lw L.jv, s _ _ L.bl, cM k L.lw L.bw, s _ _ L.hl, fun v m => (L.hh v m).keep k L.lw, L.n1, L.n2, L.n3, L.f1, L.f2, L.f3, L.fu, L.fp, L.cl, L.nm, L.ok⟩
theorem LS.told (L : LS J H0 H pj b u bk hd cb vs ws hs bs) {e : Addr} (kp : Keep [hd] H H') (n : NoT H') (he : H' hd = some (.lst (hs ++ [.ref e]))) (hn : HdAt (hd :: bk :: b :: cb) H' (.ref e)) : LS J H0 H' pj b u bk hd cb vs ws (hs ++ [.ref e]) bs := by
  have k : Keep (hd :: bk :: b :: cb) H H' := kp.mono fun c m => by rw [List.mem_singleton.mp m]; exact .head _
  obtain ⟨p1, u1⟩ := L.ob
  refine ⟨Keep.toSame L.sm kp (fun c m => by rw [List.mem_singleton.mp m]; exact L.f1), n, L.jr.keep kp (by simpa using p1.1) (by simpa using Ne.symm L.n2) (by simpa using u1.1), cq k L.lw L.jv, kp _ _ L.bl (by simpa using Ne.symm L.n1), cM k L.lw L.bw, he, fun v m => ?_, L.n1, L.n2, L.n3, L.f1, L.f2, L.f3, L.fu, L.fp, L.cl, L.nm, L.ok⟩
  rcases List.mem_append.mp m with m | m
  · exact (L.hh v m).keep k L.lw
  · rw [List.mem_singleton.mp m]; exact hn
theorem LS.book (L : LS J H0 H pj b u bk hd cb vs ws hs bs) {q m : Addr} {x : Bk} (kp : Keep [bk, b] H H') (n : NoT H') (h1 : H' b = some (.lst (vs ++ [.ref q]))) (h2 : BkAt H' (.ref q) x) (h3 : H' bk = some (.lst (ws ++ [.ref m]))) (h4 : MnAt (hd :: bk :: b :: cb) H' (.ref m) x) (hx : x.k = bs.length) (ok : ot x) : LS J H0 H' pj b u bk hd cb (vs ++ [.ref q]) (ws ++ [.ref m]) hs (bs ++ [x]) := by
  have k : Keep (hd :: bk :: b :: cb) H H' := kp.mono fun c m => by
    simp only [List.mem_cons, List.not_mem_nil, or_false] at m ⊢
    rcases m with m | m
    · exact .inr (.inl m)
    · exact .inr (.inr (.inl m))
  obtain ⟨p1, u1⟩ := L.ob
  obtain ⟨dx, e⟩ := L.jr.ob
  refine ⟨Keep.toSame L.sm kp (fun c m => ?_), n, ⟨⟨dx, kp _ _ e (by simpa using p1.2)⟩, h1, kp _ _ L.jr.dc (by simpa using u1.2)⟩, (cq k L.lw L.jv).snoc h2, h3, (cM k L.lw L.bw).snoc h4, kp _ _ L.hl (by simpa using ⟨L.n1, L.n2⟩), fun v m => (L.hh v m).keep k L.lw, L.n1, L.n2, L.n3, L.f1, L.f2, L.f3, L.fu, L.fp, L.cl, L.nm.snoc hx, fun z m => ?_⟩
  · simp only [List.mem_cons, List.not_mem_nil, or_false] at m
    rcases m with rfl | rfl
    · exact L.f2
    · exact L.f3
  · rcases List.mem_append.mp m with m | m
    · exact L.ok z m
    · rw [List.mem_singleton.mp m]; exact ok
end
section
variable {pS : Addr} {ns : List Int} {P : Program} {w : World} {K : PySem.W.Frag} {mg : Str → Option Value} {base : Heap} {a : Adr}
theorem qA {ps : List (List Nat)} (x : Int) (h : 0 < ps.length) : ∃ u ∈ ps, atI (ps.map L2.T) (x % ((ps.map L2.T).length : Nat)) = some (L2.T u) := by
  have b0 : 0 ≤ x % ((ps.map L2.T).length : Nat) := Int.emod_nonneg _ (by rw [List.length_map]; omega)
  have b1 : x % ((ps.map L2.T).length : Nat) < ((ps.map L2.T).length : Nat) := Int.emod_lt_of_pos _ (by rw [List.length_map]; omega)
  obtain ⟨j, e⟩ := Int.eq_ofNat_of_zero_le b0
  rw [e] at b1 ⊢
  have hj : j < ps.length := by rw [List.length_map] at b1; omega
  exact ⟨ps[j], List.getElem_mem hj, bz (by simp [hj])⟩
theorem uY {cu : List (List Nat)} (x : Int) (h : cu.length = 3) : ∃ u ∈ cu, atI (cu.map L2.T) (x % 3) = some (L2.T u) := by
  have := qA (ps := cu) x (by walk_at "om")
  rw [List.length_map, h] at this; exact this
theorem A3 (c x : Int) : ∃ k, atI ((List.range 7).map fun k => L2.T (nms c k)) (x / 13 % 7) = some (L2.T (nms c k)) := by
  have b0 : 0 ≤ x / 13 % 7 := by walk_at "om"
  have b1 : x / 13 % 7 < 7 := by walk_at "om"
  obtain ⟨j, e⟩ := Int.eq_ofNat_of_zero_le b0
  rw [e] at b1 ⊢
  exact ⟨j, bz (by simp [show j < 7 by walk_at "om"])⟩
theorem Ab (l : List Nat) (ps : List (List Nat)) : inV (L2.T l) (ps.map L2.T) = decide (l ∈ ps) := by
  unfold inV
  rw [List.any_map, Bool.eq_iff_iff, List.any_eq_true, decide_eq_true_eq]
  constructor
  · rintro ⟨x, hx, e⟩
    have e' : x = l := by simpa [eqV, Function.comp] using e
    exact e' ▸ hx
  · intro h; exact ⟨l, h, by simp [eqV]⟩
def sp_yt (K : PySem.W.Frag) (p0 : Addr) (ns : List Int) : Sp := sp2 fun x y H Q _ => asR x fun p => asI y fun m => NoT H ∧ p0 = p ∧ SqL K H p0 (ns.map V.int) ∧ (0 ≤ m ∧ m ≤ 8) ∧ ∀ ps q, eM (ns.getD 1 0) ps → ps.length ≤ 10 → H q = none → Q (.ref q) (upd H q (.lst (ps.map L2.T)))
theorem nM (T : Txt K mg a) : bD P w K mg base (XE P w) 3 a.f_ a.iT ["_law_script", "_law_many"] (sp_yt K pS ns) := by
  refine T.gn.okG iY (fun vs H Q E h => sp2.len h) (fun cdv A outer s H vs Q E hr h => ?_)
  obtain ⟨x0, x1, rfl, h⟩ := sp2.inv h
  have ND := iY.nd
  obtain ⟨p, rfl, h1⟩ := asR.inv h
  obtain ⟨m, rfl, hN, rfl, hS, hm, k⟩ := asI.inv h1
  have sz : 1000 ≤ sizeLine := by rw [sizeLine_eq]; decide
  have G__law_mixed := dW (P := P) (w := w) (base := base) T
  have b__law_mixed := d7 T.aD
  have G__law_cell_at := gJ (P := P) (w := w) (base := base) T (pS := pS) (ns := ns)
  have b__law_cell_at := gL T.bg
  have G__law_names := og (P := P) (w := w) (base := base) T
  have b__law_names := nU T.gv
  refine ⟨hN, _, (ah (aw (i := 2) ND rfl (Or.inl rfl) (au G__law_names (hr.mono (by decide)) rfl T.qP T.gv.kp b__law_names .nil aC (FA.pa (aa (au G__law_cell_at (hr.mono (by decide)) rfl T.bX T.bg.kp b__law_cell_at .nil aC (FA.pa (aa (fv 0) (aa ad af)))) af))))
      (ah (aw (i := 3) ND rfl (Or.inl rfl) (cW (FA.pa (aa (aV (az K) (fv 2) ad (fun _ _ => rfl)) (aa (aV (az K) (fv 2) ad (fun _ _ => rfl)) af)))))
      (ah (dU (by passes_own) rfl (eJ rfl T.eX (FA.pa (aa (fv 1) af))) (aI (i := 4) ND rfl (Or.inl rfl)) (ah (aw (i := 5) ND rfl (Or.inl rfl) (au G__law_mixed (hr.mono (by decide)) rfl T.aY T.aD.kp b__law_mixed .nil aC (FA.pa (aa (au G__law_cell_at (hr.mono (by decide)) rfl T.bX T.bg.kp b__law_cell_at .nil aC (FA.pa (aa (fv 0) (aa ad af)))) (aa (fv 4) af)))))
      (ah (aw (i := 6) ND rfl (Or.inl rfl) (aV (az K) (fv 3) (aq aP (fv 5) (ay (cy K) rfl T.eQ dh (FA.pa (aa (fv 3) af)))) (fun _ _ => rfl)))
      (ah (aw (i := 7) ND rfl (Or.inl rfl) (aq aJ (aq aJ (fv 6) (aL [58])) (aV (az K) (fv 2) (aq aP (aq aO (fv 5) ad) ad) (fun _ _ => rfl))))
      (ak (bG (L2.PW.pt (jd (bI (oQ K) (fv 7) (fv 3) (by with_unfolding_all rfl)) (gj (bI sP (cr K PySem.F.plainAttrs_str PySem.F.slot_str_count PySem.F.type_str_count xc (fv 6) (FA.pa (aa (aL [58]) af))) ad (bn _))))) (ak (bY (cr K PySem.F.plainAttrs_list PySem.F.slot_list_append PySem.F.type_list_append bV (fv 3) (FA.pa (aa (fv 7) af))))) aQ))))))
      (ak (aH (fv 3)))))), ?_⟩
  walk_at "rd"
  refine ⟨hN, hS, hN, fun q hq => ⟨_, _, .inl (SqL.of ae), bz (j := 0) rfl, _, _, .inl (SqL.of ae), bz (j := 6) rfl, by walk_at "om", fun r hr => ?_⟩⟩
  have e1 : (ns.getD (Int.toNat 1) 0) = ns.getD 1 0 := rfl
  rw [e1] at hr ⊢
  generalize ns.getD 1 0 = c at hr k ⊢
  have s1 := ai (HO.lst (List.map (fun k => L2.T (nms c k)) (List.range 7))) hq
  have qr : q ≠ r := aj ae hr
  have r0 : H r = none := s1.free hr
  refine jT ?_
  walk_at "rd"
  refine ⟨by walk_at "om", by walk_at "om", fS (lo := 0) (n := m.toNat) (fun i σ' H' => Same H H' ∧ NoT H' ∧ H' q = some (.lst ((List.range 7).map fun k => L2.T (nms c k))) ∧ ∃ ps x4 x5 x6 x7, eM c ps ∧ ps.length ≤ 2 + i ∧ H' r = some (.lst (ps.map L2.T)) ∧ σ' = [some (.ref pS), some (.int m), some (.ref q), some (.ref r), x4, x5, x6, x7]) ⟨s1.trans (ai _ hr), ao (ao hN rfl) rfl, (al qr).trans ae, _, none, none, none, none, eM.two, by simp, ae, rfl⟩ ?_ ?_⟩
  · rintro i σ' H' hi ⟨sm, nT, hq', ps, x4, x5, x6, x7, hP, lp, hr', rfl⟩
    have l2 := hP.len2
    walk_at "rd"
    refine ⟨nT, hS.same sm, nT, ⟨by walk_at "om", by walk_at "om"⟩, _, .inl (SqL.of hr'), ?_⟩
    walk_at "rd"
    generalize MX (ns.getD (Int.toNat 2) 0) (0 + (i : Int)) = x
    obtain ⟨u, hu, eu⟩ := qA (ps := ps) x (by walk_at "om")
    obtain ⟨k7, e7⟩ := A3 c x
    have pu := hP.ok u hu
    have lu := pu.len
    have l7 := gh (c := c) (k := k7)
    refine ⟨by rw [List.length_map]; omega, _, _, .inl (SqL.of hr'), eu, ?_⟩
    walk_at "rd"
    refine ⟨by walk_at "om", _, _, .inl (SqL.of hq'), e7, ?_⟩
    walk_at "rd"
    refine ⟨by simp; omega, _, .inl (SqL.of hr'), rfl, by simp [dP], ?_⟩
    have el : u ++ [58] ++ nms c k7 = u ++ 58 :: nms c k7 := by simp
    by_cases hm : u ++ 58 :: nms c k7 ∈ ps
    · exact itn (by rw [Ab, el, decide_eq_true hm]; decide) ⟨sm, nT, hq', ps, _, _, _, _, hP, by walk_at "om", hr', rfl, rfl, rfl, rfl⟩
    · refine itp (by rw [Ab, el, decide_eq_false hm]) ⟨by decide, ?_, ?_⟩
      · intro z
        have := pu.pn
        rw [show u = [] from z] at this
        exact absurd this (by decide)
      · by_cases h5 : ((spN 58 u).length : Int) - 1 < 5
        · refine itp h5 ⟨.inl ⟨_, SqL.of hr'⟩, r, _, _, rfl, rfl, hr', by rw [List.length_map]; omega, cB sm r0, ao nT rfl, (al qr).trans hq', _, _, _, _, _, .more hP hu hm (by walk_at "om"), by simp; omega, ?_, rfl, rfl, rfl, rfl⟩
          rw [ae, List.map_append, ← el]; rfl
        · exact itn h5 ⟨sm, nT, hq', ps, _, _, _, _, hP, by walk_at "om", hr', rfl, rfl, rfl, rfl⟩
  · rintro σ' H' ⟨sm, nT, hq', ps, x4, x5, x6, x7, hP, lp, hr', rfl⟩
    walk_at "rd"
    refine ⟨_, Gc.one sm r0 hr' rfl, k ps r hP (by walk_at "om") r0⟩
structure CG (cs : List Acc) (ps : List (List Nat)) : Prop where
  pa : cs.map (·.pa) = ps
  st : ∀ c ∈ cs, c.un = none ∧ c.fi = 0 ∧ c.be.length ≤ cs.length
theorem CG.top {cs : List Acc} {ps : List (List Nat)} {l : List Nat} {z : Acc} (h : CG cs ps) (e1 : z.pa = l) (e2 : z.fi = 0) (e3 : z.un = none) (e4 : z.be = []) : CG (cs ++ [z]) (ps ++ [l]) := by
  refine ⟨by rw [List.map_append, h.pa, ← e1]; rfl, fun y m => ?_⟩
  rcases List.mem_append.mp m with m | m
  · have := h.st y m
    exact ⟨this.1, this.2.1, by rw [List.length_append]; omega⟩
  · rw [List.mem_singleton.mp m]
    exact ⟨e3, e2, by rw [e4]; simp⟩
theorem CG.ext {cs : List Acc} {ps : List (List Nat)} {l v : List Nat} {z : Acc} (h : CG cs ps) (e1 : z.pa = l) (e2 : z.fi = 0) (e3 : z.un = none) (e4 : z.be = []) : CG (i5 cs v (grw l) ++ [z]) (ps ++ [l]) := by
  have ln : (i5 cs v (grw l)).length = cs.length := by unfold i5; rw [List.length_map]
  refine ⟨by rw [List.map_append, fL (f := grw l) _ fun _ => rfl, h.pa, ← e1]; rfl, fun y m => ?_⟩
  rw [List.length_append, ln, List.length_singleton]
  rcases List.mem_append.mp m with m | m
  · obtain ⟨x, hx, rfl⟩ := g7 m
    have := h.st x hx
    split
    · exact ⟨this.1, this.2.1, by show (x.be ++ [l]).length ≤ _; rw [List.length_append, List.length_singleton]; omega⟩
    · exact ⟨this.1, this.2.1, by walk_at "om"⟩
  · rw [List.mem_singleton.mp m]
    exact ⟨e3, e2, by rw [e4]; simp⟩
theorem yh {ps : List (List Nat)} {i : Nat} {l : List Nat} (h : ps.Nodup) (e : ps[i]? = some l) : l ∉ ps.take i := fun m => by
  obtain ⟨j, hj⟩ := List.getElem?_of_mem m
  have hi := (List.getElem?_eq_some_iff.mp hj).1
  rw [List.length_take] at hi
  rw [List.getElem?_take_of_lt (by walk_at "om")] at hj
  have := (List.getElem?_inj (by walk_at "om") h).mp (hj.trans e.symm)
  omega
theorem CG.none_ {cs : List Acc} {ps : List (List Nat)} {l : List Nat} (h : CG cs ps) (m : l ∉ ps) : fnd cs l = none := List.find?_eq_none.mpr fun c hc e => m (by
  rw [← h.pa, ← (by simpa using e : c.pa = l)]; exact List.mem_map_of_mem hc)
theorem Bn (x : V) : List.lookup (Str.ofString "add_top") [(Str.ofString "by_path", x)] = none := by rw [bB (by decide +kernel)]; rfl
theorem yf (x : V) : List.lookup (Str.ofString "add") [(Str.ofString "by_path", x)] = none := by rw [bB (by decide +kernel)]; rfl
def sp_wQ (C A : Addr) : Sp := sp1 fun x H Q _ => NoT H ∧ asR x fun q => ∃ c ps, H q = some (.lst (ps.map L2.T)) ∧ eM c ps ∧ ps.length ≤ 10 ∧
  ∀ p d cs H', CAt C A H' p d cs → CG cs ps → (∀ z ∈ cs, H z.bl = none) → H d = none → Same H H' → NoT H' → Q (.ref p) H'
theorem nZ (T : Txt K mg a) : bD P w K mg base (XE P w) 9 a.gg a.iK ["_law_paths_here"] (sp_wQ a.bq a.aG) := by
  refine T.gA.okX iX (fun vs H Q E h => sp1.len h) (fun cdv A outer s H vs Q E hr h => ?_)
  obtain ⟨x0, rfl, h⟩ := sp1.inv h
  have ND := iX.nd
  obtain ⟨hN, h1⟩ := h
  obtain ⟨q, rfl, c, ps, hq, hP, len, k⟩ := asR.inv h1
  have G_Chart_add := j_ (P := P) (w := w) (base := base) T
  have b_Chart_add := jA T.gT
  have G_Chart_add_top := kU (P := P) (w := w) (base := base) T
  have b_Chart_add_top := kW T.gH
  have G_Chart___init__ := j5 (P := P) (w := w) (base := base) T
  have b_Chart___init__ := ke T.fM
  refine ⟨_, (ah (aw (i := 1) ND rfl (Or.inl rfl) (kP T.yl G_Chart___init__ (hr.mono (by decide)) rfl T.y0 b_Chart___init__ .nil aC))
      (ah (dU (by passes_own) rfl (yE K rfl T.lE (FA.pa (aa (fv 0) af))) (gw K (n := 2) rfl (bp (aI (i := 2) ND rfl (Or.inl rfl)) (bp (aI (i := 3) ND rfl (Or.inl rfl)) gf))) (ak (bG (bI Cg (aL [58]) (fv 3) (by with_unfolding_all rfl)) (ak (bY (dC (fv 1) T.cn T.jF G_Chart_add (hr.mono (by decide)) b_Chart_add .nil aC (FA.pa (aa (fv 3) (aa i6 (aa ad af))))))) (ak (bY (dC (fv 1) T.cn T.lB G_Chart_add_top (hr.mono (by decide)) b_Chart_add_top .nil aC (FA.pa (aa (fv 3) (aa (ig (FA.pa (aa (aL [104, 97, 118, 101]) (aa (aL [103, 97, 105, 110]) af))) (aq aP (fv 2) ad) (fun _ _ => rfl)) af)))))))))
      (ak (aH (fv 1))))), ?_⟩
  walk_at "rd"
  intro x dx hx hdx ne
  refine ⟨ao (ao hN rfl) rfl, _, ae, fun d H1 hd J0 K0 N0 => yy ?_⟩
  have k0 := fP hx hdx K0
  have s0 : Same H H1 := fun c z e => k0 c z e List.not_mem_nil
  have d0 : H d = none := cR hd
  walk_at "rd"
  refine ⟨⟨_, SqL.of (s0 _ _ hq)⟩, zb (xs := ps.map L2.T) (fun i σ' H' => Same H H' ∧ NoT H' ∧ ∃ cs x2 x3, CAt a.bq a.aG H' x d cs ∧ CG cs (ps.take i) ∧ (∀ z ∈ cs, H z.bl = none) ∧ σ' = [some (.ref q), some (.ref x), x2, x3]) ⟨s0, N0, [], none, none, J0, ⟨rfl, fun _ m => nomatch m⟩, (fun _ m => nomatch m), rfl⟩ (fun i σ' H' _ h => SqL.of (h.1 _ _ hq)) ?_ ?_⟩
  · rintro i y σ' H' r hy hr ⟨sm, nT, cs, x2, x3, J, cg, fb_, rfl⟩
    rw [List.getElem?_map] at hy
    obtain ⟨l, hl, rfl⟩ := Option.map_eq_some_iff.mp hy
    have s2 := ai (HO.tup [V.int i, L2.T l]) hr
    have J2 := J.same s2
    have n2 : NoT (upd H' r (HO.tup [V.int i, L2.T l])) := ao nT rfl
    have sm2 := sm.trans s2
    walk_at "rd"
    refine ⟨_, _, rfl, SqT.of ae, rfl, _, _, rfl, _, _, rfl, rfl, ?_⟩
    generalize upd H' r (HO.tup [V.int i, L2.T l]) = G at J2 n2 sm2 ⊢
    walk_at "rd"
    have nf := cg.none_ (yh hP.nd hl)
    have lc : cs.length ≤ 10 := by rw [← List.length_map (f := (·.pa)), cg.pa, List.length_take]; omega
    obtain ⟨dx2, hp2⟩ := J2.ob
    have pl := hP.ok l (List.mem_of_getElem? hl)
    rw [cQ hl]
    by_cases h58 : 58 ∈ l
    · refine itp (decide_eq_true h58) ?_
      rcases hP.up i l hl with ⟨z, _⟩ | ⟨v, kk, rfl, mv⟩
      · exact absurd h58 z
      · rw [← cg.pa] at mv
        obtain ⟨u, hu, pu⟩ := List.mem_map.mp mv
        have su := cg.st u hu
        refine ⟨_, _, hp2, yf _, n2, ⟨pl.lo, by have := pl.len; omega⟩, v, nms c kk, d, cs, u, rfl, gt c kk, pl.pn, J2, by walk_at "om", fun y m => by have := (cg.st y m).2.2; omega, nf, hu, pu, su.1, su.2.1, fun z H2 e1 e2 e3 e4 o1 o2 J3 K3 N3 => ?_⟩
        refine ⟨Keep.toSame sm2 K3 fun y m => ?_, N3, _, _, _, J3, cg.ext e1 e2 e3 e4, fun y m => ?_, rfl, rfl⟩
        · rcases List.mem_cons.mp m with rfl | m
          · exact d0
          · obtain ⟨y, my, rfl⟩ := List.mem_map.mp m
            exact fb_ y my
        · rcases List.mem_append.mp m with m | m
          · obtain ⟨y, my, rfl⟩ := g7 m
            split
            · exact fb_ y my
            · exact fb_ y my
          · rw [List.mem_singleton.mp m]; exact Same.frees sm2 o2
    · refine itn (fun z => h58 (of_decide_eq_true z)) ⟨_, _, hp2, Bn _, n2, by rw [sizeLine_eq]; decide, fun p hp => vO (ls := [wB, Ba]) (by walk_at "om") (by show _ < (2 : Int); omega) fun kd mk => ⟨n2, ?_, ?_, d, cs, J2, by walk_at "om", nf, fun z H2 e1 e2 e3 e4 o1 o2 J3 K3 N3 => ?_⟩⟩
      · rcases hP.up i l hl with ⟨_, kk, rfl⟩ | ⟨v, kk, rfl, _⟩
        · exact pz c kk
        · exact absurd (by simp) h58
      · simp only [List.mem_cons, List.not_mem_nil, or_false] at mk
        rcases mk with rfl | rfl
        · exact .inl rfl
        · exact .inr rfl
      · refine ⟨Keep.toSame sm2 K3 fun y m => by rw [List.mem_singleton.mp m]; exact d0, N3, _, _, _, J3, cg.top e1 e2 e3 e4, fun y m => ?_, rfl, rfl⟩
        rcases List.mem_append.mp m with m | m
        · exact fb_ y m
        · rw [List.mem_singleton.mp m]; exact Same.frees sm2 o2
  · rintro σ' H' ⟨sm, nT, cs, x2, x3, J, cg, fb_, rfl⟩
    rw [List.length_map, List.take_length] at cg
    walk_at "rd"
    exact k x d cs H' J cg fb_ d0 sm nT
theorem yV {H : Hp} {r t : Addr} {vs : List V} {rs : List Row} {u w : List Nat} {m : Int} (ht : H t = none) (hr : H r = some (.lst vs)) (ha : A2 (RwAt H) vs rs) : A2 (RwAt (upd (upd H t (.tup [L2.T u, L2.T w, .int m])) r (.lst (vs ++ [.ref t])))) (vs ++ [.ref t]) (rs ++ [⟨u, w, m⟩]) := by
  have kp : Keep [r] H (upd (upd H t (.tup [L2.T u, L2.T w, .int m])) r (.lst (vs ++ [.ref t]))) := (Keep.refl.new ht).put (.head _)
  exact (cH kp (LW.one hr) ha).snoc ⟨t, rfl, by rw [al (Ne.symm (aj hr ht)), ae]⟩
theorem yW {ps : List (List Nat)} {rs : List Row} {u w : List Nat} {m : Int} (h : ∀ z ∈ rs, z.pa ∈ ps) (hu : u ∈ ps) : ∀ z ∈ rs ++ [(⟨u, w, m⟩ : Row)], z.pa ∈ ps := fun z hz => by
  rcases List.mem_append.mp hz with hz | hz
  · exact h z hz
  · rw [List.mem_singleton.mp hz]; exact hu
def sp_yz : Sp := sp3 fun x y z H Q _ => NoT H ∧ asI x fun c => asR y fun p => asR z fun q => 0 ≤ c ∧ ∃ ps cu : List (List Nat), H p = some (.lst (ps.map L2.T)) ∧ H q = some (.lst (cu.map L2.T)) ∧ 0 < ps.length ∧ ps.length ≤ 20 ∧ cu.length = 3 ∧
  ∀ rs vs r H', rs.length ≤ 6 → (∀ z ∈ rs, z.pa ∈ ps) → H r = none → H' r = some (.lst vs) → A2 (RwAt H') vs rs → Same H H' → NoT H' → Q (.ref r) H'
theorem qL (T : Txt K mg a) : bD P w K mg base (XE P w) 3 a.e9 a.jS ["_law_cell", "_law_paths_here", "_law_currencies_here"] sp_yz := by
  refine T.im.okX kc (fun vs H Q E h => sp3.len h) (fun cdv A outer s H vs Q E hr h => ?_)
  obtain ⟨x0, x1, x2, rfl, h⟩ := sp3.inv h
  have ND := kc.nd
  have HU : (cG (XE P w) P w K mg base ["_law_cell", "_law_paths_here", "_law_currencies_here", "_law_rows_here", "_law_k", "_law_path", "_law_currency", "_law_amount_here"] "_law_rows" (ag bU) a.e9 cdv A outer s H E).A.units + 100 < cLine := bL hr
  obtain ⟨hN, h1⟩ := h
  obtain ⟨c, rfl, h2⟩ := asI.inv h1
  obtain ⟨p, rfl, h3⟩ := asR.inv h2
  obtain ⟨q, rfl, hc, ps, cu, hp, hq, l1, l2, l3, k⟩ := asR.inv h3
  have sz : 1000 ≤ sizeLine := by rw [sizeLine_eq]; decide
  have G__law_amount := nv (P := P) (w := w) (base := base) T
  have b__law_amount := mn T.fG
  have G__law_mixed := dW (P := P) (w := w) (base := base) T
  have b__law_mixed := d7 T.aD
  refine ⟨_, (ah (aw (i := 3) ND rfl (Or.inl rfl) (cW (FA.pa af)))
      (ah (dU (by passes_own) rfl (eJ rfl T.eX (FA.pa (aa (aq aJ ad (aq aP (fv 0) ad)) af))) (aI (i := 4) ND rfl (Or.inl rfl)) (ah (aw (i := 5) ND rfl (Or.inl rfl) (aV (az K) (fv 1) (aq aP (au G__law_mixed (hr.mono (by decide)) rfl T.aY T.aD.kp b__law_mixed .nil aC (FA.pa (aa (fv 0) (aa (aq aJ (aq dB ad (fv 4)) ad) af)))) (ay (cy K) rfl T.eQ dh (FA.pa (aa (fv 1) af)))) (fun _ _ => rfl)))
      (ah (aw (i := 6) ND rfl (Or.inl rfl) (aV (az K) (fv 2) (aq aP (aq aO (au G__law_mixed (hr.mono (by decide)) rfl T.aY T.aD.kp b__law_mixed .nil aC (FA.pa (aa (fv 0) (aa (aq aJ (aq dB ad (fv 4)) ad) af)))) ad) ad) (fun _ _ => rfl)))
      (ah (aw (i := 7) ND rfl (Or.inl rfl) (au G__law_amount (hr.mono (by decide)) rfl T.om T.fG.kp b__law_amount .nil aC (FA.pa (aa (au G__law_mixed (hr.mono (by decide)) rfl T.aY T.aD.kp b__law_mixed .nil aC (FA.pa (aa (fv 0) (aa (aq aJ (aq dB ad (fv 4)) ad) af)))) af))))
      (ah (bG (L2.PW.pt (jd (bI zX (fv 4) ad (bn _)) (gj (bI (cY K HU) (aq aP (aq aO (fv 0) ad) ad) ad (bn _))))) (ah (aw (i := 7) ND rfl (Or.inl rfl) (rH mB (aV (az K) (aV (az K) (fv 3) (rH mB ad) (fun _ _ => rfl)) ad (fun _ _ => rfl))))
      (ak (aw (i := 6) ND rfl (Or.inl rfl) (aV (az K) (aV (az K) (fv 3) (rH mB ad) (fun _ _ => rfl)) ad (fun _ _ => rfl))))) aQ)
      (ak (bY (cr K PySem.F.plainAttrs_list PySem.F.slot_list_append PySem.F.type_list_append bV (fv 3) (FA.pa (aa (dg (FA.pa (aa (fv 5) (aa (fv 6) (aa (fv 7) af))))) af))))))))))
      (ak (aH (fv 3))))), ?_⟩
  walk_at "rd"
  refine ⟨Nat.zero_le _, fun r hr => jT ?_⟩
  walk_at "rd"
  refine ⟨by walk_at "om", by walk_at "om", fS (lo := 0) (n := (2 + c % 5).toNat) (fun i σ' H' => Same H H' ∧ NoT H' ∧ ∃ rs vs x4 x5 x6 x7, rs.length = i ∧ (∀ z ∈ rs, z.pa ∈ ps) ∧ H' r = some (.lst vs) ∧ A2 (RwAt H') vs rs ∧ σ' = [some (.int c), some (.ref p), some (.ref q), some (.ref r), x4, x5, x6, x7]) ⟨ai _ hr, ao hN rfl, [], [], none, none, none, none, rfl, (fun _ m => nomatch m), ae, .nil, rfl⟩ ?_ ?_⟩
  · rintro i σ' H' hi ⟨sm, nT, rs, vs, x4, x5, x6, x7, lr, hps, hr', ha, rfl⟩
    have hp' := sm _ _ hp
    have hq' := sm _ _ hq
    walk_at "rd"
    refine ⟨nT, ⟨by walk_at "om", by walk_at "om"⟩, _, .inl (SqL.of hp'), ?_⟩
    walk_at "rd"
    generalize MX c (3 * (0 + (i : Int)) + 1) = y1
    obtain ⟨u, hu, eu⟩ := qA (ps := ps) y1 l1
    refine ⟨by rw [List.length_map]; omega, _, _, .inl (SqL.of hp'), eu, nT, ⟨by walk_at "om", by walk_at "om"⟩, ?_⟩
    walk_at "rd"
    obtain ⟨w1, hw1, ew1⟩ := uY (cu := cu) (MX c (3 * (0 + (i : Int)) + 2) / 7) l3
    have lv := ha.len
    refine ⟨_, _, .inl (SqL.of hq'), ew1, nT, ⟨by walk_at "om", by walk_at "om"⟩, nT, zY _ _, fun am => ?_⟩
    have fin : ∀ (w : List Nat) (m : Int), ((∃ xs, SqL K H' r xs) ∨ ("list" = "tuple" ∧ ∃ o, List.lookup r K = some o ∧ o.cls = Value.type "tuple" ∧ o.dict = none) ∨ "list" = "dict" ∧ ((∃ kvs, H' r = some (HO.dK kvs)) ∨ ∃ kvs, H' r = some (HO.dT kvs)) ∨ "list" = "set" ∧ ∃ S n, H' r = some (HO.set S n)) ∧ 3 ≤ sizeLine ∧ ∀ p, H' p = none → ∃ l xs y, r = l ∧ V.ref p = y ∧ upd H' p (HO.tup [L2.T u, L2.T w, .int m]) l = some (HO.lst xs) ∧ xs.length < sizeLine ∧ Same H (upd (upd H' p (HO.tup [L2.T u, L2.T w, .int m])) l (HO.lst (xs ++ [y]))) ∧ NoT (upd (upd H' p (HO.tup [L2.T u, L2.T w, .int m])) l (HO.lst (xs ++ [y]))) ∧
        ∃ rs vs x4 x5 x6 x7, rs.length = i + 1 ∧ (∀ z ∈ rs, z.pa ∈ ps) ∧ upd (upd H' p (HO.tup [L2.T u, L2.T w, .int m])) l (HO.lst (xs ++ [y])) r = some (HO.lst vs) ∧ A2 (RwAt (upd (upd H' p (HO.tup [L2.T u, L2.T w, .int m])) l (HO.lst (xs ++ [y])))) vs rs ∧ some (V.int (0 + ↑i)) = x4 ∧ some (L2.T u) = x5 ∧ some (L2.T w) = x6 ∧ some (V.int m) = x7 := fun w m =>
      ⟨.inl ⟨_, SqL.of hr'⟩, by walk_at "om", fun t ht => ⟨r, vs, _, rfl, rfl, (al (aj hr' ht)).trans hr', by walk_at "om", cB (sm.trans (ai _ ht)) hr, ao (ao nT rfl) rfl, rs ++ [⟨u, w, m⟩], _, _, _, _, _, by simp [lr], yW hps hu, ae, yV ht hr' ha, rfl, rfl, rfl, rfl⟩⟩
    by_cases h0 : 0 < 0 + (i : Int)
    · refine itp h0 ?_
      by_cases h1 : c / 5 % 3 = 1
      · have hne : vs ≠ [] := fun z => by rw [z] at lv; simp at lv; omega
        have el : atI vs (-1) = some (vs.getLast hne) := by
          have := m8 vs.dropLast (vs.getLast hne)
          rwa [List.dropLast_concat_getLast] at this
        obtain ⟨r0, m0, q0, e0, e1⟩ := ha.mem (List.getLast_mem hne)
        rw [e0] at el
        refine itp h1 ⟨_, _, .inl (SqL.of hr'), el, ?_⟩
        walk_at "rd"
        refine ⟨_, _, .inr (SqT.of e1), bz (j := 2) rfl, ?_⟩
        walk_at "rd"
        refine ⟨_, _, .inl (SqL.of hr'), el, ?_⟩
        walk_at "rd"
        exact ⟨_, _, .inr (SqT.of e1), bz (j := 1) rfl, fin _ _⟩
      · exact itn h1 (fin _ _)
    · exact itn h0 (fin _ _)
  · rintro σ' H' ⟨sm, nT, rs, vs, x4, x5, x6, x7, lr, hps, hr', ha, rfl⟩
    walk_at "rd"
    exact k rs vs r H' (by walk_at "om") hps hr hr' ha sm nT
def sp_xR : Sp := sp4 fun x y z t H Q _ => NoT H ∧ asI x fun c => asI y fun bs => asR z fun p => asR t fun q => ∃ ps cu : List (List Nat), H p = some (.lst (ps.map L2.T)) ∧ H q = some (.lst (cu.map L2.T)) ∧ 0 < ps.length ∧ ps.length ≤ 20 ∧ cu.length = 3 ∧
  ∀ l d (f s : Int) r, l ∈ ps → d ∈ cu → H r = none → Q (.ref r) (upd H r (.tup [L2.T l, L2.T d, .int f, .int s]))
theorem n8 (T : Txt K mg a) : bD P w K mg base (XE P w) 4 a.eC a.iQ ["_law_cell", "_law_base", "_law_paths_here", "_law_currencies_here"] sp_xR := by
  refine T.dA.okG iV (fun vs H Q E h => sp4.len h) (fun cdv A outer s H vs Q E hr h => ?_)
  obtain ⟨x0, x1, x2, x3, rfl, h⟩ := sp4.inv h
  have ND := iV.nd
  have HU : (cG (XE P w) P w K mg base ["_law_cell", "_law_base", "_law_paths_here", "_law_currencies_here", "_law_first_here", "_law_last"] "_law_asked" (ag bE) a.eC cdv A outer s H (gcE H E)).A.units + 100 < cLine := bL hr
  obtain ⟨hN, h1⟩ := h
  obtain ⟨c, rfl, h2⟩ := asI.inv h1
  obtain ⟨bs, rfl, h3⟩ := asI.inv h2
  obtain ⟨p, rfl, h4⟩ := asR.inv h3
  obtain ⟨q, rfl, ps, cu, hp, hq, l1, l2, l3, k⟩ := asR.inv h4
  have sz : 1000 ≤ sizeLine := by rw [sizeLine_eq]; decide
  have G__law_mixed := dW (P := P) (w := w) (base := base) T
  have b__law_mixed := d7 T.aD
  have G__law_day := lR (P := P) (w := w) (base := base) T
  have b__law_day := lF T.dR
  refine ⟨hN, _, (ah (aw (i := 4) ND rfl (Or.inl rfl) (au G__law_day (hr.mono (by decide)) rfl T.i8 T.dR.kp b__law_day .nil aC (FA.pa (aa (aq aO (au G__law_mixed (hr.mono (by decide)) rfl T.aY T.aD.kp b__law_mixed .nil aC (FA.pa (aa (fv 0) (aa ad af)))) ad) (aa (aq aJ (fv 1) (aq aP (aq aO (au G__law_mixed (hr.mono (by decide)) rfl T.aY T.aD.kp b__law_mixed .nil aC (FA.pa (aa (fv 0) (aa ad af)))) ad) ad)) af)))))
      (ah (aw (i := 5) ND rfl (Or.inl rfl) (au G__law_day (hr.mono (by decide)) rfl T.i8 T.dR.kp b__law_day .nil aC (FA.pa (aa (aq aO (au G__law_mixed (hr.mono (by decide)) rfl T.aY T.aD.kp b__law_mixed .nil aC (FA.pa (aa (fv 0) (aa ad af)))) ad) (aa (aq aJ (fv 1) (aq aP (aq aO (au G__law_mixed (hr.mono (by decide)) rfl T.aY T.aD.kp b__law_mixed .nil aC (FA.pa (aa (fv 0) (aa ad af)))) ad) ad)) af)))))
      (ah (bG (bI (cY K HU) (aq aP (fv 0) ad) ad (bn _)) (ah (aw (i := 4) ND rfl (Or.inl rfl) (ig (FA.pa (aa ad (aa (fv 4) (aa (ay (wD rfl) rfl T.zM wO (FA.pa (aa (fv 4) (aa (fv 5) af)))) af)))) (aq aP (aq aO (fv 0) ad) ad) (fun _ _ => rfl)))
      (ak (aw (i := 5) ND rfl (Or.inl rfl) (ig (FA.pa (aa ad (aa (ay (Bl rfl) rfl T.B2 Br (FA.pa (aa (fv 4) (aa (fv 5) af)))) (aa (fv 4) af)))) (aq aP (aq aO (fv 0) ad) ad) (fun _ _ => rfl))))) aQ)
      (ak (aH (dg (FA.pa (aa (aV (az K) (fv 2) (aq aP (aq aO (fv 0) ad) (ay (cy K) rfl T.eQ dh (FA.pa (aa (fv 2) af)))) (fun _ _ => rfl)) (aa (aV (az K) (fv 3) (aq aP (aq aO (au G__law_mixed (hr.mono (by decide)) rfl T.aY T.aD.kp b__law_mixed .nil aC (FA.pa (aa (fv 0) (aa ad af)))) ad) ad) (fun _ _ => rfl)) (aa (fv 4) (aa (fv 5) af))))))))))), ?_⟩
  walk_at "rd"
  obtain ⟨u, hu, eu⟩ := qA (ps := ps) (c / 27) l1
  obtain ⟨w, hw, ew⟩ := uY (cu := cu) (MX c 5 / 7) l3
  have fin : ∀ f s : Int, ∃ xs, (SqL K H p xs ∨ SqT K H p xs) ∧ 0 < (xs.length : Int) ∧ ∃ xs_1 v, (SqL K H p xs_1 ∨ SqT K H p xs_1) ∧ atI xs_1 (c / 27 % xs.length) = some v ∧ NoT H ∧ ∃ xs v_1, (SqL K H q xs ∨ SqT K H q xs) ∧ atI xs (MX c 5 / 7 % 3) = some v_1 ∧ 4 ≤ sizeLine ∧ ∀ p, H p = none → ∃ G, Gc H G (upd H p (.tup [v, v_1, .int f, .int s])) ∧ Q (.ref p) G := fun f s =>
    ⟨_, .inl (SqL.of hp), by rw [List.length_map]; omega, _, _, .inl (SqL.of hp), eu, hN, _, _, .inl (SqL.of hq), ew, by walk_at "om", fun r hr => ⟨_, Gc.one (ai _ hr) hr ae rfl, k u w f s r hu hw hr⟩⟩
  refine ⟨hN, hN, hN, fun i => ⟨hN, hN, hN, fun i2 => ?_⟩⟩
  by_cases h : c % 3 = 1
  · refine itp h ⟨hN, by walk_at "om", fun r1 _ => kL (ns := [0, i, if i2 < i then i2 else i]) (by walk_at "om") (by show _ < (3 : Int); omega) ?_⟩
    generalize List.getD [0, i, if i2 < i then i2 else i] (c / 3 % 3).toNat 0 = f
    refine ⟨hN, ?_⟩
    walk_at "rd"
    refine ⟨by walk_at "om", fun r2 _ => kL (ns := [146096, if i2 > f then i2 else f, f]) (by walk_at "om") (by show _ < (3 : Int); omega) (fin _ _)⟩
  · exact itn h (fin _ _)
end
section
variable {pS : Addr} {ns : List Int} {P : Program} {w : World} {K : PySem.W.Frag} {mg : Str → Option Value} {base : Heap} {a : Adr}
theorem j8 {H : Hp} {n : Nat} {i : Int} : EqH K H n (.int i) (.int i) true := by
  have := EqH.flat (K := K) (H := H) (n := n) (x := .int i) (y := .int i) rfl rfl
  rwa [show eqV (.int i) (.int i) = true from beq_self_eq_true i] at this
theorem BW {H : Hp} {n : Nat} {v v' : V} {e : Int × Int × Int × Int} (h : LnAt H v e) (h' : LnAt H v' e) : EqH K H (n + 1) v v' true := by
  obtain ⟨q, rfl, e1⟩ := h
  obtain ⟨q', rfl, e2⟩ := h'
  by_cases hq : q = q'
  · subst hq; exact .same
  · have := EqH.tup (K := K) (H := H) (n := n) (e := fun _ => true) hq (SqT.of e1) (SqT.of e2) fun j x y gx gy => by
      match j, gx, gy with
      | 0, gx, gy => cases gx; cases gy; exact j8
      | 1, gx, gy => cases gx; cases gy; exact j8
      | 2, gx, gy => cases gx; cases gy; exact j8
      | 3, gx, gy => cases gx; cases gy; exact j8
      | j + 4, gx, gy => simp at gx
    exact this
theorem xk {H : Hp} {n : Nat} {xs ys : List V} {ls : List (Int × Int × Int × Int)} (h : A2 (LnAt H) xs ls) (h' : A2 (LnAt H) ys ls) : ∀ (j : Nat) (x y : V), xs[j]? = some x → ys[j]? = some y → EqH K H (n + 1) x y true := fun j x y gx gy => by
  obtain ⟨e, g1, r1⟩ := h.at_ gx
  obtain ⟨e', g2, r2⟩ := h'.at_ gy
  rw [g1] at g2; cases g2
  exact BW r1 r2
theorem ze {H : Hp} {n : Nat} {p q : Addr} {xs ys : List V} {ls : List (Int × Int × Int × Int)} (hp : H p = some (.lst xs)) (hq : H q = some (.lst ys)) (h : A2 (LnAt H) xs ls) (h' : A2 (LnAt H) ys ls) : EqH K H (n + 2) (.ref p) (.ref q) true := by
  by_cases e : p = q
  · subst e; exact .same
  · have := EqH.lst (K := K) (n := n + 1) (e := fun _ => true) e (SqL.of hp) (SqL.of hq) (h.len.trans h'.len.symm) (xk h h')
    rwa [show (List.range xs.length).all (fun _ => true) = true by simp] at this
theorem Aj {H : Hp} {p q : Addr} {xs ys : List V} {ls : List (Int × Int × Int × Int)} (hp : H p = some (.lst xs)) (hq : H q = some (.lst ys)) (h : A2 (LnAt H) xs ls) (h' : A2 (LnAt H) ys ls) : EqR K H p q true := by
  have := EqR.lst (K := K) (e := fun _ => true) (SqL.of hp) (SqL.of hq) (h.len.trans h'.len.symm) (xk (n := 49) h h')
  rwa [show (List.range xs.length).all (fun _ => true) = true by simp] at this
theorem xp {H : Hp} {p q l m : Addr} {o : Int} {xs ys : List V} {ls : List (Int × Int × Int × Int)} (hp : H p = some (.tup [.int o, .ref l])) (hq : H q = some (.tup [.int o, .ref m])) (hl : H l = some (.lst xs)) (hm : H m = some (.lst ys)) (h : A2 (LnAt H) xs ls) (h' : A2 (LnAt H) ys ls) : EqR K H p q true := by
  have := EqR.tup (K := K) (e := fun _ => true) (SqT.of hp) (SqT.of hq) fun j x y gx gy => by
    match j, gx, gy with
    | 0, gx, gy => cases gx; cases gy; exact j8
    | 1, gx, gy => cases gx; cases gy; exact ze (n := 48) hl hm h h'
    | j + 2, gx, gy => simp at gx
  exact this
def sp_zA (C A J : Addr) : Sp := sp5 fun x y m g h H Q _ => NoT H ∧ asR x fun p => asR y fun j => asR m fun bk => asR g fun gq => asR h fun hd => ∃ d cs b u vs bs ws hs l c f t, CAt C A H p d cs ∧ JAt J H j b u vs ∧ A2 (BkAt H) vs bs ∧ H bk = some (.lst ws) ∧ A2 (MnAt [] H) ws bs ∧ bs.length ≤ 20 ∧ Num bs ∧ (∀ b ∈ bs, ot b) ∧
  H gq = some (.tup [L2.T l, L2.T c, .int f, .int t]) ∧ (fnd cs l).isSome = true ∧ l.length ≤ 200 ∧ H hd = some (.lst hs) ∧ hs.length ≤ 1000 ∧ b ≠ hd ∧ (∀ c ∈ cs, c.bl ≠ hd) ∧
  ∀ e H', (∀ W, LW W H → HdAt W H' (.ref e)) → H' hd = some (.lst (hs ++ [.ref e])) → Keep [hd] H H' → NoT H' → Q (.bl true) H'
theorem jC (T : Txt K mg a) : bD P w K mg base (XE P w) 6 a.dm a.kg ["_law_chart_here", "_law_journal", "_law_booked", "_law_query", "_law_held"] (sp_zA a.bq a.aG a.aF) := by
  refine T.cL.okX jR (fun vs H Q E h => sp5.len h) (fun cdv A outer s H vs Q E hr h => ?_)
  obtain ⟨x0, x1, x2, x3, x4, rfl, h⟩ := sp5.inv h
  have ND := jR.nd
  have HU : (cG (XE P w) P w K mg base ["_law_chart_here", "_law_journal", "_law_booked", "_law_query", "_law_held", "_law_path", "_law_currency", "_law_first_here", "_law_last", "_law_due_here", "_law_found", "_law_line"] "_law_told" (ag bd) a.dm cdv A outer s H E).A.units + 100 < cLine := bL hr
  obtain ⟨hN, h1⟩ := h
  obtain ⟨p, rfl, h2⟩ := asR.inv h1
  obtain ⟨j, rfl, h3⟩ := asR.inv h2
  obtain ⟨bk, rfl, h4⟩ := asR.inv h3
  obtain ⟨gq, rfl, h5⟩ := asR.inv h4
  obtain ⟨hd, rfl, d, cs, b, u, vs, bs, ws, hs, l, c, f, t, JC, JJ, hv, hbk, hw, len, num, ok, hg, hf, ll, hhd, lh, nb, nc, k⟩ := asR.inv h5
  have sz : 1000 ≤ sizeLine := by rw [sizeLine_eq]; decide
  have hk : b4 H (L2.T l) = some "str" := rfl
  have hasl : lT cs (L2.T l) = true := hf
  have G_statement := jM (P := P) (w := w) (base := base) T
  have b_statement := jJ T.dq
  have G__law_whole := oy (P := P) (w := w) (base := base) T
  have b__law_whole := nY T.eE
  have G__law_due := rE (P := P) (w := w) (base := base) T
  have b__law_due := ro T.i_
  have c6 : ∃ u, PSs (cG (XE P w) P w K mg base ["_law_chart_here", "_law_journal", "_law_booked", "_law_query", "_law_held", "_law_path", "_law_currency", "_law_first_here", "_law_last", "_law_due_here", "_law_found", "_law_line"] "_law_told" (ag bd) a.dm cdv A outer s H E) (List.drop 6 (av bd)) u ∧ ∀ q1 l1 ys1 q2 l2 ys2 out x11 H1, out.Perm (MVS l c f t bs) → Ord out → Same H H1 → NoT H1 → H l1 = none → H l2 = none → H q1 = none → l1 ≠ l2 → H1 q1 = some (.tup [.int (OPN l c f bs), .ref l1]) → H1 l1 = some (.lst ys1) → H1 q2 = some (.tup [.int (OPN l c f bs), .ref l2]) → H1 l2 = some (.lst ys2) → A2 (LnAt H1) ys1 (LNS (OPN l c f bs) out) → A2 (LnAt H1) ys2 (LNS (OPN l c f bs) out) →
      u { nx := fun _ H' => Q .non H', rt := Q } [some (.ref p), some (.ref j), some (.ref bk), some (.ref gq), some (.ref hd), some (L2.T l), some (L2.T c), some (.int f), some (.int t), some (.ref q1), some (.ref q2), x11] H1 := by
    refine ⟨_, (ah (bY (cr K PySem.F.plainAttrs_list PySem.F.slot_list_append PySem.F.type_list_append bV (aV (az K) (fv 10) ad (fun _ _ => rfl)) (FA.pa (aa (dg (FA.pa (aa ad (aa ad (aa ad (aa ad af)))))) af))))
      (ah (bY (cr K PySem.F.plainAttrs_list PySem.F.slot_list_append PySem.F.type_list_append bV (fv 4) (FA.pa (aa (cW (FA.pa (aa (aV (az K) (fv 10) ad (fun _ _ => rfl)) (aa (aq xM (aV (az K) (fv 9) ad (fun _ _ => rfl)) (cW (FA.pa (aa (dg (FA.pa (aa ad (aa ad (aa ad (aa ad af)))))) af)))) af)))) af))))
      (ak (aH (eD (cY K HU) (au G_statement (hr.mono (by decide)) rfl T.h8 T.dq.kp b_statement .nil aC (FA.pa (aa (fv 0) (aa (fv 1) (aa (fv 5) (aa (fv 6) (aa (fv 7) (aa (fv 8) af)))))))) (fv 9) (bn _)))))), fun q1 l1 ys1 q2 l2 ys2 out x11 H1 po oo sm nT f1 f2 fq n12 h1 h2 h3 h4 a1 a2 => ?_⟩
    walk_at "rd"
    have hd1 := sm _ _ hhd
    have dl : hd ≠ l2 := aj hhd f2
    have lm : (LNS (OPN l c f bs) out).length ≤ 20 := by rw [md, po.length_eq]; exact Nat.le_trans jN len
    have y1 := a1.len
    have y2 := a2.len
    refine ⟨_, _, .inr (SqT.of h3), bz (j := 1) rfl, .inl ⟨rfl, _, SqL.of h4⟩, by walk_at "om", fun z1 hz1 => ⟨l2, ys2, _, rfl, rfl, (al (aj h4 hz1)).trans h4, by walk_at "om", ?_⟩⟩
    have kp : Keep [l2] H1 (upd (upd H1 z1 (.tup [.int 0, .int 0, .int 0, .int 0])) l2 (.lst (ys2 ++ [.ref z1]))) := (Keep.refl.new hz1).put (.head _)
    have lw := LW.one h4
    have sG : Same H (upd (upd H1 z1 (.tup [.int 0, .int 0, .int 0, .int 0])) l2 (.lst (ys2 ++ [.ref z1]))) := cB (sm.trans (ai _ hz1)) f2
    have nG : NoT (upd (upd H1 z1 (.tup [.int 0, .int 0, .int 0, .int 0])) l2 (.lst (ys2 ++ [.ref z1]))) := ao (ao nT rfl) rfl
    have h4' : upd (upd H1 z1 (.tup [.int 0, .int 0, .int 0, .int 0])) l2 (.lst (ys2 ++ [.ref z1])) l2 = _ := ae
    have a2' : A2 (LnAt (upd (upd H1 z1 (.tup [.int 0, .int 0, .int 0, .int 0])) l2 (.lst (ys2 ++ [.ref z1])))) (ys2 ++ [.ref z1]) (LNS (OPN l c f bs) out ++ [(0, 0, 0, 0)]) := (bC kp lw a2).snoc ⟨z1, rfl, by rw [al (Ne.symm (aj h4 hz1)), ae]⟩
    have a1' := bC kp lw a1
    have h1' := kp _ _ h1 (lw.no h1)
    have h3' := kp _ _ h3 (lw.no h3)
    have h2' := kp _ _ h2 (by simpa using n12)
    have hd' := kp _ _ hd1 (by simpa using dl)
    generalize upd (upd H1 z1 (.tup [.int 0, .int 0, .int 0, .int 0])) l2 (.lst (ys2 ++ [.ref z1])) = G at sG nG h4' a2' a1' h1' h3' h2' hd' ⊢
    clear kp lw
    refine ⟨.inl ⟨_, SqL.of hd'⟩, _, _, .inr (SqT.of h3'), bz (j := 1) rfl, _, _, .inr (SqT.of h1'), bz (j := 1) rfl, by walk_at "om", fun z2 hz2 => ⟨by walk_at "om", fun z3 hz3 => ?_⟩⟩
    walk_at "rd"
    have s1 := ai (HO.tup [V.int 0, V.int 0, V.int 0, V.int 0]) hz2
    have s2 := s1.trans (ai (HO.lst [V.ref z2]) hz3)
    refine ⟨ys1, [.ref z2], s2 _ _ h2', ae, by simp; omega, fun m hm => ⟨by walk_at "om", fun e he => ?_⟩⟩
    have s3 := s2.trans (ai (HO.lst (ys1 ++ [V.ref z2])) hm)
    have s4 := s3.trans (ai (HO.lst [V.ref l2, V.ref m]) he)
    have m0 : H m = none := (sG.trans s2).free hm
    have e0 : H e = none := (sG.trans s3).free he
    have z0 : upd (upd (upd (upd G z2 (HO.tup [V.int 0, V.int 0, V.int 0, V.int 0])) z3 (HO.lst [V.ref z2])) m (HO.lst (ys1 ++ [V.ref z2]))) e (HO.lst [V.ref l2, V.ref m]) z2 = some (.tup [.int 0, .int 0, .int 0, .int 0]) := (ai _ he) _ _ ((ai _ hm) _ _ ((ai _ hz3) _ _ ae))
    have gm : upd (upd (upd (upd G z2 (HO.tup [V.int 0, V.int 0, V.int 0, V.int 0])) z3 (HO.lst [V.ref z2])) m (HO.lst (ys1 ++ [V.ref z2]))) e (HO.lst [V.ref l2, V.ref m]) m = _ := (ai _ he) _ _ ae
    have ge : upd (upd (upd (upd G z2 (HO.tup [V.int 0, V.int 0, V.int 0, V.int 0])) z3 (HO.lst [V.ref z2])) m (HO.lst (ys1 ++ [V.ref z2]))) e (HO.lst [V.ref l2, V.ref m]) e = _ := ae
    have n4 : NoT (upd (upd (upd (upd G z2 (HO.tup [V.int 0, V.int 0, V.int 0, V.int 0])) z3 (HO.lst [V.ref z2])) m (HO.lst (ys1 ++ [V.ref z2]))) e (HO.lst [V.ref l2, V.ref m])) := ao (ao (ao (ao nG rfl) rfl) rfl) rfl
    generalize upd (upd (upd (upd G z2 (HO.tup [V.int 0, V.int 0, V.int 0, V.int 0])) z3 (HO.lst [V.ref z2])) m (HO.lst (ys1 ++ [V.ref z2]))) e (HO.lst [V.ref l2, V.ref m]) = F at s4 z0 gm ge n4 ⊢
    clear s3 s2 s1 hm he hz3 hz2
    have sF := sG.trans s4
    have hF := s4 _ _ hd'
    refine ⟨hd, hs, _, rfl, rfl, hF, by rw [sizeLine_eq]; omega, ao n4 rfl, d, cs, b, u, vs, bs, ?_⟩
    have kp : Keep [hd] H (upd F hd (.lst (hs ++ [.ref e]))) := (Keep.same sF).put (.head _)
    have kF : Keep [hd] F (upd F hd (.lst (hs ++ [.ref e]))) := Keep.refl.put (.head _)
    have lw := LW.one hF
    have a2F := bC kF lw (bC (W := []) (Keep.same s4) LW.nil a2')
    have a1F := bC kF lw (bC (W := []) (Keep.same s4) LW.nil a1')
    have zF := kF _ _ z0 (lw.no z0)
    have no1 : ∀ q o, H q = none → F q = some o → upd F hd (.lst (hs ++ [.ref e])) q = some o := fun q o h g => kF _ _ g (by simpa using Ne.symm (aj hhd h))
    have l1F := no1 _ _ f1 (s4 _ _ h2')
    have q1F := no1 _ _ fq (s4 _ _ h1')
    have l2F := no1 _ _ f2 (s4 _ _ h4')
    have mF := no1 _ _ m0 gm
    have eF := no1 _ _ e0 ge
    have dF : upd F hd (.lst (hs ++ [.ref e])) hd = _ := ae
    clear no1 kF
    generalize upd F hd (.lst (hs ++ [.ref e])) = X at kp a2F a1F zF l1F q1F l2F mF eF dF ⊢
    obtain ⟨dx, hp⟩ := JC.ob
    obtain ⟨dj, hj⟩ := JJ.ob
    have no2 : ∀ {q : Addr} {o : HO}, H q = some o → (∀ xs, o ≠ .lst xs) → q ∉ [hd] := fun h n m => by
      rw [List.mem_singleton.mp m, hhd] at h; cases h; exact n _ rfl
    refine ⟨JC.keep kp (no2 hp (by intro _ z; cases z)) (no2 JC.dc (by intro _ z; cases z)) (fun y my => ⟨by obtain ⟨dy, ho⟩ := (JC.ac y my).ob; exact no2 ho (by intro _ z; cases z), by simpa using nc y my⟩), JJ.keep kp (no2 hj (by intro _ z; cases z)) (by simpa using nb) (no2 JJ.dc (by intro _ z; cases z)), cq kp (LW.one hhd) hv, len, num, ok, itp hasl ⟨ll, ?_⟩⟩
    intro out3 q3 l3 ys3 H3 po3 oo3 _ _ i1 i2 a3 s3 N3
    obtain rfl : out3 = out := mK (po3.trans po.symm) oo3 oo
    have k3 : Keep [] X H3 := Keep.same s3
    walk_at "rd"
    refine ⟨_, xp i1 (s3 _ _ q1F) i2 (s3 _ _ l1F) a3 (bC k3 LW.nil a1F), k e H3 (fun W lW => ?_) (s3 _ _ dF) (fun c z h n => s3 _ _ (kp c z h n)) N3⟩
    exact ⟨e, l2, m, _, _, _, rfl, lW.new e0, lW.new f2, lW.new m0, s3 _ _ eF, s3 _ _ l2F, s3 _ _ mF, bC k3 LW.nil a2F, bC k3 LW.nil (a1F.snoc ⟨z2, rfl, zF⟩)⟩
  obtain ⟨u6, hu6, c6⟩ := c6
  have c3 : ∃ u, PSs (cG (XE P w) P w K mg base ["_law_chart_here", "_law_journal", "_law_booked", "_law_query", "_law_held", "_law_path", "_law_currency", "_law_first_here", "_law_last", "_law_due_here", "_law_found", "_law_line"] "_law_told" (ag bd) a.dm cdv A outer s H E) (List.drop 3 (av bd)) u ∧ ∀ q1 l1 ys1 q2 l2 ys2 out H1, out.Perm (MVS l c f t bs) → Ord out → Same H H1 → NoT H1 → H l1 = none → H l2 = none → H q1 = none → l1 ≠ l2 → H1 q1 = some (.tup [.int (OPN l c f bs), .ref l1]) → H1 l1 = some (.lst ys1) → H1 q2 = some (.tup [.int (OPN l c f bs), .ref l2]) → H1 l2 = some (.lst ys2) → A2 (LnAt H1) ys1 (LNS (OPN l c f bs) out) → A2 (LnAt H1) ys2 (LNS (OPN l c f bs) out) →
      u { nx := fun _ H' => Q .non H', rt := Q } [some (.ref p), some (.ref j), some (.ref bk), some (.ref gq), some (.ref hd), some (L2.T l), some (L2.T c), some (.int f), some (.int t), some (.ref q1), some (.ref q2), none] H1 := by
    refine ⟨_, (ah (bG (L2.PW.pt (oG (cI (cv (ay (b7 K) rfl T.aK aE (FA.pa (aa (fv 10) (aa (dN (v := .ty "tuple") rfl T.pq mJ rfl) af)))))) (oG (bI (mP K HU) (ay (cy K) rfl T.eQ dh (FA.pa (aa (fv 10) af))) ad (bn _)) (oG (cI (cv (au G__law_whole (hr.mono (by decide)) rfl T.j4 T.eE.kp b__law_whole .nil aC (FA.pa (aa (aV (az K) (fv 10) ad (fun _ _ => rfl)) af))))) (pw (cI (cv (ay (b7 K) rfl T.aK aE (FA.pa (aa (aV (az K) (fv 10) ad (fun _ _ => rfl)) (aa (dN (v := .ty "list") rfl T.uk py rfl) af))))))))))) (ak (aH iR)) aQ)
      (ah (bG (bI (mP K HU) (fv 10) (fv 9) (bn _)) (ak (aH iR)) aQ)
      (ah (dU (by passes_own) rfl (d9 K (aV (az K) (fv 10) ad (fun _ _ => rfl))) (aI (i := 11) ND rfl (Or.inl rfl)) (ak (bG (xC (L2.PW.pt (oG (cI (cv (ay (b7 K) rfl T.aK aE (FA.pa (aa (fv 11) (aa (dN (v := .ty "tuple") rfl T.pq mJ rfl) af)))))) (pw (cI (cv (ay (l_ K rfl) rfl T.ul pX (FA.pa (aa (d_ rfl (cl := _) (x := "_law_part") (xs := ["_law_part"]) (fr := []) (ks := []) (by exact ⟨rfl, by decide +kernel, rfl, by decide +kernel, rfl, d8 rfl, rfl, bo rfl, bo (k := fun y => List.lookup y _) rfl, dX rfl⟩) rfl (qN K (fv 11)) (fun _ _ _ _ _ => (aI (i := 0) (hZ (l := ["_law_part"]) (by decide)) rfl (Or.inl rfl))) (fun _ _ _ _ _ => eZ) (fun _ _ _ _ _ => (au G__law_whole (hr.mono (by decide)) rfl T.j4 T.eE.kp b__law_whole .nil xD (FA.pa (aa (fv 0) af))))) af))))))))) (ak (aH iR)) aQ)))
      hu6))), fun q1 l1 ys1 q2 l2 ys2 out H1 po oo sm nT f1 f2 fq n12 h1 h2 h3 h4 a1 a2 => ?_⟩
    have kq : b4 H1 (.ref q2) = some "tuple" := by simp [b4, h3]
    have kl : b4 H1 (.ref l2) = some "list" := by simp [b4, h4]
    walk_at "rd"
    simp only [kq]
    refine itn (by decide) ⟨_, .inr (SqT.of h3), itp rfl ⟨_, _, .inr (SqT.of h3), bz (j := 0) rfl, nT, asK.of (t := "int") rfl (itn (by intro z; cases z) ⟨_, _, .inr (SqT.of h3), bz (j := 1) rfl, ?_⟩)⟩⟩
    rw [kl]
    refine itn (by decide) ⟨_, xp h3 h1 h4 h2 a2 a1, itn (by decide) (gU ?_)⟩
    walk_at "rd"
    refine ⟨_, _, .inr (SqT.of h3), bz (j := 1) rfl, gX (SqL.of h4) (hE (fun i σ' H' => H' = H1 ∧ ∃ x11, σ' = [some (.ref p), some (.ref j), some (.ref bk), some (.ref gq), some (.ref hd), some (L2.T l), some (L2.T c), some (.int f), some (.int t), some (.ref q1), some (.ref q2), x11]) ⟨rfl, none, rfl⟩ (fun i σ' H' _ h => by rw [h.1]; exact SqL.of h4) ?_ ?_)⟩
    · rintro i x σ' H' hx ⟨rfl, x11, rfl⟩
      obtain ⟨e, he, q, rfl, hq⟩ := a2.at_ hx
      have kx : b4 H' (.ref q) = some "tuple" := by simp [b4, hq]
      walk_at "rd"
      simp only [kx]
      refine ⟨nT, itn (by decide) (cmT q [.int e.1, .int e.2.1, .int e.2.2.1, .int e.2.2.2] (fun H2 => NoT H2 ∧ Same H' H2) (fun D ys hD => ⟨ao nT rfl, ai _ hD⟩) (fun H2 c => SqT.of (c.2 _ _ hq)) (fun _ => true) (fun _ => .bl true) (fun R r => r) (SqT.of hq) (by show 4 ≤ sizeLine; omega) (fun x _ H2 R _ r => r) (fun x hx _ H2 R cc r => ?_) (fun D hD => ?_))⟩
      · walk_at "rd"
        simp only [List.mem_cons, List.not_mem_nil, or_false] at hx
        rcases hx with rfl | rfl | rfl | rfl <;> exact ⟨cc.1, asK.of (t := "int") rfl r⟩
      · walk_at "rd"
        exact ⟨[true, true, true, true], SqL.of ae, H', Gc.none (ai _ hD), itn (by decide) ⟨rfl, _, rfl⟩⟩
    · rintro σ' H' ⟨rfl, x11, rfl⟩
      exact c6 q1 l1 ys1 q2 l2 ys2 out x11 H' po oo sm nT f1 f2 fq n12 h1 h2 h3 h4 a1 a2
  obtain ⟨u3, hu3, c3⟩ := c3
  refine ⟨_, (ah (At (fv 3) (gw K (n := 4) rfl (bp (aI (i := 5) ND rfl (Or.inl rfl)) (bp (aI (i := 6) ND rfl (Or.inl rfl)) (bp (aI (i := 7) ND rfl (Or.inl rfl)) (bp (aI (i := 8) ND rfl (Or.inl rfl)) gf))))))
      (ah (aw (i := 9) ND rfl (Or.inl rfl) (au G__law_due (hr.mono (by decide)) rfl T.tP T.i_.kp b__law_due .nil aC (FA.pa (aa (fv 2) (aa (fv 5) (aa (fv 6) (aa (fv 7) (aa (fv 8) af))))))))
      (ah (aw (i := 10) ND rfl (Or.inl rfl) (au G_statement (hr.mono (by decide)) rfl T.h8 T.dq.kp b_statement .nil aC (FA.pa (aa (fv 0) (aa (fv 1) (aa (fv 5) (aa (fv 6) (aa (fv 7) (aa (fv 8) af)))))))))
      hu3))), ?_⟩
  walk_at "rd"
  refine ⟨_, _, rfl, SqT.of hg, rfl, _, _, rfl, _, _, rfl, _, _, rfl, _, _, rfl, rfl, ?_⟩
  walk_at "rd"
  refine ⟨hN, ll, ws, bs, hbk, hw, len, num, ok, ?_⟩
  intro out1 q1 l1 ys1 H1 po1 oo1 f1 g1 h1 h2 a1 s1 N1
  walk_at "rd"
  refine ⟨N1, d, cs, b, u, vs, bs, JC.same s1, JJ.keep (S := []) (Keep.same s1) List.not_mem_nil List.not_mem_nil List.not_mem_nil, cq (W := []) (Keep.same s1) LW.nil hv, len, num, ok, itp hasl ⟨ll, ?_⟩⟩
  intro out2 q2 l2 ys2 H2 po2 oo2 f2 g2 h3 h4 a2 s2 N2
  have e : out2 = out1 := mK (po2.trans po1.symm) oo2 oo1
  subst e
  exact c3 q1 l1 ys1 q2 l2 ys2 out2 H2 po2 oo2 (s1.trans s2) N2 g1 (s1.free g2) f1 (aj h2 g2) (s2 _ _ h1) (s2 _ _ h2) h3 h4 (bC (W := []) (Keep.same s2) LW.nil a1) a2
def sp_xq (C A J : Addr) : Sp := sp4 fun x y l c H Q _ => NoT H ∧ asR x fun p => asR y fun j => asK H l fun _ => asT c fun c => ∃ d cs b u vs bs, CAt C A H p d cs ∧ JAt J H j b u vs ∧ A2 (BkAt H) vs bs ∧ bs.length ≤ 20 ∧ Num bs ∧ (∀ b ∈ bs, ot b) ∧ lT cs l = false ∧ Q (.bl true) H
theorem ja (T : Txt K mg a) : bD P w K mg base (XE P w) 6 a.dL a.eP ["_law_chart_here", "_law_journal", "_law_path", "_law_currency"] (sp_xq a.bq a.aG a.aF) := by
  refine T.cK.okG eN (fun vs H Q E h => sp4.len h) (fun cdv A outer s H vs Q E hr h => ?_)
  obtain ⟨x0, x1, x2, x3, rfl, h⟩ := sp4.inv h
  have ND := eN.nd
  obtain ⟨hN, h1⟩ := h
  obtain ⟨p, rfl, h2⟩ := asR.inv h1
  obtain ⟨j, rfl, h3⟩ := asR.inv h2
  obtain ⟨kk, hk, hb, h4⟩ := asK.inv h3
  obtain ⟨c, rfl, d, cs, b, u, vs, bs, JC, JJ, hv, len, num, ok, no, k⟩ := asT.inv h4
  have G_statement := jM (P := P) (w := w) (base := base) T
  have b_statement := jJ T.dq
  refine ⟨hN, _, (ah (AX (i := 4) ND rfl rfl rfl T.pD rfl rfl rfl (fun pn Ee Ex PX => (ak (bY (au G_statement (hr.mono (by decide)) rfl T.h8 T.dq.kp b_statement .nil PX (FA.pa (aa (fv 0) (aa (fv 1) (aa (fv 2) (aa (fv 3) (aa ad (aa ad af))))))))))) (fun e => (ah (aw (i := 5) ND rfl (Or.inl rfl) (oU (ay (b7 K) rfl T.aK aE (FA.pa (aa (fv 4) (aa (gC (v := .ref a.fc) rfl T.rK rfl) af)))) (oU (ay (b7 K) rfl T.aK aE (FA.pa (aa (fv 4) (aa (gC (v := .ref a.je) rfl T.sW rfl) af)))) (oU (ay (b7 K) rfl T.aK aE (FA.pa (aa (fv 4) (aa (gC (v := .ref a.lf) rfl T.vQ rfl) af)))) (de (ay (b7 K) rfl T.aK aE (FA.pa (aa (fv 4) (aa (gC (v := .ref a.nI) rfl T.xj rfl) af)))))))))
      (ak (aH (dv (ay (b7 K) rfl T.aK aE (FA.pa (aa (fv 4) (aa (gC (v := .ref a.aU) rfl T.ii rfl) af)))) (dv (ay (b7 K) rfl T.aK aE (FA.pa (aa (fv 4) (aa (dN (v := .ty "ValueError") rfl T.pH nN rfl) af)))) (dv (pC (fv 5)) (de (pC (ay (b7 K) rfl T.aK aE (FA.pa (aa (fv 4) (aa (gC (v := .ref a.fJ) rfl T.oY rfl) af))))))))))))))
      (ak (aH iR))), ?_⟩
  generalize hR : A_ (xB (tCB (ui K) (j7 (tB 4) (j7 (tC (V.ref a.aU)) qS))) (xB (tCB (ui K) (j7 (tB 4) (j7 (tC (V.ty "ValueError")) qS))) (xB (zc (tB 5)) (zc (tCB (ui K) (j7 (tB 4) (j7 (tC (V.ref a.fJ)) qS))))))) = R
  walk_at "rd"
  refine ⟨hN, asK.of hk ⟨d, cs, b, u, vs, bs, JC, JJ, hv, len, num, ok, itn (by rw [no]; decide) ⟨_, rfl, T.gk, fun e he => ?_⟩⟩⟩
  refine ⟨_, _, ae, T.cO, T.gO, itn (by decide) ⟨_, _, ae, T.cO, T.ia, itn (by decide) ⟨_, _, ae, T.cO, T.iD, itn (by decide) ⟨_, _, ae, T.cO, T.jl, ?_⟩⟩⟩⟩
  subst hR
  walk_at "rd"
  refine ⟨_, _, ae, T.cO, T.gQ, itp rfl ?_⟩
  simp only [xY]
  refine ⟨e, _, _, rfl, ae, T.cO, T.fX, itp rfl ?_⟩
  exact ⟨_, _, ae, T.cO, T.iF, H, Gc.none (ai _ he), k⟩
def sp_yC (C A J : Addr) : Sp := sp7 fun x y m o g c h H Q _ => NoT H ∧ asR x fun p => asR y fun j => asR m fun bk => asK H o fun _ => asR g fun pp => asT c fun cu => asR h fun hd => ∃ d cs b u vs bs ws hs cc pl, CAt C A H p d cs ∧ CG cs pl ∧ eM cc pl ∧ pl.length ≤ 10 ∧ H pp = some (.lst (pl.map L2.T)) ∧
  JAt J H j b u vs ∧ A2 (BkAt H) vs bs ∧ H bk = some (.lst ws) ∧ A2 (MnAt (hd :: d :: cs.map (·.bl)) H) ws bs ∧ bs.length ≤ 20 ∧ Num bs ∧ (∀ b ∈ bs, ot b) ∧ H hd = some (.lst hs) ∧ hs.length ≤ 1000 ∧ b ∉ hd :: d :: cs.map (·.bl) ∧ bk ∉ hd :: d :: cs.map (·.bl) ∧ hd ∉ cs.map (·.bl) ∧ u ≠ d ∧ lT cs o = false ∧
  ∀ cs' l e H', CAt C A H' p d cs' → (∀ z ∈ cs', z.bl ∈ cs.map (·.bl) ∨ H z.bl = none) → cs'.map (·.pa) = pl ++ [l] → (∀ W, LW W H → HdAt W H' (.ref e)) → H' hd = some (.lst (hs ++ [.ref e])) → Keep (hd :: d :: cs.map (·.bl)) H H' → NoT H' → Q (.bl true) H'
theorem jm (T : Txt K mg a) : bD P w K mg base (XE P w) 8 a.dD a.eO ["_law_chart_here", "_law_journal", "_law_booked", "_law_odd", "_law_paths_here", "_law_currency", "_law_held"] (sp_yC a.bq a.aG a.aF) := by
  refine T.dw.okX eV (fun vs H Q E h => sp7.len h) (fun cdv A outer s H vs Q E hr h => ?_)
  obtain ⟨x0, x1, x2, x3, x4, x5, x6, rfl, h⟩ := sp7.inv h
  have ND := eV.nd
  obtain ⟨hN, h1⟩ := h
  obtain ⟨p, rfl, h2⟩ := asR.inv h1
  obtain ⟨j, rfl, h3⟩ := asR.inv h2
  obtain ⟨bk, rfl, h4⟩ := asR.inv h3
  obtain ⟨kk, hk, hb, h5⟩ := asK.inv h4
  obtain ⟨pp, rfl, h6⟩ := asR.inv h5
  obtain ⟨cu, rfl, h7⟩ := asT.inv h6
  obtain ⟨hd, rfl, d, cs, b, u, vs, bs, ws, hs, cc, pl, JC, cg, hP, lp, hpp, JJ, hv, hbk, hw, len, num, ok, hhd, lh, nb, nbk, nhd, nu, no, k⟩ := asR.inv h7
  have sz : 1000 ≤ sizeLine := by rw [sizeLine_eq]; decide
  have G__law_told := jC (P := P) (w := w) (base := base) T
  have b__law_told := jZ T.cL
  have G_Chart_add := j_ (P := P) (w := w) (base := base) T
  have b_Chart_add := jA T.gT
  have G__law_no_account := ja (P := P) (w := w) (base := base) T
  have b__law_no_account := jo T.cK
  refine ⟨_, (ah (aw (i := 7) ND rfl (Or.inl rfl) (aq aJ (aV (az K) (fv 4) ad (fun _ _ => rfl)) (aL [58, 122, 108, 97, 116, 101, 122])))
      (ah (bG (cI (cv (au G__law_no_account (hr.mono (by decide)) rfl T.fB T.cK.kp b__law_no_account .nil aC (FA.pa (aa (fv 0) (aa (fv 1) (aa (fv 3) (aa (fv 5) af)))))))) (ak (aH iR)) aQ)
      (ah (bG (cI (cv (au G__law_no_account (hr.mono (by decide)) rfl T.fB T.cK.kp b__law_no_account .nil aC (FA.pa (aa (fv 0) (aa (fv 1) (aa (fv 7) (aa (fv 5) af)))))))) (ak (aH iR)) aQ)
      (ah (bY (dC (fv 0) T.cn T.jF G_Chart_add (hr.mono (by decide)) b_Chart_add .nil aC (FA.pa (aa (fv 7) (aa i6 (aa ad af))))))
      (ak (aH (au G__law_told (hr.mono (by decide)) rfl T.fj T.cL.kp b__law_told .nil aC (FA.pa (aa (fv 0) (aa (fv 1) (aa (fv 2) (aa (dg (FA.pa (aa (fv 7) (aa (fv 5) (aa ad (aa ad af)))))) (aa (fv 6) af))))))))))))), ?_⟩
  walk_at "rd"
  have hl := eM.fresh cc
  have hn := hP.none_.2.2.1 (nms cc 0)
  have hm := hP.head
  have l0 := (gh (c := cc) (k := 0)).2.1
  refine ⟨_, _, .inl (SqL.of hpp), bz (j := 0) (v := L2.T (nms cc 0)) (by rw [List.getElem?_map, hm]; rfl), ?_⟩
  walk_at "rd"
  have el : nms cc 0 ++ [58, 122, 108, 97, 116, 101, 122] = nms cc 0 ++ 58 :: dk := rfl
  rw [el]
  have nf : fnd cs (nms cc 0 ++ 58 :: dk) = none := cg.none_ hn
  have nh : lT cs (L2.T (nms cc 0 ++ 58 :: dk)) = false := by
    show (fnd cs (nms cc 0 ++ 58 :: dk)).isSome = false
    rw [nf]; rfl
  generalize hfr : nms cc 0 ++ 58 :: dk = fr at hl hn nf nh ⊢
  refine ⟨by walk_at "om", hN, asK.of hk ⟨d, cs, b, u, vs, bs, JC, JJ, hv, len, num, ok, no, ?_⟩⟩
  walk_at "rd"
  obtain ⟨dx, hp⟩ := JC.ob
  obtain ⟨dj, hj⟩ := JJ.ob
  obtain ⟨uu, hu, pu⟩ : ∃ c ∈ cs, c.pa = nms cc 0 := by
    have : nms cc 0 ∈ cs.map (·.pa) := by rw [cg.pa]; exact List.mem_of_getElem? hm
    exact List.mem_map.mp this
  have su := cg.st uu hu
  have lc : cs.length ≤ 10 := by rw [← List.length_map (f := (·.pa)), cg.pa]; exact lp
  refine ⟨hN, d, cs, b, u, vs, bs, JC, JJ, hv, len, num, ok, nh, _, _, hp, yf _, hN, ⟨hl.lo, by have := hl.len; omega⟩, nms cc 0, dk, d, cs, uu, hfr.symm, by decide, hl.pn, JC, by walk_at "om", fun y m => by have := (cg.st y m).2.2; omega, nf, hu, pu, su.1, su.2.1, fun z H1 e1 e2 e3 e4 o1 o2 J3 K3 N3 => ?_⟩
  walk_at "rd"
  have lwS : LW (d :: cs.map (·.bl)) H := fun s m => by
    rcases List.mem_cons.mp m with rfl | m
    · exact ⟨_, JC.dc, by intro _ z; cases z⟩
    · obtain ⟨y, my, rfl⟩ := List.mem_map.mp m
      exact ⟨_, (JC.ac y my).ls, by intro _ z; cases z⟩
  have no2 : ∀ {q : Addr} {o : HO}, H q = some o → (∀ xs, o ≠ .lst xs) → q ≠ d → q ∉ d :: cs.map (·.bl) := fun h n nd m => by
    rcases List.mem_cons.mp m with rfl | m
    · exact nd rfl
    · obtain ⟨y, my, rfl⟩ := List.mem_map.mp m
      rw [(JC.ac y my).ls] at h; cases h; exact n _ rfl
  have hdS : hd ∉ d :: cs.map (·.bl) := fun m => by
    rcases List.mem_cons.mp m with rfl | m
    · rw [JC.dc] at hhd; cases hhd
    · exact nhd m
  have sub : ∀ c ∈ d :: cs.map (·.bl), c ∈ hd :: d :: cs.map (·.bl) := fun c m => .tail _ m
  have JJ1 := JJ.keep K3 (no2 hj (by intro _ z; cases z) (dI hj JC.dc (by intro z; cases z))) (fun m => nb (sub _ m)) (no2 JJ.dc (by intro _ z; cases z) nu)
  have hv1 := cq K3 lwS hv
  have hbk1 := K3 _ _ hbk fun m => nbk (sub _ m)
  have hw1 := mf (cM K3 lwS (hw.imp fun _ _ _ _ r => r.mono sub))
  have hd1 := K3 _ _ hhd hdS
  have fz : (fnd (i5 cs (nms cc 0) (grw fr) ++ [z]) fr).isSome = true := by
    have := qw J3.np (c := z) (List.mem_append_right _ (.head _))
    rw [e1] at this
    rw [this]; rfl
  have bl' : ∀ y ∈ i5 cs (nms cc 0) (grw fr) ++ [z], y.bl ∈ cs.map (·.bl) ∨ H y.bl = none := fun y m => by
    rcases List.mem_append.mp m with m | m
    · obtain ⟨w, mw, rfl⟩ := g7 m
      have : (if w.pa = nms cc 0 then grw fr w else w).bl = w.bl := by split <;> rfl
      rw [this]; exact .inl (List.mem_map_of_mem mw)
    · rw [List.mem_singleton.mp m]; exact .inr o2
  refine ⟨by walk_at "om", fun g hg => ⟨ao N3 rfl, d, _, b, u, vs, bs, ws, hs, fr, cu, 0, 146096, J3.same (ai _ hg), JJ1.keep (S := []) (Keep.same (ai _ hg)) List.not_mem_nil List.not_mem_nil List.not_mem_nil, cq (W := []) (Keep.same (ai _ hg)) LW.nil hv1, (ai _ hg) _ _ hbk1, cM (Keep.same (ai _ hg)) LW.nil hw1, len, num, ok, ae, fz, by have := hl.len; omega, (ai _ hg) _ _ hd1, lh, fun q => nb (by rw [q]; exact .head _), fun y m q => ?_, ?_⟩⟩
  · rcases bl' y m with m | m
    · exact nhd (by rw [← q]; exact m)
    · rw [q, hhd] at m; cases m
  · intro e H3 h3 h4 k4 N4
    have kp : Keep (hd :: d :: cs.map (·.bl)) H H3 := fun c o h n => k4 _ _ ((ai _ hg) _ _ (K3 c o h fun m => n (sub _ m))) fun m => n (by rw [List.mem_singleton.mp m]; exact .head _)
    have nbl : ∀ y ∈ i5 cs (nms cc 0) (grw fr) ++ [z], y.bl ∉ [hd] := fun y m q => by
      rcases bl' y m with m | m
      · exact nhd (by rw [← List.mem_singleton.mp q]; exact m)
      · rw [List.mem_singleton.mp q, hhd] at m; cases m
    refine k _ fr e H3 (J3.keep (S := [hd]) (fun c o h n => k4 _ _ ((ai _ hg) _ _ h) n) (by simpa using dI hp hhd (by intro z; cases z)) (by simpa using fun q : d = hd => hdS (by rw [q]; exact .head _)) fun y m => ⟨?_, nbl y m⟩) bl' (cg.ext (v := nms cc 0) e1 e2 e3 e4).pa (fun W lW => h3 W fun s m => ?_) h4 kp N4
    · obtain ⟨dy, ho⟩ := (J3.ac y m).ob
      simpa using dI ho hd1 (by intro z; cases z)
    · obtain ⟨o, ho, no'⟩ := lW s m
      by_cases ms : s ∈ d :: cs.map (·.bl)
      · rcases List.mem_cons.mp ms with rfl | ms
        · exact ⟨_, (ai _ hg) _ _ J3.dc, by intro _ z; cases z⟩
        · obtain ⟨y, my, rfl⟩ := List.mem_map.mp ms
          have my2 : (if y.pa = nms cc 0 then grw fr y else y) ∈ i5 cs (nms cc 0) (grw fr) ++ [z] := List.mem_append_left _ (List.mem_map.mpr ⟨y, my, rfl⟩)
          have := (J3.ac _ my2).ls
          rw [show (if y.pa = nms cc 0 then grw fr y else y).bl = y.bl by split <;> rfl] at this
          exact ⟨_, (ai _ hg) _ _ this, by intro _ z; cases z⟩
      · exact ⟨o, (ai _ hg) _ _ (K3 _ _ ho ms), no'⟩
end
section
variable {pS : Addr} {ns : List Int} {P : Program} {w : World} {K : PySem.W.Frag} {mg : Str → Option Value} {base : Heap} {a : Adr}
structure BS (J : Addr) (H0 H : Hp) (hd : Addr) (cb : List Addr) (pj b u mm : Addr) (vs ms : List V) (bs : List Bk) : Prop where
  jr : JAt J H pj b u vs
  jv : A2 (BkAt H) vs bs
  ml : H mm = some (.lst ms)
  mw : A2 (MnAt (hd :: cb) H) ms bs
  fb : H0 b = none
  fu : H0 u = none
  fm : H0 mm = none
  nb : b ≠ hd
  nm : mm ≠ hd
  ln : bs.length ≤ 20
  nu : Num bs
  ok : ∀ b ∈ bs, ot b
theorem BS.same {J : Addr} {H0 H H' : Hp} {hd : Addr} {cb : List Addr} {pj b u mm : Addr} {vs ms : List V} {bs : List Bk} (B : BS J H0 H hd cb pj b u mm vs ms bs) (s : Same H H') {pj' b' u' bk : Addr} {vs' ws hs : List V} {bs' : List Bk} (L : LS J H0 H pj' b' u' bk hd cb vs' ws hs bs') : BS J H0 H' hd cb pj b u mm vs ms bs := by
  have lw : LW (hd :: cb) H := L.lw.mono fun c m => by
    rcases List.mem_cons.mp m with rfl | m
    · exact .head _
    · exact .tail _ (.tail _ (.tail _ m))
  exact ⟨B.jr.keep (S := []) (Keep.same s) List.not_mem_nil List.not_mem_nil List.not_mem_nil, cq (Keep.same s) lw B.jv, s _ _ B.ml, cM (Keep.same s) lw B.mw, B.fb, B.fu, B.fm, B.nb, B.nm, B.ln, B.nu, B.ok⟩
theorem qR {α β γ : Type} {f : α → β → γ} : ∀ {xs : List α} {ys : List β} {z : γ}, z ∈ xs.zipWith f ys → ∃ x y, y ∈ ys ∧ z = f x y
  | [], _, _, h => by simp at h
  | x :: xs, [], _, h => by simp at h
  | x :: xs, y :: ys, z, h => by
    rw [List.zipWith_cons_cons] at h
    rcases List.mem_cons.mp h with rfl | h
    · exact ⟨x, y, .head _, rfl⟩
    · obtain ⟨a, b, m, e⟩ := qR h
      exact ⟨a, b, .tail _ m, e⟩
theorem B8 {bs : List Bk} (h : ∀ b ∈ bs, ot b) : ∀ b ∈ rn bs, ot b := fun b m => by
  obtain ⟨i, x, mx, rfl⟩ := qR m
  exact h x mx
theorem eI {xs : List V} {H H1 : Hp} {Q : VK} {i : Int} {v : V} (h : atI xs i = some v) (f : dP v = true) (q : Q v H) : gR xs H H1 Q (.int i) := by
  unfold gR
  simp only [h]
  cases v <;> first | exact q | cases f
theorem wH (x y : V) : List.lookup (Str.ofString "put") [(Str.ofString "bookings", x), (Str.ofString "undoings", y)] = none := by rw [bB (by decide +kernel), bB (by decide +kernel)]; rfl
def sp_qg (K : PySem.W.Frag) : Sp := sp1 fun x H Q _ => asR x fun p => NoT H ∧ ∃ ns : List Int, SqL K H p (ns.map V.int) ∧ ns.length ≤ 63 ∧ Q (.bl true) H
set_option maxHeartbeats 4000000 in
theorem Aw (T : Txt K mg a) : bD P w K mg base (XE P w) 14 a.lO a.xE ["_law_script"] (sp_qg K) := by
  refine T.Ct.okG wx (fun vs H Q E h => sp1.len h) (fun cdv A outer s H vs Q E hr h => ?_)
  obtain ⟨x0, rfl, h⟩ := sp1.inv h
  have ND := wx.nd
  have HU : (cG (XE P w) P w K mg base ["_law_script", "_law_base", "_law_paths_here", "_law_currencies_here", "_law_chart_here", "_law_journal", "_law_booked", "_law_held", "_law_k", "_law_rows_here", "_law_day_here", "_law_handed", "_law_one", "_law_other", "_law_query", "_law_back", "_law_number", "_law_mine", "_law_odd"] "law" (ag dQ) a.lO cdv A outer s H (gcE H E)).A.units + 100 < cLine := bL hr
  obtain ⟨pS, rfl, hN, ns, hS, hl, k⟩ := asR.inv h
  have G__law_told := jC (P := P) (w := w) (base := base) T
  have b__law_told := jZ T.cL
  have G__law_comes_then := jm (P := P) (w := w) (base := base) T
  have b__law_comes_then := jc T.dw
  have G__law_cell_at := gJ (P := P) (w := w) (base := base) T (pS := pS) (ns := ns)
  have b__law_cell_at := gL T.bg
  have G__law_asked := n8 (P := P) (w := w) (base := base) T
  have b__law_asked := on T.dA
  have G_Journal_put := mQ (P := P) (w := w) (base := base) T
  have b_Journal_put := nr T.iI
  have G_Journal___init__ := iC (P := P) (w := w) (base := base) T
  have b_Journal___init__ := iH T.eR
  have G__law_mixed := dW (P := P) (w := w) (base := base) T
  have b__law_mixed := d7 T.aD
  have G__law_day := lR (P := P) (w := w) (base := base) T
  have b__law_day := lF T.dR
  have G__law_rows := qL (P := P) (w := w) (base := base) T
  have b__law_rows := qC T.im
  have G__law_chart := nZ (P := P) (w := w) (base := base) T
  have b__law_chart := nO T.gA
  have G__law_currencies := jj (P := P) (w := w) (base := base) T
  have b__law_currencies := jk T.dt
  have G__law_paths := nM (P := P) (w := w) (base := base) T (pS := pS) (ns := ns)
  have b__law_paths := nR T.gn
  have sz : 1000 ≤ sizeLine := by rw [sizeLine_eq]; decide
  have c13 : ∃ u, PSs (cG (XE P w) P w K mg base ["_law_script", "_law_base", "_law_paths_here", "_law_currencies_here", "_law_chart_here", "_law_journal", "_law_booked", "_law_held", "_law_k", "_law_rows_here", "_law_day_here", "_law_handed", "_law_one", "_law_other", "_law_query", "_law_back", "_law_number", "_law_mine", "_law_odd"] "law" (ag dQ) a.lO cdv A outer s H (gcE H E)) (List.drop 13 (av dQ)) u ∧ ∀ (cu : List (List Nat)) H0 H1 pp cp pc d cs cc ps pj b u' bk hd vs ws hs bs pj2 b2 u2 vs2 bs2 mm ms g l c f t x1 x8 x9 x10 x11 x12 x13 x16 odd kk,
      Same H H0 → LS a.aF H0 H1 pj b u' bk hd (d :: cs.map (·.bl)) vs ws hs bs → bs.length ≤ 10 → hs.length ≤ 500 → CAt a.bq a.aG H0 pc d cs → CG cs ps → eM cc ps → ps.length ≤ 10 → H0 pp = some (.lst (ps.map L2.T)) → H0 cp = some (.lst (cu.map L2.T)) → cu.length = 3 → H d = none → (∀ z ∈ cs, H z.bl = none) →
      BS a.aF H0 H1 hd (d :: cs.map (·.bl)) pj2 b2 u2 mm vs2 ms bs2 → H1 g = some (.tup [L2.T l, L2.T c, .int f, .int t]) → l ∈ ps → b4 H1 odd = some kk → lT cs odd = false →
      u { nx := fun _ H' => ∃ G, Gc H G H' ∧ Q .non G, rt := fun v H' => ∃ G, Gc H G H' ∧ Q v G } [some (.ref pS), x1, some (.ref pp), some (.ref cp), some (.ref pc), some (.ref pj), some (.ref bk), some (.ref hd), x8, x9, x10, x11, x12, x13, some (.ref g), some (.ref pj2), x16, some (.ref mm), some odd] H1 := by
    refine ⟨_, (ah (bG (cI (cv (au G__law_comes_then (hr.mono (by decide)) rfl T.jK T.dw.kp b__law_comes_then .nil aC (FA.pa (aa (fv 4) (aa (fv 5) (aa (fv 6) (aa (fv 18) (aa (fv 2) (aa (aV (az K) (fv 3) ad (fun _ _ => rfl)) (aa (fv 7) af))))))))))) (ak (aH iR)) aQ)
      (ah (bG (L2.PW.pt (oG (cI (cv (au G__law_told (hr.mono (by decide)) rfl T.fj T.cL.kp b__law_told .nil aC (FA.pa (aa (fv 4) (aa (fv 15) (aa (fv 17) (aa (fv 14) (aa (fv 7) af))))))))) (pw (cI (cv (au G__law_told (hr.mono (by decide)) rfl T.fj T.cL.kp b__law_told .nil aC (FA.pa (aa (fv 4) (aa (fv 5) (aa (fv 6) (aa (fv 14) (aa (fv 7) af)))))))))))) (ak (aH iR)) aQ)
      (ak (aH (ay (l_ K rfl) rfl T.ul pX (FA.pa (aa (d_ rfl (cl := _) (x := "_law_pair") (xs := ["_law_pair"]) (fr := []) (ks := []) (by exact ⟨rfl, by decide +kernel, rfl, by decide +kernel, rfl, d8 rfl, rfl, bo rfl, bo (k := fun y => List.lookup y _) rfl, dX rfl⟩) rfl (d9 K (fv 7)) (fun _ _ _ _ _ => (aI (i := 0) (hZ (l := ["_law_pair"]) (by decide)) rfl (Or.inl rfl))) (fun _ _ _ _ _ => eZ) (fun _ _ _ _ _ => (eD (cY K HU) (aV (az K) (fv 0) ad (fun _ _ => rfl)) (aV (az K) (fv 0) ad (fun _ _ => rfl)) (bn _)))) af))))))), fun cu H0 H1 pp cp pc d cs cc ps pj b u' bk hd vs ws hs bs pj2 b2 u2 vs2 bs2 mm ms g l c f t x1 x8 x9 x10 x11 x12 x13 x16 odd kk s0 L lb lh JC cg hP lp hpp hcp lc fd fbl B hg hl' hko hno => ?_⟩
    obtain ⟨k0, k1, k2', rfl⟩ := ex3 lc
    walk_at "rd"
    have JC1 := JC.same L.sm
    have new := fun {q : Addr} (h : H0 q = none) => L.cl.new h
    have nhd : hd ∉ cs.map (·.bl) := fun m => new L.f1 (.tail _ m)
    have ins : ∀ {q C' dx : Addr} {fs : List (Str × V)}, H1 q = some (.ins C' dx fs) → q ∉ hd :: d :: cs.map (·.bl) := fun h m => by
      rcases List.mem_cons.mp m with rfl | m
      · rw [L.hl] at h; cases h
      · rcases List.mem_cons.mp m with rfl | m
        · rw [JC1.dc] at h; cases h
        · obtain ⟨y, my, rfl⟩ := List.mem_map.mp m
          rw [(JC1.ac y my).ls] at h; cases h
    have out : ∀ {q : Addr}, q ≠ hd → H0 q = none → q ∉ hd :: d :: cs.map (·.bl) := fun n h m => by
      rcases List.mem_cons.mp m with m | m
      · exact n m
      · exact new h m
    have sub : ∀ c ∈ hd :: d :: cs.map (·.bl), c ∈ hd :: bk :: b :: d :: cs.map (·.bl) := fun c m => by
      rcases List.mem_cons.mp m with rfl | m
      · exact .head _
      · exact .tail _ (.tail _ (.tail _ m))
    have lwS := L.lw.mono sub
    have nb := out (Ne.symm L.n2) L.f3
    have nbk := out (Ne.symm L.n1) L.f2
    refine ⟨_, _, .inl (SqL.of (L.sm _ _ hcp)), bz (j := 0) rfl, L.nT, asK.of hko ?_⟩
    walk_at "rd"
    refine ⟨d, cs, b, u', vs, bs, ws, hs, cc, ps, JC1, cg, hP, lp, L.sm _ _ hpp, L.jr, L.jv, L.bl, L.bw.imp fun _ _ _ _ r => r.mono sub, by walk_at "om", L.nm, L.ok, L.hl, by walk_at "om", nb, nbk, nhd, fun q => new L.fu (by rw [q]; exact .head _), hno, fun cs2 l2 e2 H2 J2 bl2 p2 h2 d2 k2 N2 => ?_⟩
    walk_at "rd"
    obtain ⟨dj, hj⟩ := L.jr.ob
    obtain ⟨dj2, hj2⟩ := B.jr.ob
    have u2d : u2 ≠ hd := dI B.jr.dc L.hl (by intro z; cases z)
    have nbl : ∀ y ∈ cs2, y.bl ≠ hd := fun y m q => by
      rcases bl2 y m with m | m
      · exact nhd (by rw [← q]; exact m)
      · rw [q, L.hl] at m; cases m
    have fz : (fnd cs2 l).isSome = true := by
      have : l ∈ cs2.map (·.pa) := by rw [p2]; exact List.mem_append_left _ hl'
      obtain ⟨y, my, rfl⟩ := List.mem_map.mp this
      rw [qw J2.np my]; rfl
    have ll : l.length ≤ 200 := by have := (hP.ok l hl').len; omega
    have g2 := k2 _ _ hg (lwS.no hg)
    have jr2 := L.jr.keep k2 (ins hj) nb (out L.ob.2.1 L.fu)
    have jv2 := cq k2 lwS L.jv
    have bk2 := k2 _ _ L.bl nbk
    have bw2 := cM k2 lwS (L.bw.imp fun _ _ _ _ r => r.mono sub)
    refine ⟨N2, d, cs2, b2, u2, vs2, bs2, ms, _, l, c, f, t, J2, B.jr.keep k2 (ins hj2) (out B.nb B.fb) (out u2d B.fu), cq k2 lwS B.jv, k2 _ _ B.ml (out B.nm B.fm), mf (cM k2 lwS B.mw), B.ln, B.nu, B.ok, g2, fz, ll, d2, by simp; omega, B.nb, nbl, fun e3 H3 h3 d3 k3 N3 => ?_⟩
    walk_at "rd"
    have lw2 := LW.one d2
    have nh : ∀ {q : Addr} {o : HO}, H2 q = some o → (∀ xs, o ≠ .lst xs) → q ∉ [hd] := fun h n m => by
      rw [List.mem_singleton.mp m, d2] at h; cases h; exact n _ rfl
    obtain ⟨dc2, hc2⟩ := J2.ob
    obtain ⟨dj3, hj3⟩ := jr2.ob
    have J3 := J2.keep k3 (nh hc2 (by intro _ z; cases z)) (nh J2.dc (by intro _ z; cases z)) fun y my => ⟨by obtain ⟨dy, ho⟩ := (J2.ac y my).ob; exact nh ho (by intro _ z; cases z), by simpa using nbl y my⟩
    refine ⟨N3, d, cs2, b, u', vs, bs, ws, _, l, c, f, t, J3, jr2.keep k3 (nh hj3 (by intro _ z; cases z)) (by simpa using Ne.symm L.n2) (nh jr2.dc (by intro _ z; cases z)), cq k3 lw2 jv2, k3 _ _ bk2 (by simpa using Ne.symm L.n1), mf (cM k3 lw2 (bw2.imp fun _ _ _ _ r => r.mono fun c m => by rw [List.mem_singleton.mp m]; exact .head _)), by walk_at "om", L.nm, L.ok, k3 _ _ g2 (lw2.no g2), fz, ll, d3, by simp; omega, Ne.symm L.n2, nbl, fun e4 H4 h4 d4 k4 N4 => ?_⟩
    walk_at "rd"
    have lw3 := LW.one d3
    have one : ∀ c ∈ [hd], c ∈ hd :: d :: cs.map (·.bl) := fun c m => by rw [List.mem_singleton.mp m]; exact .head _
    have s4 : Same H H4 := by
      have s2 : Same H H2 := Keep.toSame (s0.trans L.sm) k2 fun c m => by
        rcases List.mem_cons.mp m with rfl | m
        · exact Same.frees s0 L.f1
        · rcases List.mem_cons.mp m with rfl | m
          · exact fd
          · obtain ⟨y, my, rfl⟩ := List.mem_map.mp m
            exact fbl y my
      have fh : ∀ c ∈ [hd], H c = none := fun c m => by rw [List.mem_singleton.mp m]; exact Same.frees s0 L.f1
      exact Keep.toSame (Keep.toSame s2 k3 fh) k4 fh
    have hh : ∀ v ∈ hs ++ [.ref e2] ++ [.ref e3] ++ [.ref e4], HdAt [hd] H4 v := fun v m => by
      rcases List.mem_append.mp m with m | m
      · refine HdAt.keep k4 lw3 ?_
        rcases List.mem_append.mp m with m | m
        · refine HdAt.keep k3 lw2 ?_
          rcases List.mem_append.mp m with m | m
          · exact (HdAt.keep k2 lwS ((L.hh v m).mono sub)).mono one
          · rw [List.mem_singleton.mp m]; exact h2 _ (LW.one L.hl)
        · rw [List.mem_singleton.mp m]; exact h3 _ lw2
      · rw [List.mem_singleton.mp m]; exact h4 _ lw3
    have lz : (hs ++ [V.ref e2] ++ [V.ref e3] ++ [V.ref e4]).length ≤ 1000 := by simp; omega
    generalize hs ++ [V.ref e2] ++ [V.ref e3] ++ [V.ref e4] = zs at hh d4 lz
    refine cmL hd zs (fun H5 => Same H4 H5) (fun D ys hD => ai _ hD) (fun H5 c => SqL.of (c _ _ d4)) (fun _ => true) (fun _ => .bl true) (fun R r => r) (SqL.of d4) (by walk_at "om") (fun x _ H5 R _ r => r) (fun x hx _ H5 R cc' r => ?_) (fun D hD => ?_)
    · obtain ⟨q, c1, d1, xs, ys, ls, rfl, _, _, _, i1, i2, i3, r1, r2⟩ := hh x hx
      walk_at "rd"
      refine ⟨_, _, .inl (SqL.of (cc' _ _ i1)), bz (j := 0) rfl, _, _, .inl (SqL.of (cc' _ _ i1)), bz (j := 1) rfl, ?_⟩
      walk_at "rd"
      exact ⟨_, Aj (cc' _ _ i2) (cc' _ _ i3) (bC (W := []) (Keep.same cc') LW.nil r1) (bC (W := []) (Keep.same cc') LW.nil r2), r⟩
    · walk_at "rd"
      refine ⟨zs.map fun _ => true, SqL.of (by rw [ae, List.filter_eq_self.mpr (by simp), List.map_map]; rfl), H, Gc.none (s4.trans (ai _ hD)), ?_⟩
      rw [show (zs.map fun _ => true).all id = true by simp]; exact k
  obtain ⟨u13, hu13, c13⟩ := c13
  have c11 : ∃ u, PSs (cG (XE P w) P w K mg base ["_law_script", "_law_base", "_law_paths_here", "_law_currencies_here", "_law_chart_here", "_law_journal", "_law_booked", "_law_held", "_law_k", "_law_rows_here", "_law_day_here", "_law_handed", "_law_one", "_law_other", "_law_query", "_law_back", "_law_number", "_law_mine", "_law_odd"] "law" (ag dQ) a.lO cdv A outer s H (gcE H E)) (List.drop 11 (av dQ)) u ∧ ∀ (cu : List (List Nat)) H0 H1 pp cp pc d cs cc ps pj b u' bk hd vs ws hs bs pj2 b2 u2 vs2 bs2 mm ms (x1 : Int) x8 x9 x10 x11 x12 x13 x14 x16,
      Same H H0 → LS a.aF H0 H1 pj b u' bk hd (d :: cs.map (·.bl)) vs ws hs bs → bs.length ≤ 10 → hs.length ≤ 500 → CAt a.bq a.aG H0 pc d cs → CG cs ps → eM cc ps → ps.length ≤ 10 → H0 pp = some (.lst (ps.map L2.T)) → H0 cp = some (.lst (cu.map L2.T)) → cu.length = 3 → H d = none → (∀ z ∈ cs, H z.bl = none) →
      BS a.aF H0 H1 hd (d :: cs.map (·.bl)) pj2 b2 u2 mm vs2 ms bs2 →
      u { nx := fun _ H' => ∃ G, Gc H G H' ∧ Q .non G, rt := fun v H' => ∃ G, Gc H G H' ∧ Q v G } [some (.ref pS), some (.int x1), some (.ref pp), some (.ref cp), some (.ref pc), some (.ref pj), some (.ref bk), some (.ref hd), x8, x9, x10, x11, x12, x13, x14, some (.ref pj2), x16, some (.ref mm), none] H1 := by
    refine ⟨_, (ah (aw (i := 14) ND rfl (Or.inl rfl) (au G__law_asked (hr.mono (by decide)) rfl T.gB T.dA.kp b__law_asked .nil aC (FA.pa (aa (au G__law_cell_at (hr.mono (by decide)) rfl T.bX T.bg.kp b__law_cell_at .nil aC (FA.pa (aa (fv 0) (aa ad af)))) (aa (fv 1) (aa (fv 2) (aa (fv 3) af)))))))
      (ah (aw (i := 18) ND rfl (Or.inl rfl) (ig (FA.pa (aa (aL [110, 111, 98, 111, 100, 121]) (aa (aq aJ (aV (az K) (fv 2) (rH mB ad) (fun _ _ => rfl)) (aL [58, 120])) (aa (aq aJ (aV (az K) (fv 2) ad (fun _ _ => rfl)) (aL [58])) (aa (aL []) (aa i6 (aa ad (aa (cW (FA.pa (aa (aV (az K) (fv 2) ad (fun _ _ => rfl)) af))) af)))))))) (aq aP (aq aO (au G__law_cell_at (hr.mono (by decide)) rfl T.bX T.bg.kp b__law_cell_at .nil aC (FA.pa (aa (fv 0) (aa ad af)))) ad) ad) (fun _ _ => rfl)))
      hu13)), fun cu H0 H1 pp cp pc d cs cc ps pj b u' bk hd vs ws hs bs pj2 b2 u2 vs2 bs2 mm ms x1 x8 x9 x10 x11 x12 x13 x14 x16 s0 L lb lh JC cg hP lp hpp hcp lc fd fbl B => ?_⟩
    have hp1 := L.sm _ _ hpp
    have hc1 := L.sm _ _ hcp
    have l2 := hP.len2
    walk_at "rd"
    refine ⟨L.nT, hS.same (s0.trans L.sm), L.nT, ps, cu, hp1, hc1, by walk_at "om", by walk_at "om", lc, fun l c f t g ml mc hg => ?_⟩
    have sg := ai (HO.tup [L2.T l, L2.T c, V.int f, V.int t]) hg
    have Lg := L.same sg (ao L.nT rfl)
    have hgg : upd H1 g (HO.tup [L2.T l, L2.T c, V.int f, V.int t]) g = _ := ae
    have Bg : BS a.aF H0 (upd H1 g (HO.tup [L2.T l, L2.T c, V.int f, V.int t])) hd (d :: cs.map (·.bl)) pj2 b2 u2 mm vs2 ms bs2 := B.same sg L
    generalize upd H1 g (HO.tup [L2.T l, L2.T c, V.int f, V.int t]) = G at Lg Bg hgg ⊢
    have hp2 := Lg.sm _ _ hpp
    walk_at "rd"
    have hne : ps ≠ [] := fun z => by rw [z] at l2; simp at l2
    have eL : atI (ps.map L2.T) (-1) = some (L2.T (ps.getLast hne)) := by
      have := m8 (ps.dropLast.map L2.T) (L2.T (ps.getLast hne))
      rwa [← List.map_singleton (f := L2.T), ← List.map_append, List.dropLast_concat_getLast] at this
    have e0 : atI (ps.map L2.T) 0 = some (L2.T (nms cc 0)) := bz (j := 0) (by rw [List.getElem?_map, hP.head]; rfl)
    have pL := (hP.ok _ (List.getLast_mem hne)).len
    have gl : ps.getLast? = some (ps.getLast hne) := List.getLast?_eq_some_getLast hne
    have p0 := (gh (c := cc) (k := 0)).2.1
    refine ⟨Lg.nT, _, _, .inl (SqL.of hp2), eL, ?_⟩
    walk_at "rd"
    refine ⟨by walk_at "om", _, _, .inl (SqL.of hp2), e0, ?_⟩
    walk_at "rd"
    refine ⟨by walk_at "om", _, _, .inl (SqL.of hp2), e0, by walk_at "om", fun q hq => ⟨ai _ hq, by walk_at "om", fun r hr => ⟨ao (ao Lg.nT rfl) rfl, hS.same (((s0.trans Lg.sm).trans (ai _ hq)).trans (ai _ hr)), ?_⟩⟩⟩
    generalize ns.getD (Int.toNat 4) 0 / 81 = ix
    have go : ∀ odd kk, b4 G odd = some kk → lT cs odd = false → _ := fun odd kk => c13 cu H0 G pp cp pc d cs cc ps pj b u' bk hd vs ws hs bs pj2 b2 u2 vs2 bs2 mm ms g l c f t (some (.int x1)) x8 x9 x10 x11 x12 x13 x16 odd kk s0 Lg lb lh JC cg hP lp hpp hcp lc fd fbl Bg hgg ml
    have no := hP.none_
    have hv : ∀ x, x ∉ ps → lT cs (L2.T x) = false := fun x m => by
      show (fnd cs x).isSome = false
      rw [cg.none_ m]; rfl
    have hi : ix % 7 = 0 ∨ ix % 7 = 1 ∨ ix % 7 = 2 ∨ ix % 7 = 3 ∨ ix % 7 = 4 ∨ ix % 7 = 5 ∨ ix % 7 = 6 := by walk_at "om"
    rcases hi with e | e | e | e | e | e | e <;> rw [e]
    · exact eI (v := L2.T mX) rfl rfl (go _ "str" rfl (hv _ no.1))
    · exact eI (v := L2.T (ps.getLast hne ++ [58, 120])) rfl rfl (go _ "str" rfl (hv _ (hP.last (n := [120]) (by decide) gl)))
    · exact eI (v := L2.T (nms cc 0 ++ [58])) rfl rfl (go _ "str" rfl (hv _ (no.2.2.2 _)))
    · exact eI (v := L2.T []) rfl rfl (go _ "str" rfl (hv _ no.2.1))
    · exact eI (v := .non) rfl rfl (go _ "NoneType" rfl rfl)
    · exact eI (v := .int 5) rfl rfl (go _ "int" rfl rfl)
    · refine yb (q := q) (o := .lst [L2.T (nms cc 0)]) rfl hq ae rfl ?_
      have sq := ai (HO.lst [L2.T (nms cc 0)]) hq
      exact c13 cu H0 _ pp cp pc d cs cc ps pj b u' bk hd vs ws hs bs pj2 b2 u2 vs2 bs2 mm ms g l c f t (some (.int x1)) x8 x9 x10 x11 x12 x13 x16 (.ref q) "list" s0 (Lg.same sq (ao Lg.nT rfl)) lb lh JC cg hP lp hpp hcp lc fd fbl (Bg.same sq Lg) (sq _ _ hgg) ml (by simp [b4, ae]) rfl
  obtain ⟨u11, hu11, c11⟩ := c11
  have c8 : ∃ u, PSs (cG (XE P w) P w K mg base ["_law_script", "_law_base", "_law_paths_here", "_law_currencies_here", "_law_chart_here", "_law_journal", "_law_booked", "_law_held", "_law_k", "_law_rows_here", "_law_day_here", "_law_handed", "_law_one", "_law_other", "_law_query", "_law_back", "_law_number", "_law_mine", "_law_odd"] "law" (ag dQ) a.lO cdv A outer s H (gcE H E)) (List.drop 8 (av dQ)) u ∧ ∀ (cu : List (List Nat)) H0 H1 pp cp pc d cs cc ps pj b u' bk hd vs ws hs bs (x1 : Int) x8 x9 x10 x11 x12 x13 x14,
      Same H H0 → LS a.aF H0 H1 pj b u' bk hd (d :: cs.map (·.bl)) vs ws hs bs → bs.length ≤ 10 → hs.length ≤ 500 → CAt a.bq a.aG H0 pc d cs → CG cs ps → eM cc ps → ps.length ≤ 10 → H0 pp = some (.lst (ps.map L2.T)) → H0 cp = some (.lst (cu.map L2.T)) → cu.length = 3 → H d = none → (∀ z ∈ cs, H z.bl = none) →
      u { nx := fun _ H' => ∃ G, Gc H G H' ∧ Q .non G, rt := fun v H' => ∃ G, Gc H G H' ∧ Q v G } [some (.ref pS), some (.int x1), some (.ref pp), some (.ref cp), some (.ref pc), some (.ref pj), some (.ref bk), some (.ref hd), x8, x9, x10, x11, x12, x13, x14, none, none, none, none] H1 := by
    refine ⟨_, (ah (aw (i := 15) ND rfl (Or.inl rfl) (kP T.mL G_Journal___init__ (hr.mono (by decide)) rfl T.o7 b_Journal___init__ .nil aC))
      (ah (dU (by passes_own) rfl (AY K rfl T.mE (FA.pa (aa (fv 6) af))) (gw K (n := 3) rfl (bp (aI (i := 16) ND rfl (Or.inl rfl)) (bp (aI (i := 10) ND rfl (Or.inl rfl)) (bp (aI (i := 9) ND rfl (Or.inl rfl)) gf)))) (ak (bY (dC (fv 15) T.cN T.il G_Journal_put (hr.mono (by decide)) b_Journal_put .nil aC (FA.pa (aa (fv 10) (aa (aL []) (aa (fv 9) (aa i6 af)))))))))
      (ah (rz (i0 := 17) ND rfl (Or.inl rfl) rfl (cl := _) (x := "_law_k") (xs := ["_law_k", "_law_pair"]) (fr := []) (ks := []) (by exact ⟨rfl, by decide +kernel, rfl, by decide +kernel, rfl, d8 rfl, rfl, bo rfl, bo (k := fun y => List.lookup y _) rfl, dX rfl⟩) rfl (wv K rfl T.lE rfl T.mE (fv 6)) (fun _ _ _ _ _ => (gw K (n := 2) rfl (bp (aI (i := 0) (hZ (l := ["_law_k", "_law_pair"]) (by decide)) rfl (Or.inl rfl)) (bp (aI (i := 1) (hZ (l := ["_law_k", "_law_pair"]) (by decide)) rfl (Or.inl rfl)) gf)))) (fun _ _ _ _ _ => eZ) (fun _ _ _ _ _ => (dg (FA.pa (aa (fv 0) (aa (aV (az K) (fv 1) ad (fun _ _ => rfl)) (aa (aV (az K) (fv 1) ad (fun _ _ => rfl)) af)))))))
      hu11))), fun cu H0 H1 pp cp pc d cs cc ps pj b u' bk hd vs ws hs bs x1 x8 x9 x10 x11 x12 x13 x14 s0 L lb lh JC cg hP lp hpp hcp lc fd fbl => ?_⟩
    walk_at "rd"
    intro x dx hx hdx ne
    refine ⟨ao (ao L.nT rfl) rfl, _, ae, fun b2 u2 H2 hb2 hu2 J2 K2 N2 => yS ?_⟩
    have k2 := fP hx hdx K2
    have s2 : Same H1 H2 := fun c z e => k2 c z e List.not_mem_nil
    have fb2 : H1 b2 = none := cR hb2
    have fu2 : H1 u2 = none := cR hu2
    have fr0 : ∀ {q : Addr}, H1 q = none → H0 q = none := fun h => Same.frees L.sm h
    have lws := L.bw.len
    walk_at "rd"
    refine ⟨_, _, rfl, SqL.of (s2 _ _ L.bl), zE (xs := ws) (fun i σ' H' => Same H1 H' ∧ NoT H' ∧ ∃ vs2 x9 x10 x16, JAt a.aF H' x b2 u2 vs2 ∧ A2 (BkAt H') vs2 (rn (bs.reverse.take i)) ∧ σ' = [some (.ref pS), some (.int x1), some (.ref pp), some (.ref cp), some (.ref pc), some (.ref pj), some (.ref bk), some (.ref hd), x8, x9, x10, x11, x12, x13, x14, some (.ref x), x16, none, none]) ⟨s2, N2, [], x9, x10, none, J2, .nil, rfl⟩ (fun i σ' H' _ h => SqL.of (h.1 _ _ L.bl)) ?_ ?_⟩
    · rintro i y σ' H' hy ⟨sm, nT, vs2, x9, x10, x16, J', hv2, rfl⟩
      obtain ⟨bb, hb1, hb2'⟩ := L.bw.rev.at_ hy
      obtain ⟨qb, tb, vb, rfl, e1, _, e2, rw_⟩ := MnAt.keep (Keep.same sm) L.lw hb2'
      obtain ⟨dj, hj⟩ := J'.ob
      have lv := hv2.len
      rw [qc, List.length_take, List.length_reverse] at lv
      have li := (List.getElem?_eq_some_iff.mp hb1).1
      rw [List.length_reverse] at li
      walk_at "rd"
      refine ⟨_, _, rfl, SqT.of e1, rfl, _, _, rfl, _, _, rfl, _, _, rfl, rfl, _, _, hj, wH _ _, nT, ?_⟩
      walk_at "rd"
      refine ⟨b2, u2, vs2, vb, J', by walk_at "om", e2, fun t q H3 ft h3 fq h4 J3 K3 N3 => ⟨Keep.toSame sm K3 (fun c m => by rw [List.mem_singleton.mp m]; exact fb2), N3, _, _, _, _, J3, ?_, rfl, rfl, rfl⟩⟩
      rw [cQ hb1, uH]
      have kl := LW.one J'.ls
      refine (cq K3 kl hv2).snoc ⟨q, t, vb, rfl, ?_, h3, cH K3 kl rw_⟩
      rw [h4, List.length_take, List.length_reverse, lv]
    · rintro σ' H' ⟨sm, nT, vs2, x9, x10, x16, J', hv2, rfl⟩
      rw [lws, ← List.length_reverse, List.take_length] at hv2
      have L' := L.same sm nT
      walk_at "rd"
      have lbs : ws.length = bs.length := lws
      refine xu bk ws (fun D i ys G => (H' D = none ∧ i ≤ bs.length) ∧ Same H' G ∧ NoT G ∧ G D = some (.lst ys) ∧ A2 (MnAt (D :: hd :: d :: cs.map (·.bl)) G) ys (rn (bs.reverse.take i))) (fun R r => r) (SqL.of L'.bl) (by walk_at "om") (fun D hD => ⟨⟨hD, Nat.zero_le _⟩, ai _ hD, ao nT rfl, ae, .nil⟩) (fun D i ys G h => ⟨h.2.2.2.1, SqL.of (h.2.1 _ _ L'.bl), ?_⟩) (fun D i y ys G p zs N hy hp h hz post => ?_) (fun D ys G h => ?_)
      · have := h.2.2.2.2.len
        rw [qc, List.length_take, List.length_reverse] at this
        have := h.1.2
        omega
      · obtain ⟨⟨fD, li⟩, sG, nG, hD, am⟩ := h
        obtain ⟨z0, z1, rfl⟩ := ex2 hz
        obtain ⟨bb, hb1, hb2'⟩ := L'.bw.rev.at_ hy
        have sp := ai (HO.tup [V.int i, y]) hp
        obtain ⟨qb, tb, vb, rfl, e1, nt, e2, rw_⟩ := MnAt.keep (Keep.same (sG.trans sp)) L'.lw hb2'
        have li2 := (List.getElem?_eq_some_iff.mp hb1).1
        rw [List.length_reverse] at li2
        walk_at "rd"
        refine ⟨_, _, rfl, SqT.of ae, rfl, _, _, rfl, _, _, rfl, rfl, ⟨_, rfl, rfl⟩, ?_⟩
        have lwG : LW (D :: hd :: d :: cs.map (·.bl)) G := fun s m => by
          rcases List.mem_cons.mp m with rfl | m
          · exact ⟨_, hD, by intro _ z; cases z⟩
          · obtain ⟨o, ho, n⟩ := L'.lw s (by
              rcases List.mem_cons.mp m with rfl | m
              · exact .head _
              · exact .tail _ (.tail _ (.tail _ m)))
            exact ⟨o, sG _ _ ho, n⟩
        have lw1 : LW (D :: hd :: d :: cs.map (·.bl)) (upd G p (HO.tup [V.int i, V.ref qb])) := fun s m => by
          obtain ⟨o, ho, n⟩ := lwG s m
          exact ⟨o, sp _ _ ho, n⟩
        have am1 := cM (Keep.same sp) lwG am
        have hD1 := sp _ _ hD
        have s1 := sG.trans sp
        have n1 : NoT (upd G p (HO.tup [V.int i, V.ref qb])) := ao nG rfl
        generalize upd G p (HO.tup [V.int i, V.ref qb]) = G1 at e1 e2 rw_ lw1 am1 hD1 s1 n1 ⊢
        walk_at "rd"
        refine ⟨_, _, .inr (SqT.of e1), bz (j := 1) rfl, ?_⟩
        walk_at "rd"
        refine ⟨_, _, .inr (SqT.of e1), bz (j := 2) rfl, by walk_at "om", fun q hq => post _ _ ((ai _ hq) _ _ hD1) ⟨⟨fD, by walk_at "om"⟩, cB (s1.trans (ai _ hq)) fD, ao (ao n1 rfl) rfl, ae, ?_⟩⟩
        have k6 : Keep (D :: hd :: d :: cs.map (·.bl)) G1 (upd (upd G1 q (.tup [.int i, .int bb.d, .ref tb])) D (.lst (ys ++ [.ref q]))) := (Keep.refl.new hq).put (.head _)
        have tD : tb ∉ D :: hd :: d :: cs.map (·.bl) := fun m => by
          rcases List.mem_cons.mp m with rfl | m
          · obtain ⟨_, _, _, h1, h2, _, h3, _⟩ := hb2'
            cases h1
            have := s1 _ _ h2
            rw [e1] at this
            cases this
            rw [fD] at h3; cases h3
          · exact nt (by
              rcases List.mem_cons.mp m with rfl | m
              · exact .head _
              · exact .tail _ (.tail _ (.tail _ m)))
        rw [cQ hb1, uH]
        refine (cM k6 lw1 am1).snoc ⟨q, tb, vb, rfl, ?_, tD, k6 _ _ e2 tD, cH k6 lw1 rw_⟩
        rw [al (Ne.symm (aj hD1 hq)), ae, List.length_take, List.length_reverse, Nat.min_eq_left (by walk_at "om")]
      · obtain ⟨⟨fD, li⟩, sG, nG, hD, am⟩ := h
        rw [lbs, ← List.length_reverse, List.take_length] at am
        refine c11 cu H0 G pp cp pc d cs cc ps pj b u' bk hd vs ws hs bs x b2 u2 vs2 (rn bs.reverse) D ys x1 x8 x9 x10 x11 x12 x13 x14 x16 s0 (L'.same sG nG) lb lh JC cg hP lp hpp hcp lc fd fbl ⟨J'.keep (S := []) (Keep.same sG) List.not_mem_nil List.not_mem_nil List.not_mem_nil, cq (W := []) (Keep.same sG) LW.nil hv2, hD, am.imp fun _ _ _ _ r => r.mono fun c m => .tail _ m, fr0 fb2, fr0 fu2, Same.frees (L.sm.trans sm) fD, Ne.symm (aj L.hl fb2), Ne.symm (aj L'.hl fD), by rw [qc, List.length_reverse]; omega, Num.rn _, B8 fun z m => L.ok z (List.mem_reverse.mp m)⟩
  obtain ⟨u8, hu8, c8⟩ := c8
  have c7 : ∃ u, PSs (cG (XE P w) P w K mg base ["_law_script", "_law_base", "_law_paths_here", "_law_currencies_here", "_law_chart_here", "_law_journal", "_law_booked", "_law_held", "_law_k", "_law_rows_here", "_law_day_here", "_law_handed", "_law_one", "_law_other", "_law_query", "_law_back", "_law_number", "_law_mine", "_law_odd"] "law" (ag dQ) a.lO cdv A outer s H (gcE H E)) (List.drop 7 (av dQ)) u ∧ ∀ (cu : List (List Nat)) H0 H1 pp cp pc d cs cc ps pj b u' bk hd (x1 : Int),
      Same H H0 → LS a.aF H0 H1 pj b u' bk hd (d :: cs.map (·.bl)) [] [] [] [] → CAt a.bq a.aG H0 pc d cs → CG cs ps → eM cc ps → ps.length ≤ 10 → H0 pp = some (.lst (ps.map L2.T)) → H0 cp = some (.lst (cu.map L2.T)) → cu.length = 3 → H d = none → (∀ z ∈ cs, H z.bl = none) →
      u { nx := fun _ H' => ∃ G, Gc H G H' ∧ Q .non G, rt := fun v H' => ∃ G, Gc H G H' ∧ Q v G } [some (.ref pS), some (.int x1), some (.ref pp), some (.ref cp), some (.ref pc), some (.ref pj), some (.ref bk), some (.ref hd), none, none, none, none, none, none, none, none, none, none, none] H1 := by
    refine ⟨_, (ah (dU (by passes_own) rfl (oE rfl T.eX (FA.pa (aa ad (aa (ay (wD rfl) rfl T.zM wO (FA.pa (aa (ay (cy K) rfl T.eQ dh (FA.pa (aa (fv 0) af))) (aa ad af)))) af)))) (aI (i := 8) ND rfl (Or.inl rfl)) (ah (aw (i := 9) ND rfl (Or.inl rfl) (au G__law_rows (hr.mono (by decide)) rfl T.sL T.im.kp b__law_rows .nil aC (FA.pa (aa (aq aO (au G__law_mixed (hr.mono (by decide)) rfl T.aY T.aD.kp b__law_mixed .nil aC (FA.pa (aa (aV (az K) (fv 0) (fv 8) (fun _ _ => rfl)) (aa ad af)))) ad) (aa (fv 2) (aa (fv 3) af))))))
      (ah (aw (i := 10) ND rfl (Or.inl rfl) (au G__law_day (hr.mono (by decide)) rfl T.i8 T.dR.kp b__law_day .nil aC (FA.pa (aa (aq aO (au G__law_mixed (hr.mono (by decide)) rfl T.aY T.aD.kp b__law_mixed .nil aC (FA.pa (aa (aV (az K) (fv 0) (fv 8) (fun _ _ => rfl)) (aa ad af)))) ad) (aa (aq aJ (fv 1) (aq aP (aq aO (au G__law_mixed (hr.mono (by decide)) rfl T.aY T.aD.kp b__law_mixed .nil aC (FA.pa (aa (aV (az K) (fv 0) (fv 8) (fun _ _ => rfl)) (aa ad af)))) ad) ad)) af)))))
      (ah (aw (i := 11) ND rfl (Or.inl rfl) (iu (vc K) rfl T.uk py (FA.pa (aa (fv 9) af))))
      (ah (bG (bI (mP K HU) (dC (fv 5) T.cN T.il G_Journal_put (hr.mono (by decide)) b_Journal_put .nil aC (FA.pa (aa (fv 10) (aa (aL []) (aa (fv 11) (aa i6 af)))))) (ay (cy K) rfl T.eQ dh (FA.pa (aa (fv 6) af))) (bn _)) (ak (aH iR)) aQ)
      (ah (bY (zw K PySem.F.plainAttrs_list PySem.F.slot_list_clear PySem.F.type_list_clear xW (fv 11)))
      (ah (bY (cr K PySem.F.plainAttrs_list PySem.F.slot_list_append PySem.F.type_list_append bV (fv 6) (FA.pa (aa (dg (FA.pa (aa (ay (cy K) rfl T.eQ dh (FA.pa (aa (fv 6) af))) (aa (fv 10) (aa (fv 9) af))))) af))))
      (ah (aw (i := 12) ND rfl (Or.inl rfl) (au G__law_asked (hr.mono (by decide)) rfl T.gB T.dA.kp b__law_asked .nil aC (FA.pa (aa (aq aO (au G__law_mixed (hr.mono (by decide)) rfl T.aY T.aD.kp b__law_mixed .nil aC (FA.pa (aa (aV (az K) (fv 0) (fv 8) (fun _ _ => rfl)) (aa ad af)))) ad) (aa (fv 1) (aa (fv 2) (aa (fv 3) af)))))))
      (ah (aw (i := 13) ND rfl (Or.inl rfl) (au G__law_asked (hr.mono (by decide)) rfl T.gB T.dA.kp b__law_asked .nil aC (FA.pa (aa (aq aO (au G__law_mixed (hr.mono (by decide)) rfl T.aY T.aD.kp b__law_mixed .nil aC (FA.pa (aa (aV (az K) (fv 0) (fv 8) (fun _ _ => rfl)) (aa ad af)))) ad) (aa (fv 1) (aa (fv 2) (aa (fv 3) af)))))))
      (ak (dU (by passes_own) rfl (qN K (dg (FA.pa (aa (fv 12) (aa (fv 13) (aa (fv 12) af)))))) (aI (i := 14) ND rfl (Or.inl rfl)) (ak (bG (cI (cv (au G__law_told (hr.mono (by decide)) rfl T.fj T.cL.kp b__law_told .nil aC (FA.pa (aa (fv 4) (aa (fv 5) (aa (fv 6) (aa (fv 14) (aa (fv 7) af))))))))) (ak (aH iR)) aQ)))))))))))))
      hu8), fun cu H0 H1 pp cp pc d cs cc ps pj b u' bk hd x1 s0 L JC cg hP lp hpp hcp lc fd fbl => ?_⟩
    walk_at "rd"
    refine wb ?_
    walk_at "rd"
    have ll : (ns.map V.int).length ≤ 63 := by rw [List.length_map]; exact hl
    refine ⟨_, .inl (hS.same (s0.trans L.sm)), ?_⟩
    walk_at "rd"
    rw [List.length_map]
    generalize hj : (if (15 : Int) < (ns.length : Int) then (15 : Int) else (ns.length : Int)) = j
    have j1 : j ≤ 15 ∧ j ≤ (ns.length : Int) ∧ 0 ≤ j := by rw [← hj]; split <;> omega
    refine ⟨5, j, ⟨rfl, rfl⟩, ⟨by decide, by decide, by walk_at "om", by walk_at "om"⟩, ?_⟩
    generalize hn : (j - 5).toNat = n
    refine fS (lo := 5) (n := n) (fun i σ' H' => ∃ vs ws hs bs x8 x9 x10 x11 x12 x13 x14, LS a.aF H0 H' pj b u' bk hd (d :: cs.map (·.bl)) vs ws hs bs ∧ bs.length = i ∧ hs.length ≤ 3 * i ∧ σ' = [some (.ref pS), some (.int x1), some (.ref pp), some (.ref cp), some (.ref pc), some (.ref pj), some (.ref bk), some (.ref hd), x8, x9, x10, x11, x12, x13, x14, none, none, none, none]) ⟨_, _, _, _, none, none, none, none, none, none, none, L, rfl, by simp, rfl⟩ ?_ ?_
    · clear L
      rintro i σ' H' hi ⟨vs, ws, hs, bs, x8, x9, x10, x11, x12, x13, x14, L, lb, lh, rfl⟩
      have hS1 := hS.same (s0.trans L.sm)
      have k0 : atI (ns.map V.int) (5 + (i : Int)) = some (.int (ns.getD (5 + (i : Int)).toNat 0)) := tK (by walk_at "om") (by walk_at "om")
      generalize ns.getD (5 + (i : Int)).toNat 0 = v0 at k0
      have l2 := hP.len2
      walk_at "rd"
      refine ⟨_, _, .inl hS1, k0, L.nT, ?_⟩
      walk_at "rd"
      refine ⟨L.nT, by have := (zY v0 20).1; omega, ps, cu, L.sm _ _ hpp, L.sm _ _ hcp, by walk_at "om", by walk_at "om", lc, fun rs rv r G lr hr1 fr hr2 ha sm1 N1 => ?_⟩
      refine ⟨_, _, .inl (hS1.same sm1), k0, N1, ?_⟩
      walk_at "rd"
      refine ⟨_, _, .inl (hS1.same sm1), k0, N1, ?_⟩
      walk_at "rd"
      refine ⟨N1, fun dy => ⟨rv, .inl (SqL.of hr2), fun hh fh => ?_⟩⟩
      have L1 := L.same sm1 N1
      have sh := ai (HO.lst rv) fh
      have L3 := L1.same sh (ao N1 rfl)
      have hhh : upd G hh (HO.lst rv) hh = _ := ae
      have hr3 := sh _ _ hr2
      have ha3 := cH (W := []) (Keep.same sh) LW.nil ha
      have fr3 : H' hh = none := sm1.free fh
      have smG := sm1.trans sh
      have rh : r ≠ hh := aj hr2 fh
      generalize upd G hh (HO.lst rv) = F at L3 hhh hr3 ha3 smG ⊢
      have lv := L3.jv.len
      have lw := L3.bw.len
      obtain ⟨dj, hj⟩ := L3.jr.ob
      refine ⟨_, _, hj, wH _ _, L3.nT, b, u', vs, rv, L3.jr, by walk_at "om", hhh, fun t q F1 ft h3 fq h4 J3 K3 N3 => ?_⟩
      have bk3 := K3 _ _ L3.bl (by simpa using L.n3)
      refine ⟨_, .inl (SqL.of bk3), ?_⟩
      walk_at "rd"
      have bh : b ≠ hh := aj L.jr.ls fr3
      have kh : bk ≠ hh := aj L.bl fr3
      have rb : r ≠ b := Ne.symm (aj L.jr.ls fr)
      have rk : r ≠ bk := Ne.symm (aj L.bl fr)
      have hh3 := K3 _ _ hhh (by simpa using Ne.symm bh)
      have bk4 : upd F1 hh (.lst []) bk = some (.lst ws) := (al kh).trans bk3
      refine itp (by walk_at "om") ⟨.inl ⟨_, SqL.of hh3⟩, hh, rv, rfl, hh3, .inl ⟨_, SqL.of bk4⟩, ws, .inl (SqL.of bk4), by walk_at "om", fun m hm => ⟨bk, ws, _, rfl, rfl, (ai _ hm) _ _ bk4, by walk_at "om", ?_⟩⟩
      have k1 : Keep [hh, bk] F1 (upd (upd (upd F1 hh (.lst [])) m (.tup [.int ws.length, .int dy, .ref r])) bk (.lst (ws ++ [.ref m]))) := ((Keep.refl.put (.head _)).new hm).put (.tail _ (.head _))
      have lw1 : LW [hh, bk] F1 := fun s ms => by
        rcases List.mem_cons.mp ms with rfl | ms
        · exact ⟨_, hh3, by intro _ z; cases z⟩
        · rw [List.mem_singleton.mp ms]; exact ⟨_, bk3, by intro _ z; cases z⟩
      have kX : Keep [bk, b] H' (upd (upd (upd F1 hh (.lst [])) m (.tup [.int ws.length, .int dy, .ref r])) bk (.lst (ws ++ [.ref m]))) := ((((Keep.same smG).trans (K3.mono fun c ms => .tail _ ms)).fresh fr3).new hm).put (.head _)
      have LX := L.book (x := ⟨bs.length, dy, rs⟩) kX (ao (ao (ao N3 rfl) rfl) rfl) (k1 _ _ J3.ls (by simpa using ⟨bh, Ne.symm L.n3⟩)) ⟨q, t, rv, rfl, by rw [← lv]; exact k1 _ _ h4 (lw1.no h4), k1 _ _ h3 (lw1.no h3), cH k1 lw1 (cH K3 (LW.one L3.jr.ls) ha3)⟩ ae ⟨m, r, rv, rfl, by rw [al (Ne.symm (aj bk4 hm)), ae, lw], L.lw.new fr, k1 _ _ (K3 _ _ hr3 (by simpa using rb)) (by simpa using ⟨rh, rk⟩), cH k1 lw1 (cH K3 (LW.one L3.jr.ls) ha3)⟩ rfl ⟨by show rs.length ≤ 10; omega, fun z mz => by have := (hP.ok _ (hr1 z mz)).len; omega⟩
      generalize upd (upd (upd F1 hh (.lst [])) m (.tup [.int ws.length, .int dy, .ref r])) bk (.lst (ws ++ [.ref m])) = X at LX ⊢
      refine ⟨_, _, .inl (hS.same (s0.trans LX.sm)), k0, LX.nT, ?_⟩
      walk_at "rd"
      refine ⟨LX.nT, ps, cu, LX.sm _ _ hpp, LX.sm _ _ hcp, by walk_at "om", by walk_at "om", lc, fun l1 c1 f1 t1 g1 ml1 mc1 fg1 => ?_⟩
      have sg1 := ai (HO.tup [L2.T l1, L2.T c1, V.int f1, V.int t1]) fg1
      have LY := LX.same sg1 (ao LX.nT rfl)
      have hg1 : upd X g1 (HO.tup [L2.T l1, L2.T c1, V.int f1, V.int t1]) g1 = _ := ae
      generalize upd X g1 (HO.tup [L2.T l1, L2.T c1, V.int f1, V.int t1]) = Y at LY hg1 ⊢
      refine ⟨_, _, .inl (hS.same (s0.trans LY.sm)), k0, LY.nT, ?_⟩
      walk_at "rd"
      refine ⟨LY.nT, ps, cu, LY.sm _ _ hpp, LY.sm _ _ hcp, by walk_at "om", by walk_at "om", lc, fun l3 c3 f3 t3 g3 ml3 mc3 fg3 => ?_⟩
      have sg3 := ai (HO.tup [L2.T l3, L2.T c3, V.int f3, V.int t3]) fg3
      have LZ := LY.same sg3 (ao LY.nT rfl)
      have hg3 : upd Y g3 (HO.tup [L2.T l3, L2.T c3, V.int f3, V.int t3]) g3 = _ := ae
      have hg1' := sg3 _ _ hg1
      generalize upd Y g3 (HO.tup [L2.T l3, L2.T c3, V.int f3, V.int t3]) = Z at LZ hg3 hg1' ⊢
      walk_at "rd"
      refine xh ?_
      walk_at "rd"
      refine ⟨by walk_at "om", fun tq htq => ?_⟩
      have stq := ai (HO.tup [V.ref g1, V.ref g3, V.ref g1]) htq
      have LT := LZ.same stq (ao LZ.nT rfl)
      have hg1T := stq _ _ hg1'
      have hg3T := stq _ _ hg3
      have htT : upd Z tq (HO.tup [V.ref g1, V.ref g3, V.ref g1]) tq = _ := ae
      generalize upd Z tq (HO.tup [V.ref g1, V.ref g3, V.ref g1]) = T0 at LT hg1T hg3T htT ⊢
      refine xN (SqT.of htT) (zq (fun j σ' H2 => Keep [hd] T0 H2 ∧ ∃ hs2 x14, LS a.aF H0 H2 pj b u' bk hd (d :: cs.map (·.bl)) (vs ++ [V.ref q]) (ws ++ [V.ref m]) hs2 (bs ++ [⟨bs.length, dy, rs⟩]) ∧ hs2.length ≤ 3 * i + j ∧ σ' = [some (.ref pS), some (.int x1), some (.ref pp), some (.ref cp), some (.ref pc), some (.ref pj), some (.ref bk), some (.ref hd), some (.int (5 + (i : Int))), some (.ref r), some (.int dy), some (.ref hh), some (.ref g1), some (.ref g3), x14, none, none, none, none]) ⟨Keep.refl, hs, x14, LT, by walk_at "om", rfl⟩ (fun j σ' H2 _ h => SqT.of (h.1 _ _ htT ((LW.one LT.hl).no htT))) ?_ ?_)
      · rintro j x σ' H2 hx ⟨kT, hs2, x14, L2', lh2, rfl⟩
        have hj3 : j < 3 := by
          have := (List.getElem?_eq_some_iff.mp hx).1
          simpa using this
        have hdT := LW.one LT.hl
        obtain ⟨gq, l, c, f, t, rfl, hgq, mlq⟩ : ∃ gq l c f t, x = .ref gq ∧ H2 gq = some (.tup [L2.T l, L2.T c, .int f, .int t]) ∧ l ∈ ps := by
          have mx : x ∈ [V.ref g1, V.ref g3, V.ref g1] := List.mem_of_getElem? hx
          simp only [List.mem_cons, List.not_mem_nil, or_false] at mx
          rcases mx with rfl | rfl | rfl
          · exact ⟨_, _, _, _, _, rfl, kT _ _ hg1T (hdT.no hg1T), ml1⟩
          · exact ⟨_, _, _, _, _, rfl, kT _ _ hg3T (hdT.no hg3T), ml3⟩
          · exact ⟨_, _, _, _, _, rfl, kT _ _ hg1T (hdT.no hg1T), ml1⟩
        walk_at "rd"
        have fz : (fnd cs l).isSome = true := by
          have : l ∈ cs.map (·.pa) := by rw [cg.pa]; exact mlq
          obtain ⟨y, my, rfl⟩ := List.mem_map.mp this
          rw [qw JC.np my]; rfl
        refine ⟨L2'.nT, d, cs, b, u', _, _, _, hs2, l, c, f, t, JC.same L2'.sm, L2'.jr, L2'.jv, L2'.bl, mf L2'.bw, by simp; omega, L2'.nm, L2'.ok, hgq, fz, by have := (hP.ok l mlq).len; omega, L2'.hl, by walk_at "om", Ne.symm L2'.n2, fun y my z => L2'.cl.new L2'.f1 (by rw [← z]; exact .tail _ (List.mem_map_of_mem my)), fun e H3 h3 d3 k3 N3 => ?_⟩
        walk_at "rd"
        exact ⟨fun c z h n => k3 _ _ (kT c z h n) n, _, _, L2'.told k3 N3 d3 (h3 _ L2'.lw), by simp; omega, rfl⟩
      · rintro σ' H2 ⟨kT, hs2, x14, L2', lh2, rfl⟩
        exact ⟨_, _, _, _, _, _, _, _, _, _, _, L2', by simp; omega, by simp at lh2; omega, rfl⟩
    · rintro σ' H' ⟨vs, ws, hs, bs, x8, x9, x10, x11, x12, x13, x14, L, lb, lh, rfl⟩
      exact c8 cu H0 H' pp cp pc d cs cc ps pj b u' bk hd vs ws hs bs x1 x8 x9 x10 x11 x12 x13 x14 s0 L (by walk_at "om") (by walk_at "om") JC cg hP lp hpp hcp lc fd fbl
  obtain ⟨u7, hu7, c7⟩ := c7
  refine ⟨hN, _, (ah (aw (i := 1) ND rfl (Or.inl rfl) (aq aP (au G__law_cell_at (hr.mono (by decide)) rfl T.bX T.bg.kp b__law_cell_at .nil aC (FA.pa (aa (fv 0) (aa ad af)))) ad))
      (ah (aw (i := 2) ND rfl (Or.inl rfl) (au G__law_paths (hr.mono (by decide)) rfl T.pQ T.gn.kp b__law_paths .nil aC (FA.pa (aa (fv 0) (aa (aq aJ ad (aq aP (aq aO (au G__law_cell_at (hr.mono (by decide)) rfl T.bX T.bg.kp b__law_cell_at .nil aC (FA.pa (aa (fv 0) (aa ad af)))) ad) ad)) af)))))
      (ah (aw (i := 3) ND rfl (Or.inl rfl) (au G__law_currencies (hr.mono (by decide)) rfl T.jE T.dt.kp b__law_currencies .nil aC (FA.pa (aa (au G__law_cell_at (hr.mono (by decide)) rfl T.bX T.bg.kp b__law_cell_at .nil aC (FA.pa (aa (fv 0) (aa ad af)))) af))))
      (ah (aw (i := 4) ND rfl (Or.inl rfl) (au G__law_chart (hr.mono (by decide)) rfl T.pN T.gA.kp b__law_chart .nil aC (FA.pa (aa (fv 2) af))))
      (ah (aw (i := 5) ND rfl (Or.inl rfl) (kP T.mL G_Journal___init__ (hr.mono (by decide)) rfl T.o7 b_Journal___init__ .nil aC))
      (ah (aw (i := 6) ND rfl (Or.inl rfl) (cW (FA.pa af)))
      (ah (aw (i := 7) ND rfl (Or.inl rfl) (cW (FA.pa af)))
      hu7))))))), ?_⟩
  walk_at "rd"
  refine ⟨hN, hS, hN, hS, hN, hS, ⟨by walk_at "om", by walk_at "om"⟩, fun ps pp hP lp hpp => ?_⟩
  have s1 := ai (HO.lst (ps.map L2.T)) hpp
  refine ⟨ao hN rfl, hS.same s1, ao hN rfl, fun cu lc _ cp hcp => ?_⟩
  have s2 := s1.trans (ai (HO.lst (cu.map L2.T)) hcp)
  refine ⟨ao (ao hN rfl) rfl, _, ps, (ai _ hcp) _ _ ae, hP, lp, fun pc d cs H1 JC cg fbl fd s3 N3 => ?_⟩
  have hpp1 := s3 _ _ ((ai (HO.lst (cu.map L2.T)) hcp) _ _ (ae (H := H) (a := pp)))
  have hcp1 := s3 cp _ ae
  intro x dx hx hdx ne
  refine ⟨ao (ao N3 rfl) rfl, _, ae, fun b u H2 hb hu J2 K2 N2 => ⟨Nat.zero_le _, fun bk hbk => ⟨Nat.zero_le _, fun hd hhd => ?_⟩⟩⟩
  have k2 := fP hx hdx K2
  have s4 : Same H1 H2 := fun c z e => k2 c z e List.not_mem_nil
  have t1 := ai (HO.lst []) hbk
  have t2 := t1.trans (ai (HO.lst []) hhd)
  have bb : bk ≠ hd := aj ae hhd
  refine c7 cu H1 _ pp cp pc d cs _ ps x b u bk hd _ (s2.trans s3) ⟨s4.trans t2, ao (ao N2 rfl) rfl, J2.keep (S := []) (Keep.same t2) List.not_mem_nil List.not_mem_nil List.not_mem_nil, .nil, (al bb).trans ae, .nil, ae, (fun _ m => nomatch m), Ne.symm bb, Ne.symm (aj (t1 _ _ J2.ls) hhd), Ne.symm (aj J2.ls hbk), (s4.trans t1).free hhd, s4.free hbk, cR hb, cR hu, hx, fun s m => ?_, rfl, (fun _ m => nomatch m)⟩ JC cg hP lp hpp1 hcp1 lc (s2.free fd) fun z m => s2.free (fbl z m)
  rcases List.mem_cons.mp m with rfl | m
  · exact ⟨_, JC.dc, by intro _ z; cases z⟩
  · obtain ⟨y, my, rfl⟩ := List.mem_map.mp m
    exact ⟨_, (JC.ac y my).ls, by intro _ z; cases z⟩
theorem law_starts {H : Hp} {p : Addr} (hO : v3 H) (hS : SqL K H p (ns.map V.int)) (hl : ns.length ≤ 63) : sp_qg K [.ref p] H (fun v _ => v = .bl true) fun _ _ _ => False := ⟨xO hO, ns, hS, hl, rfl⟩
end
noncomputable abbrev fnQ (x q : String) (s : Stmt) (kV dc pm : Value) (an : Option Addr) (cd ct : Value) : FuncData := PySem.W.fnOf x q (aA s) (av s) (ag s) .none kV dc pm an cd ct
open PySem.W in
theorem all_mk {l : OpenLaw} {w : World} {K : Frag} {h : Heap} {mg : Str → Option Value} {fa : Addr} (X : K.In h) (G : h.Ns mainGlobals mg) (hfa : mg "law" = some (.ref fa))
 {C0 C1 C2 C3 C4 C5 C6 C7 C8 C9 C10 C11 C12 C13 C14 C15 : Addr}
 {f0 f1 f2 f3 f4 f5 f6 f7 f8 f9 f10 f11 f12 f13 f14 f15 f16 f17 f18 f19 f20 f21 f22 f23 f24 f25 f26 f27 f28 f29 f30 f31 f32 f33 f34 f35 f36 f37 f38 f39 f40 f41 : Addr} {od0 od1 od2 od3 od4 od5 od6 od7 od8 od9 od10 od11 od12 od13 od14 od15 od16 od17 od18 od19 od20 od21 od22 od23 od24 od25 od26 od27 od28 od29 od30 od31 od32 od33 od34 od35 od36 od37 od38 od39 od40 od41 an0 an1 an2 an3 an4 an5 an6 an7 an8 an9 an10 an11 an12 an13 an14 an15 an16 an17 an18 an19 an20 an21 an22 an23 an24 an25 an26 an27 an28 an29 an30 an31 an32 an33 an34 an35 an36 an37 an38 an39 an40 an41 : Option Addr} {sl0 sl1 sl2 sl3 sl4 sl5 sl6 sl7 sl8 sl9 sl10 sl11 sl12 sl13 sl14 sl15 sl16 sl17 sl18 sl19 sl20 sl21 sl22 sl23 sl24 sl25 sl26 sl27 sl28 sl29 sl30 sl31 sl32 sl33 sl34 sl35 sl36 sl37 sl38 sl39 sl40 sl41 : Array (Option Value)} {oc0 oc1 oc2 oc3 oc4 oc5 oc6 oc7 oc8 oc9 oc10 oc11 oc12 oc13 oc14 oc15 oc16 oc17 oc18 oc19 oc20 oc21 oc22 oc23 oc24 oc25 oc26 oc27 oc28 oc29 oc30 oc31 oc32 oc33 oc34 oc35 oc36 oc37 oc38 oc39 oc40 oc41 kV0 kV1 kV2 kV3 kV4 kV5 kV6 kV7 kV8 kV9 kV10 kV11 kV12 kV13 kV14 kV15 kV16 kV17 kV18 kV19 kV20 kV21 kV22 kV23 kV24 kV25 kV26 kV27 kV28 kV29 kV30 kV31 kV32 kV33 kV34 kV35 kV36 kV37 kV38 kV39 kV40 kV41 dc0 dc1 dc2 dc3 dc4 dc5 dc6 dc7 dc8 dc9 dc10 dc11 dc12 dc13 dc14 dc15 dc16 dc17 dc18 dc19 dc20 dc21 dc22 dc23 dc24 dc25 dc26 dc27 dc28 dc29 dc30 dc31 dc32 dc33 dc34 dc35 dc36 dc37 dc38 dc39 dc40 dc41 pm0 pm1 pm2 pm3 pm4 pm5 pm6 pm7 pm8 pm9 pm10 pm11 pm12 pm13 pm14 pm15 pm16 pm17 pm18 pm19 pm20 pm21 pm22 pm23 pm24 pm25 pm26 pm27 pm28 pm29 pm30 pm31 pm32 pm33 pm34 pm35 pm36 pm37 pm38 pm39 pm40 pm41 cd0 cd1 cd2 cd3 cd4 cd5 cd6 cd7 cd8 cd9 cd10 cd11 cd12 cd13 cd14 cd15 cd16 cd17 cd18 cd19 cd20 cd21 cd22 cd23 cd24 cd25 cd26 cd27 cd28 cd29 cd30 cd31 cd32 cd33 cd34 cd35 cd36 cd37 cd38 cd39 cd40 cd41 ct0 ct1 ct2 ct3 ct4 ct5 ct6 ct7 ct8 ct9 ct10 ct11 ct12 ct13 ct14 ct15 ct16 ct17 ct18 ct19 ct20 ct21 ct22 ct23 ct24 ct25 ct26 ct27 ct28 ct29 ct30 ct31 ct32 ct33 ct34 ct35 ct36 ct37 ct38 ct39 ct40 ct41 : Value}
 {cl0 : ClassData}
 {cl6 : ClassData}
 {cl8 : ClassData}
 {cl9 : ClassData}
 {cl10 : ClassData}
 {cl11 : ClassData}
 {cl12 : ClassData}
 {D0 : Addr} {dd0 : Option Addr} {dsl0 : Array (Option Value)} {dn0 : Nat} {tk0 tk1 tk2 tk3 tk4 : Tok}
 (p0 : nsIn K mainGlobals "HouseError" = some (some (.ref C0)))
 (p1 : nsIn K mainGlobals "BadName" = some (some (.ref C1)))
 (p2 : nsIn K mainGlobals "BadDay" = some (some (.ref C2)))
 (p3 : nsIn K mainGlobals "BadCurrency" = some (some (.ref C3)))
 (p4 : nsIn K mainGlobals "BadPath" = some (some (.ref C4)))
 (p5 : nsIn K mainGlobals "BadKind" = some (some (.ref C5)))
 (p6 : nsIn K mainGlobals "NoAccount" = some (some (.ref C6)))
 (p7 : nsIn K mainGlobals "Twice" = some (some (.ref C7)))
 (p8 : nsIn K mainGlobals "NotOpen" = some (some (.ref C8)))
 (p9 : nsIn K mainGlobals "NoRate" = some (some (.ref C9)))
 (p10 : nsIn K mainGlobals "NoBooking" = some (some (.ref C10)))
 (p11 : nsIn K mainGlobals "NoBudget" = some (some (.ref C11)))
 (p12 : nsIn K mainGlobals "NoOrder" = some (some (.ref C12)))
 (p13 : nsIn K mainGlobals "Account" = some (some (.ref C13)))
 (p14 : nsIn K mainGlobals "Chart" = some (some (.ref C14)))
 (p15 : nsIn K mainGlobals "Journal" = some (some (.ref C15)))
 (a0 : nsIn K mainGlobals "is_whole" = some (some (.ref f0)))
 (l0 : K.lookup f0 = some ⟨oc0, od0, .func (fnQ "is_whole" "is_whole" cD kV0 dc0 pm0 an0 cd0 ct0), sl0⟩) (c0 : codeIn K cd0 "is_whole" = true) (k0 : keepIn K (.ref f0) = true)
 (a1 : nsIn K mainGlobals "is_among" = some (some (.ref f1)))
 (l1 : K.lookup f1 = some ⟨oc1, od1, .func (fnQ "is_among" "is_among" cA kV1 dc1 pm1 an1 cd1 ct1), sl1⟩) (c1 : codeIn K cd1 "is_among" = true) (k1 : keepIn K (.ref f1) = true)
 (a2 : nsIn K mainGlobals "signs_lie" = some (some (.ref f2)))
 (l2 : K.lookup f2 = some ⟨oc2, od2, .func (fnQ "signs_lie" "signs_lie" cf kV2 dc2 pm2 an2 cd2 ct2), sl2⟩) (c2 : codeIn K cd2 "signs_lie" = true) (k2 : keepIn K (.ref f2) = true)
 (a3 : nsIn K mainGlobals "is_name" = some (some (.ref f3)))
 (l3 : K.lookup f3 = some ⟨oc3, od3, .func (fnQ "is_name" "is_name" cS kV3 dc3 pm3 an3 cd3 ct3), sl3⟩) (c3 : codeIn K cd3 "is_name" = true) (k3 : keepIn K (.ref f3) = true)
 (a4 : nsIn K mainGlobals "are_names" = some (some (.ref f4)))
 (l4 : K.lookup f4 = some ⟨oc4, od4, .func (fnQ "are_names" "are_names" ce kV4 dc4 pm4 an4 cd4 ct4), sl4⟩) (c4 : codeIn K cd4 "are_names" = true) (k4 : keepIn K (.ref f4) = true)
 (a5 : nsIn K mainGlobals "is_path" = some (some (.ref f5)))
 (l5 : K.lookup f5 = some ⟨oc5, od5, .func (fnQ "is_path" "is_path" cV kV5 dc5 pm5 an5 cd5 ct5), sl5⟩) (c5 : codeIn K cd5 "is_path" = true) (k5 : keepIn K (.ref f5) = true)
 (a6 : nsIn K mainGlobals "names_of" = some (some (.ref f6)))
 (l6 : K.lookup f6 = some ⟨oc6, od6, .func (fnQ "names_of" "names_of" cC kV6 dc6 pm6 an6 cd6 ct6), sl6⟩) (c6 : codeIn K cd6 "names_of" = true) (k6 : keepIn K (.ref f6) = true)
 (a7 : nsIn K mainGlobals "above" = some (some (.ref f7)))
 (l7 : K.lookup f7 = some ⟨oc7, od7, .func (fnQ "above" "above" eB kV7 dc7 pm7 an7 cd7 ct7), sl7⟩) (c7 : codeIn K cd7 "above" = true) (k7 : keepIn K (.ref f7) = true)
 (a8 : nsIn K mainGlobals "is_within" = some (some (.ref f8)))
 (l8 : K.lookup f8 = some ⟨oc8, od8, .func (fnQ "is_within" "is_within" bT kV8 dc8 pm8 an8 cd8 ct8), sl8⟩) (c8 : codeIn K cd8 "is_within" = true) (k8 : keepIn K (.ref f8) = true)
 (a9 : nsIn K mainGlobals "amounts_within" = some (some (.ref f9)))
 (l9 : K.lookup f9 = some ⟨oc9, od9, .func (fnQ "amounts_within" "amounts_within" aT kV9 dc9 pm9 an9 cd9 ct9), sl9⟩) (c9 : codeIn K cd9 "amounts_within" = true) (k9 : keepIn K (.ref f9) = true)
 (a10 : nsIn K mainGlobals "statement" = some (some (.ref f10)))
 (l10 : K.lookup f10 = some ⟨oc10, od10, .func (fnQ "statement" "statement" bF kV10 dc10 pm10 an10 cd10 ct10), sl10⟩) (c10 : codeIn K cd10 "statement" = true) (k10 : keepIn K (.ref f10) = true)
 (a11 : nsIn K mainGlobals "is_day" = some (some (.ref f11)))
 (l11 : K.lookup f11 = some ⟨oc11, od11, .func (fnQ "is_day" "is_day" dE kV11 dc11 pm11 an11 cd11 ct11), sl11⟩) (c11 : codeIn K cd11 "is_day" = true) (k11 : keepIn K (.ref f11) = true)
 (a12 : nsIn K mainGlobals "is_currency" = some (some (.ref f12)))
 (l12 : K.lookup f12 = some ⟨oc12, od12, .func (fnQ "is_currency" "is_currency" bv kV12 dc12 pm12 an12 cd12 ct12), sl12⟩) (c12 : codeIn K cd12 "is_currency" = true) (k12 : keepIn K (.ref f12) = true)
 (a13 : nsIn K mainGlobals "_law_cell_at" = some (some (.ref f13)))
 (l13 : K.lookup f13 = some ⟨oc13, od13, .func (fnQ "_law_cell_at" "_law_cell_at" bA kV13 dc13 pm13 an13 cd13 ct13), sl13⟩) (c13 : codeIn K cd13 "_law_cell_at" = true) (k13 : keepIn K (.ref f13) = true)
 (a14 : nsIn K mainGlobals "_law_mixed" = some (some (.ref f14)))
 (l14 : K.lookup f14 = some ⟨oc14, od14, .func (fnQ "_law_mixed" "_law_mixed" bM kV14 dc14 pm14 an14 cd14 ct14), sl14⟩) (c14 : codeIn K cd14 "_law_mixed" = true) (k14 : keepIn K (.ref f14) = true)
 (a15 : nsIn K mainGlobals "_law_whole" = some (some (.ref f15)))
 (l15 : K.lookup f15 = some ⟨oc15, od15, .func (fnQ "_law_whole" "_law_whole" bN kV15 dc15 pm15 an15 cd15 ct15), sl15⟩) (c15 : codeIn K cd15 "_law_whole" = true) (k15 : keepIn K (.ref f15) = true)
 (a16 : nsIn K mainGlobals "_law_names" = some (some (.ref f16)))
 (l16 : K.lookup f16 = some ⟨oc16, od16, .func (fnQ "_law_names" "_law_names" bO kV16 dc16 pm16 an16 cd16 ct16), sl16⟩) (c16 : codeIn K cd16 "_law_names" = true) (k16 : keepIn K (.ref f16) = true)
 (a17 : nsIn K mainGlobals "_law_paths" = some (some (.ref f17)))
 (l17 : K.lookup f17 = some ⟨oc17, od17, .func (fnQ "_law_paths" "_law_paths" bQ kV17 dc17 pm17 an17 cd17 ct17), sl17⟩) (c17 : codeIn K cd17 "_law_paths" = true) (k17 : keepIn K (.ref f17) = true)
 (a18 : nsIn K mainGlobals "_law_chart" = some (some (.ref f18)))
 (l18 : K.lookup f18 = some ⟨oc18, od18, .func (fnQ "_law_chart" "_law_chart" bP kV18 dc18 pm18 an18 cd18 ct18), sl18⟩) (c18 : codeIn K cd18 "_law_chart" = true) (k18 : keepIn K (.ref f18) = true)
 (a19 : nsIn K mainGlobals "_law_currencies" = some (some (.ref f19)))
 (l19 : K.lookup f19 = some ⟨oc19, od19, .func (fnQ "_law_currencies" "_law_currencies" aX kV19 dc19 pm19 an19 cd19 ct19), sl19⟩) (c19 : codeIn K cd19 "_law_currencies" = true) (k19 : keepIn K (.ref f19) = true)
 (a20 : nsIn K mainGlobals "_law_first" = some (some (.ref f20)))
 (l20 : K.lookup f20 = some ⟨oc20, od20, .func (fnQ "_law_first" "_law_first" bi kV20 dc20 pm20 an20 cd20 ct20), sl20⟩) (c20 : codeIn K cd20 "_law_first" = true) (k20 : keepIn K (.ref f20) = true)
 (a21 : nsIn K mainGlobals "_law_day" = some (some (.ref f21)))
 (l21 : K.lookup f21 = some ⟨oc21, od21, .func (fnQ "_law_day" "_law_day" cj kV21 dc21 pm21 an21 cd21 ct21), sl21⟩) (c21 : codeIn K cd21 "_law_day" = true) (k21 : keepIn K (.ref f21) = true)
 (a22 : nsIn K mainGlobals "_law_amount" = some (some (.ref f22)))
 (l22 : K.lookup f22 = some ⟨oc22, od22, .func (fnQ "_law_amount" "_law_amount" bt kV22 dc22 pm22 an22 cd22 ct22), sl22⟩) (c22 : codeIn K cd22 "_law_amount" = true) (k22 : keepIn K (.ref f22) = true)
 (a23 : nsIn K mainGlobals "_law_rows" = some (some (.ref f23)))
 (l23 : K.lookup f23 = some ⟨oc23, od23, .func (fnQ "_law_rows" "_law_rows" bU kV23 dc23 pm23 an23 cd23 ct23), sl23⟩) (c23 : codeIn K cd23 "_law_rows" = true) (k23 : keepIn K (.ref f23) = true)
 (a24 : nsIn K mainGlobals "_law_due" = some (some (.ref f24)))
 (l24 : K.lookup f24 = some ⟨oc24, od24, .func (fnQ "_law_due" "_law_due" bK kV24 dc24 pm24 an24 cd24 ct24), sl24⟩) (c24 : codeIn K cd24 "_law_due" = true) (k24 : keepIn K (.ref f24) = true)
 (a25 : nsIn K mainGlobals "_law_told" = some (some (.ref f25)))
 (l25 : K.lookup f25 = some ⟨oc25, od25, .func (fnQ "_law_told" "_law_told" bd kV25 dc25 pm25 an25 cd25 ct25), sl25⟩) (c25 : codeIn K cd25 "_law_told" = true) (k25 : keepIn K (.ref f25) = true)
 (a26 : nsIn K mainGlobals "_law_asked" = some (some (.ref f26)))
 (l26 : K.lookup f26 = some ⟨oc26, od26, .func (fnQ "_law_asked" "_law_asked" bE kV26 dc26 pm26 an26 cd26 ct26), sl26⟩) (c26 : codeIn K cd26 "_law_asked" = true) (k26 : keepIn K (.ref f26) = true)
 (a27 : nsIn K mainGlobals "_law_no_account" = some (some (.ref f27)))
 (l27 : K.lookup f27 = some ⟨oc27, od27, .func (fnQ "_law_no_account" "_law_no_account" aZ kV27 dc27 pm27 an27 cd27 ct27), sl27⟩) (c27 : codeIn K cd27 "_law_no_account" = true) (k27 : keepIn K (.ref f27) = true)
 (a28 : nsIn K mainGlobals "_law_comes_then" = some (some (.ref f28)))
 (l28 : K.lookup f28 = some ⟨oc28, od28, .func (fnQ "_law_comes_then" "_law_comes_then" aW kV28 dc28 pm28 an28 cd28 ct28), sl28⟩) (c28 : codeIn K cd28 "_law_comes_then" = true) (k28 : keepIn K (.ref f28) = true)
 (a29 : nsIn K mainGlobals "law" = some (some (.ref f29)))
 (l29 : K.lookup f29 = some ⟨oc29, od29, .func (fnQ "law" "law" dQ kV29 dc29 pm29 an29 cd29 ct29), sl29⟩) (c29 : codeIn K cd29 "law" = true) (k29 : keepIn K (.ref f29) = true)
 (a30 : findIn K (.ref C13) "__init__" = some (some (.ref f30))) (i30 : isFn K (.ref f30) = true)
 (l30 : K.lookup f30 = some ⟨oc30, od30, .func (fnQ "__init__" "Account.__init__" aR kV30 dc30 pm30 an30 cd30 ct30), sl30⟩) (c30 : codeIn K cd30 "Account.__init__" = true) (k30 : keepIn K (.ref f30) = true)
 (a31 : findIn K (.ref C13) "stands_on" = some (some (.ref f31))) (i31 : isFn K (.ref f31) = true)
 (l31 : K.lookup f31 = some ⟨oc31, od31, .func (fnQ "stands_on" "Account.stands_on" aN kV31 dc31 pm31 an31 cd31 ct31), sl31⟩) (c31 : codeIn K cd31 "Account.stands_on" = true) (k31 : keepIn K (.ref f31) = true)
 (a32 : findIn K (.ref C14) "__init__" = some (some (.ref f32))) (i32 : isFn K (.ref f32) = true)
 (l32 : K.lookup f32 = some ⟨oc32, od32, .func (fnQ "__init__" "Chart.__init__" bc kV32 dc32 pm32 an32 cd32 ct32), sl32⟩) (c32 : codeIn K cd32 "Chart.__init__" = true) (k32 : keepIn K (.ref f32) = true)
 (a33 : findIn K (.ref C14) "add_top" = some (some (.ref f33))) (i33 : isFn K (.ref f33) = true)
 (l33 : K.lookup f33 = some ⟨oc33, od33, .func (fnQ "add_top" "Chart.add_top" a_ kV33 dc33 pm33 an33 cd33 ct33), sl33⟩) (c33 : codeIn K cd33 "Chart.add_top" = true) (k33 : keepIn K (.ref f33) = true)
 (a34 : findIn K (.ref C14) "add" = some (some (.ref f34))) (i34 : isFn K (.ref f34) = true)
 (l34 : K.lookup f34 = some ⟨oc34, od34, .func (fnQ "add" "Chart.add" bR kV34 dc34 pm34 an34 cd34 ct34), sl34⟩) (c34 : codeIn K cd34 "Chart.add" = true) (k34 : keepIn K (.ref f34) = true)
 (a35 : findIn K (.ref C14) "has" = some (some (.ref f35))) (i35 : isFn K (.ref f35) = true)
 (l35 : K.lookup f35 = some ⟨oc35, od35, .func (fnQ "has" "Chart.has" bS kV35 dc35 pm35 an35 cd35 ct35), sl35⟩) (c35 : codeIn K cd35 "Chart.has" = true) (k35 : keepIn K (.ref f35) = true)
 (a36 : findIn K (.ref C14) "account" = some (some (.ref f36))) (i36 : isFn K (.ref f36) = true)
 (l36 : K.lookup f36 = some ⟨oc36, od36, .func (fnQ "account" "Chart.account" ba kV36 dc36 pm36 an36 cd36 ct36), sl36⟩) (c36 : codeIn K cd36 "Chart.account" = true) (k36 : keepIn K (.ref f36) = true)
 (a37 : findIn K (.ref C15) "__init__" = some (some (.ref f37))) (i37 : isFn K (.ref f37) = true)
 (l37 : K.lookup f37 = some ⟨oc37, od37, .func (fnQ "__init__" "Journal.__init__" aS kV37 dc37 pm37 an37 cd37 ct37), sl37⟩) (c37 : codeIn K cd37 "Journal.__init__" = true) (k37 : keepIn K (.ref f37) = true)
 (a38 : findIn K (.ref C15) "put" = some (some (.ref f38))) (i38 : isFn K (.ref f38) = true)
 (l38 : K.lookup f38 = some ⟨oc38, od38, .func (fnQ "put" "Journal.put" br kV38 dc38 pm38 an38 cd38 ct38), sl38⟩) (c38 : codeIn K cd38 "Journal.put" = true) (k38 : keepIn K (.ref f38) = true)
 (a39 : findIn K (.ref C15) "many" = some (some (.ref f39))) (i39 : isFn K (.ref f39) = true)
 (l39 : K.lookup f39 = some ⟨oc39, od39, .func (fnQ "many" "Journal.many" bW kV39 dc39 pm39 an39 cd39 ct39), sl39⟩) (c39 : codeIn K cd39 "Journal.many" = true) (k39 : keepIn K (.ref f39) = true)
 (a40 : findIn K (.ref C15) "booking" = some (some (.ref f40))) (i40 : isFn K (.ref f40) = true)
 (l40 : K.lookup f40 = some ⟨oc40, od40, .func (fnQ "booking" "Journal.booking" bx kV40 dc40 pm40 an40 cd40 ct40), sl40⟩) (c40 : codeIn K cd40 "Journal.booking" = true) (k40 : keepIn K (.ref f40) = true)
 (a41 : findIn K (.ref C15) "every" = some (some (.ref f41))) (i41 : isFn K (.ref f41) = true)
 (l41 : K.lookup f41 = some ⟨oc41, od41, .func (fnQ "every" "Journal.every" bj kV41 dc41 pm41 an41 cd41 ct41), sl41⟩) (c41 : codeIn K cd41 "Journal.every" = true) (k41 : keepIn K (.ref f41) = true)
 (pg13 : plainGet K C13 Str.empty = true) (hd13 : hasDictIn K C13 = true) (po13 : plainOver K C13 = true) (sa13 : findIn K (.ref C13) "__setattr__" = some (some (.builtin "object.__setattr__"))) (mk13 : makesIn K C13 = true) (kc13 : keepIn K (.ref C13) = true)
 (na13_0 : findIn K (.ref C13) "kind" = some none)
 (na13_1 : findIn K (.ref C13) "currency" = some none)
 (na13_2 : findIn K (.ref C13) "first" = some none)
 (na13_3 : findIn K (.ref C13) "until" = some none)
 (na13_4 : findIn K (.ref C13) "below" = some none)
 (pg14 : plainGet K C14 Str.empty = true) (hd14 : hasDictIn K C14 = true) (po14 : plainOver K C14 = true) (sa14 : findIn K (.ref C14) "__setattr__" = some (some (.builtin "object.__setattr__"))) (mk14 : makesIn K C14 = true) (kc14 : keepIn K (.ref C14) = true)
 (na14_0 : findIn K (.ref C14) "by_path" = some none)
 (pg15 : plainGet K C15 Str.empty = true) (hd15 : hasDictIn K C15 = true) (po15 : plainOver K C15 = true) (sa15 : findIn K (.ref C15) "__setattr__" = some (some (.builtin "object.__setattr__"))) (mk15 : makesIn K C15 = true) (kc15 : keepIn K (.ref C15) = true)
 (na15_0 : findIn K (.ref C15) "bookings" = some none)
 (na15_1 : findIn K (.ref C15) "undoings" = some none)
 (o0 : clsIn K C0 = some cl0) (r0 : typeIn K (.ref C0) = some (.type "type")) (b0 : mroIn K C0 (.type "BaseException") = some true)
 (o6 : clsIn K C6 = some cl6) (r6 : typeIn K (.ref C6) = some (.type "type")) (b6 : mroIn K C6 (.type "BaseException") = some true)
 (o8 : clsIn K C8 = some cl8) (r8 : typeIn K (.ref C8) = some (.type "type")) (b8 : mroIn K C8 (.type "BaseException") = some true)
 (o9 : clsIn K C9 = some cl9) (r9 : typeIn K (.ref C9) = some (.type "type")) (b9 : mroIn K C9 (.type "BaseException") = some true)
 (o10 : clsIn K C10 = some cl10) (r10 : typeIn K (.ref C10) = some (.type "type")) (b10 : mroIn K C10 (.type "BaseException") = some true)
 (o11 : clsIn K C11 = some cl11) (r11 : typeIn K (.ref C11) = some (.type "type")) (b11 : mroIn K C11 (.type "BaseException") = some true)
 (o12 : clsIn K C12 = some cl12) (r12 : typeIn K (.ref C12) = some (.type "type")) (b12 : mroIn K C12 (.type "BaseException") = some true)
 (g6 : mroIn K C6 (.type "object") = some true) (v6 : mroIn K C6 (.type "ValueError") = some true) (u6 : findIn K (.ref C6) "__getattribute__" = some (some (.builtin "BaseException.__getattribute__"))) (w6 : findIn K (.ref C6) "__getattr__" = some none) (y6 : findIn K (.ref C6) "__class__" = some (some (.builtin "object.__class__")))
 (s6_0 : mroIn K C6 (.ref C0) = some true)
 (s6_6 : mroIn K C6 (.ref C6) = some true)
 (s6_8 : mroIn K C6 (.ref C8) = some false)
 (s6_9 : mroIn K C6 (.ref C9) = some false)
 (s6_10 : mroIn K C6 (.ref C10) = some false)
 (s6_11 : mroIn K C6 (.ref C11) = some false)
 (s6_12 : mroIn K C6 (.ref C12) = some false)
 (d0 : nsIn K mainGlobals "KINDS" = some (some (.ref D0))) (e0 : K.lookup D0 = some ⟨.type "tuple", dd0, .seq #[.str ⟨#[104, 97, 118, 101]⟩ tk0, .str ⟨#[111, 119, 101]⟩ tk1, .str ⟨#[111, 119, 110]⟩ tk2, .str ⟨#[103, 97, 105, 110]⟩ tk3, .str ⟨#[99, 111, 115, 116]⟩ tk4] dn0, dsl0⟩)
 (z0 : nsIn K mainGlobals "ValueError" = some none)
 (z1 : nsIn K mainGlobals "all" = some none)
 (z2 : nsIn K mainGlobals "bool" = some none)
 (z3 : nsIn K mainGlobals "enumerate" = some none)
 (z4 : nsIn K mainGlobals "int" = some none)
 (z5 : nsIn K mainGlobals "isinstance" = some none)
 (z6 : nsIn K mainGlobals "len" = some none)
 (z7 : nsIn K mainGlobals "list" = some none)
 (z8 : nsIn K mainGlobals "max" = some none)
 (z9 : nsIn K mainGlobals "min" = some none)
 (z10 : nsIn K mainGlobals "range" = some none)
 (z11 : nsIn K mainGlobals "reversed" = some none)
 (z12 : nsIn K mainGlobals "sorted" = some none)
 (z13 : nsIn K mainGlobals "str" = some none)
 (z14 : nsIn K mainGlobals "sum" = some none)
 (z15 : nsIn K mainGlobals "tuple" = some none)
 (q3 : excIn K C3 [.type "ValueError", .type "Exception", .type "BaseException", .type "object"] "ValueError.__new__" = true)
 (q2 : excIn K C2 [.type "ValueError", .type "Exception", .type "BaseException", .type "object"] "ValueError.__new__" = true)
 (q5 : excIn K C5 [.type "ValueError", .type "Exception", .type "BaseException", .type "object"] "ValueError.__new__" = true)
 (q1 : excIn K C1 [.type "ValueError", .type "Exception", .type "BaseException", .type "object"] "ValueError.__new__" = true)
 (q4 : excIn K C4 [.type "ValueError", .type "Exception", .type "BaseException", .type "object"] "ValueError.__new__" = true)
 (q6 : excIn K C6 [.type "ValueError", .type "Exception", .type "BaseException", .type "object"] "ValueError.__new__" = true)
 (q10 : excIn K C10 [.type "ValueError", .type "Exception", .type "BaseException", .type "object"] "ValueError.__new__" = true)
 (q8 : excIn K C8 [.type "ValueError", .type "Exception", .type "BaseException", .type "object"] "ValueError.__new__" = true)
 (q7 : excIn K C7 [.type "ValueError", .type "Exception", .type "BaseException", .type "object"] "ValueError.__new__" = true)
 : ∃ fd : FuncData, (∀ (s : Shared) (v : Value), BindsTo s fd ⟨[v], []⟩ [("_law_script", v)]) ∧ ∀ base : Heap, K.In base → base.Ns mainGlobals mg → bD l.prog w K mg base (XE l.prog w) 14 fa fd ["_law_script"] (sp_qg K) := by
  have e := hfa.symm.trans (mg_of X G a29)
  cases e
  have T : Txt K mg ⟨f0, fnQ "is_whole" "is_whole" cD kV0 dc0 pm0 an0 cd0 ct0, f1, fnQ "is_among" "is_among" cA kV1 dc1 pm1 an1 cd1 ct1, f2, fnQ "signs_lie" "signs_lie" cf kV2 dc2 pm2 an2 cd2 ct2, f3, fnQ "is_name" "is_name" cS kV3 dc3 pm3 an3 cd3 ct3, f4, fnQ "are_names" "are_names" ce kV4 dc4 pm4 an4 cd4 ct4, f5, fnQ "is_path" "is_path" cV kV5 dc5 pm5 an5 cd5 ct5, f6, fnQ "names_of" "names_of" cC kV6 dc6 pm6 an6 cd6 ct6, f7, fnQ "above" "above" eB kV7 dc7 pm7 an7 cd7 ct7, f8, fnQ "is_within" "is_within" bT kV8 dc8 pm8 an8 cd8 ct8, f9, fnQ "amounts_within" "amounts_within" aT kV9 dc9 pm9 an9 cd9 ct9, f10, fnQ "statement" "statement" bF kV10 dc10 pm10 an10 cd10 ct10, f11, fnQ "is_day" "is_day" dE kV11 dc11 pm11 an11 cd11 ct11, f12, fnQ "is_currency" "is_currency" bv kV12 dc12 pm12 an12 cd12 ct12, f13, fnQ "_law_cell_at" "_law_cell_at" bA kV13 dc13 pm13 an13 cd13 ct13, f14, fnQ "_law_mixed" "_law_mixed" bM kV14 dc14 pm14 an14 cd14 ct14, f15, fnQ "_law_whole" "_law_whole" bN kV15 dc15 pm15 an15 cd15 ct15, f16, fnQ "_law_names" "_law_names" bO kV16 dc16 pm16 an16 cd16 ct16, f17, fnQ "_law_paths" "_law_paths" bQ kV17 dc17 pm17 an17 cd17 ct17, f18, fnQ "_law_chart" "_law_chart" bP kV18 dc18 pm18 an18 cd18 ct18, f19, fnQ "_law_currencies" "_law_currencies" aX kV19 dc19 pm19 an19 cd19 ct19, f20, fnQ "_law_first" "_law_first" bi kV20 dc20 pm20 an20 cd20 ct20, f21, fnQ "_law_day" "_law_day" cj kV21 dc21 pm21 an21 cd21 ct21, f22, fnQ "_law_amount" "_law_amount" bt kV22 dc22 pm22 an22 cd22 ct22, f23, fnQ "_law_rows" "_law_rows" bU kV23 dc23 pm23 an23 cd23 ct23, f24, fnQ "_law_due" "_law_due" bK kV24 dc24 pm24 an24 cd24 ct24, f25, fnQ "_law_told" "_law_told" bd kV25 dc25 pm25 an25 cd25 ct25, f26, fnQ "_law_asked" "_law_asked" bE kV26 dc26 pm26 an26 cd26 ct26, f27, fnQ "_law_no_account" "_law_no_account" aZ kV27 dc27 pm27 an27 cd27 ct27, f28, fnQ "_law_comes_then" "_law_comes_then" aW kV28 dc28 pm28 an28 cd28 ct28, fa, fnQ "law" "law" dQ kV29 dc29 pm29 an29 cd29 ct29, f30, fnQ "__init__" "Account.__init__" aR kV30 dc30 pm30 an30 cd30 ct30, f31, fnQ "stands_on" "Account.stands_on" aN kV31 dc31 pm31 an31 cd31 ct31, f32, fnQ "__init__" "Chart.__init__" bc kV32 dc32 pm32 an32 cd32 ct32, f33, fnQ "add_top" "Chart.add_top" a_ kV33 dc33 pm33 an33 cd33 ct33, f34, fnQ "add" "Chart.add" bR kV34 dc34 pm34 an34 cd34 ct34, f35, fnQ "has" "Chart.has" bS kV35 dc35 pm35 an35 cd35 ct35, f36, fnQ "account" "Chart.account" ba kV36 dc36 pm36 an36 cd36 ct36, f37, fnQ "__init__" "Journal.__init__" aS kV37 dc37 pm37 an37 cd37 ct37, f38, fnQ "put" "Journal.put" br kV38 dc38 pm38 an38 cd38 ct38, f39, fnQ "many" "Journal.many" bW kV39 dc39 pm39 an39 cd39 ct39, f40, fnQ "booking" "Journal.booking" bx kV40 dc40 pm40 an40 cd40 ct40, f41, fnQ "every" "Journal.every" bj kV41 dc41 pm41 an41 cd41 ct41, C0, C1, C2, C3, C4, C5, C6, C7, C8, C9, C10, C11, C12, C13, C14, C15, D0⟩ := ⟨aM (st := cD) l0 c0 k0, mg_of X G a0, aM (st := cA) l1 c1 k1, mg_of X G a1, aM (st := cf) l2 c2 k2, mg_of X G a2, aM (st := cS) l3 c3 k3, mg_of X G a3, aM (st := ce) l4 c4 k4, mg_of X G a4, aM (st := cV) l5 c5 k5, mg_of X G a5, aM (st := cC) l6 c6 k6, mg_of X G a6, aM (st := eB) l7 c7 k7, mg_of X G a7, aM (st := bT) l8 c8 k8, mg_of X G a8, aM (st := aT) l9 c9 k9, mg_of X G a9, aM (st := bF) l10 c10 k10, mg_of X G a10, aM (st := dE) l11 c11 k11, mg_of X G a11, aM (st := bv) l12 c12 k12, mg_of X G a12, aM (st := bA) l13 c13 k13, mg_of X G a13, aM (st := bM) l14 c14 k14, mg_of X G a14, aM (st := bN) l15 c15 k15, mg_of X G a15, aM (st := bO) l16 c16 k16, mg_of X G a16, aM (st := bQ) l17 c17 k17, mg_of X G a17, aM (st := bP) l18 c18 k18, mg_of X G a18, aM (st := aX) l19 c19 k19, mg_of X G a19, aM (st := bi) l20 c20 k20, mg_of X G a20, aM (st := cj) l21 c21 k21, mg_of X G a21, aM (st := bt) l22 c22 k22, mg_of X G a22, aM (st := bU) l23 c23 k23, mg_of X G a23, aM (st := bK) l24 c24 k24, mg_of X G a24, aM (st := bd) l25 c25 k25, mg_of X G a25, aM (st := bE) l26 c26 k26, mg_of X G a26, aM (st := aZ) l27 c27 k27, mg_of X G a27, aM (st := aW) l28 c28 k28, mg_of X G a28, aM (st := dQ) l29 c29 k29, mg_of X G a29, aM (st := aR) l30 c30 k30, ⟨a30, i30, k30⟩, aM (st := aN) l31 c31 k31, ⟨a31, i31, k31⟩, aM (st := bc) l32 c32 k32, ⟨a32, i32, k32⟩, aM (st := a_) l33 c33 k33, ⟨a33, i33, k33⟩, aM (st := bR) l34 c34 k34, ⟨a34, i34, k34⟩, aM (st := bS) l35 c35 k35, ⟨a35, i35, k35⟩, aM (st := ba) l36 c36 k36, ⟨a36, i36, k36⟩, aM (st := aS) l37 c37 k37, ⟨a37, i37, k37⟩, aM (st := br) l38 c38 k38, ⟨a38, i38, k38⟩, aM (st := bW) l39 c39 k39, ⟨a39, i39, k39⟩, aM (st := bx) l40 c40 k40, ⟨a40, i40, k40⟩, aM (st := bj) l41 c41 k41, ⟨a41, i41, k41⟩, mg_of X G p0, mg_of X G p1, mg_of X G p2, mg_of X G p3, mg_of X G p4, mg_of X G p5, mg_of X G p6, mg_of X G p7, mg_of X G p8, mg_of X G p9, mg_of X G p10, mg_of X G p11, mg_of X G p12, mg_of X G p13, mg_of X G p14, mg_of X G p15, ⟨pg13, hd13, po13, sa13⟩, na13_0, na13_1, na13_2, na13_3, na13_4, ⟨mk13, a30, i30, kc13⟩, ⟨pg14, hd14, po14, sa14⟩, na14_0, ⟨mk14, a32, i32, kc14⟩, ⟨pg15, hd15, po15, sa15⟩, na15_0, na15_1, ⟨mk15, a37, i37, kc15⟩, q3, q2, q5, q1, q4, q6, ⟨u6, w6, y6, (by rw [o6]; rfl), g6, b6⟩, vz o0 r0 b0 s6_0, eG o6 r6 s6_6 s6_6, eG o10 r10 s6_6 s6_10, eG o11 r11 s6_6 s6_11, eG o12 r12 s6_6 s6_12, eG o9 r9 s6_6 s6_9, eG o8 r8 s6_6 s6_8, vU v6, q10, q8, q7, mg_of X G d0, ⟨_, _, _, e0, rfl, rfl, (by show 5 ≤ sizeLine; decide), (.cons ⟨_, rfl⟩ (.cons ⟨_, rfl⟩ (.cons ⟨_, rfl⟩ (.cons ⟨_, rfl⟩ (.cons ⟨_, rfl⟩ .nil)))))⟩, mg_none_of X G z0, mg_none_of X G z1, mg_none_of X G z2, mg_none_of X G z3, mg_none_of X G z4, mg_none_of X G z5, mg_none_of X G z6, mg_none_of X G z7, mg_none_of X G z8, mg_none_of X G z9, mg_none_of X G z10, mg_none_of X G z11, mg_none_of X G z12, mg_none_of X G z13, mg_none_of X G z14, mg_none_of X G z15⟩
  exact ⟨fnQ "law" "law" dQ kV29 dc29 pm29 an29 cd29 ct29, fun s v => .of_eq rfl, fun base _ _ => Aw T⟩
end K17
open PySem PySem.W PyProof.Rows
set_option maxRecDepth 100000 in
set_option maxHeartbeats 0 in
theorem PySem.Challenge.cw_evenhall_k17_statements_holds : PySem.Challenge.rw_evenhall_k17_statements.Holds := by
  w_on; o_law
  refine PySem.W.holds_open (q := K17.vw) (loose := []) (Xt := fun s => PySem.W.xlAt K17.vw [] s && PySem.W.recOk (PySem.W.RowW.records (PySem.W.OpenRow.toRowW (PySem.W.OpenLaw.row PySem.Challenge.rw_evenhall_k17_statements))) s) (XP := PySem.W.XL K17.vw []) (Yf := PySem.W.Hook.obs (PySem.W.kHook K17.frag K17.adrs K17.adrs_eq)) (Ya := PySem.W.Hook.val (PySem.W.kHook K17.frag K17.adrs K17.adrs_eq)) (YP := PySem.W.Hook.says (PySem.W.kHook K17.frag K17.adrs K17.adrs_eq)) (N := 10892) K17.left (PySem.W.Hook.of (PySem.W.kHook K17.frag K17.adrs K17.adrs_eq)) (PySem.W.Hook.keeps (PySem.W.kHook K17.frag K17.adrs K17.adrs_eq))
    (fun s e => PySem.W.xl_of s (Bool.and_eq_true_iff.mp e).1) PySem.W.XL.keeps (by rfl) (by rfl) (by rfl) (fun s e => PySem.W.recFacts_of (Bool.and_eq_true_iff.mp e).2) (by rfl) (by assumption) (by decide +kernel) ⟨rfl, rfl, rfl, rfl, rfl, by decide +kernel⟩ ?hw ?hc
  (case hw => w_witness2)
  k_fill
  refine L2.w_ (l := PySem.Challenge.rw_evenhall_k17_statements) (n := 63) (k := 14) (x := "_law_script") (sp := K17.sp_qg) rfl (by decide) rfl ⟨rfl, by decide, by decide⟩ (fun w h Y => PySem.W.kIn_of Y) ?F ?S
  case F =>
    intro w mg fa h KX G hmg
    refine' K17.all_mk KX G hmg ?_ ?_ ?_ ?_ ?_ ?_ ?_ ?_ ?_ ?_ ?_ ?_ ?_ ?_ ?_ ?_ ?_ ?_ ?_ ?_ ?_ ?_ ?_ ?_ ?_ ?_ ?_ ?_ ?_ ?_ ?_ ?_ ?_ ?_ ?_ ?_ ?_ ?_ ?_ ?_ ?_ ?_ ?_ ?_ ?_ ?_ ?_ ?_ ?_ ?_ ?_ ?_ ?_ ?_ ?_ ?_ ?_ ?_ ?_ ?_ ?_ ?_ ?_ ?_ ?_ ?_ ?_ ?_ ?_ ?_ ?_ ?_ ?_ ?_ ?_ ?_ ?_ ?_ ?_ ?_ ?_ ?_ ?_ ?_ ?_ ?_ ?_ ?_ ?_ ?_ ?_ ?_ ?_ ?_ ?_ ?_ ?_ ?_ ?_ ?_ ?_ ?_ ?_ ?_ ?_ ?_ ?_ ?_ ?_ ?_ ?_ ?_ ?_ ?_ ?_ ?_ ?_ ?_ ?_ ?_ ?_ ?_ ?_ ?_ ?_ ?_ ?_ ?_ ?_ ?_ ?_ ?_ ?_ ?_ ?_ ?_ ?_ ?_ ?_ ?_ ?_ ?_ ?_ ?_ ?_ ?_ ?_ ?_ ?_ ?_ ?_ ?_ ?_ ?_ ?_ ?_ ?_ ?_ ?_ ?_ ?_ ?_ ?_ ?_ ?_ ?_ ?_ ?_ ?_ ?_ ?_ ?_ ?_ ?_ ?_ ?_ ?_ ?_ ?_ ?_ ?_ ?_ ?_ ?_ ?_ ?_ ?_ ?_ ?_ ?_ ?_ ?_ ?_ ?_ ?_ ?_ ?_ ?_ ?_ ?_ ?_ ?_ ?_ ?_ ?_ ?_ ?_ ?_ ?_ ?_ ?_ ?_ ?_ ?_ ?_ ?_ ?_ ?_ ?_ ?_ ?_ ?_ ?_ ?_ ?_ ?_ ?_ ?_ ?_ ?_ ?_ ?_ ?_ ?_ ?_ ?_ ?_ ?_ ?_ ?_ ?_ ?_ ?_ ?_ ?_ ?_ ?_ ?_ ?_ ?_ ?_ ?_ ?_ ?_ ?_ ?_ ?_ ?_ ?_ ?_ ?_ ?_ ?_ ?_ ?_ ?_ ?_ ?_ ?_ ?_ ?_ ?_ ?_ ?_ ?_ ?_ ?_ ?_ ?_ ?_ ?_ ?_
    all_goals try first | k_is | k_exc
    all_goals try first | k_is | k_exc
  case S => exact fun K H a ns hl hO hS => K17.law_starts hO hS hl