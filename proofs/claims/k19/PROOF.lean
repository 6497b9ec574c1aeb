import PyProof.Rows.All
import KE.KItem
import KE.KTupSum
import KE.KEqDict
import KE.KFromBytes
import KE.KIntText
import KE.KRevIter
import KE.KDictOf
import KE.LcSums
import KE.KDictSum
import KE.KTryMore
import OpenK.KLine
import OpenK.KOwn
import Wide.Line
import Wide.FinOn
import Lean
import PySem.Challenge.RW_evenhall_k19_balances
set_option Elab.async false
set_option linter.all false
set_option maxRecDepth 100000
namespace L2
open PySem
noncomputable def cH (s : Stmt) (j : Nat) : Stmt := match s with
  | .ClassDef _ _ _ body _ _ _ _ _ _ _ => body.getD j (.Pass ⟨0, 0, 0, 0⟩)
  | _ => .Pass ⟨0, 0, 0, 0⟩
noncomputable def ay (s : Stmt) : Arguments := match s with
  | .FunctionDef _ a _ _ _ _ _ _ _ _ => a
  | _ => { posonlyargs := [], args := [], vararg := none, kwonlyargs := [], kw_defaults := [], kwarg := none, defaults := [] }
noncomputable def av (s : Stmt) : List Stmt := match s with
  | .FunctionDef _ _ b _ _ _ _ _ _ _ => b
  | _ => []
noncomputable def af (s : Stmt) : Scope := match s with
  | .FunctionDef _ _ _ _ _ _ sc _ _ _ => sc
  | _ => { kind := .function, names := [], isGenerator := false, isCoroutine := false }
end L2
namespace K19
open PySem L2
noncomputable def top (i : Nat) : Stmt := PySem.Challenge.pw_evenhall_k19_balances.main.body.getD i (.Pass ⟨0, 0, 0, 0⟩)
noncomputable abbrev bY : Stmt := top 13
noncomputable abbrev b4 : Stmt := top 14
noncomputable abbrev bR : Stmt := top 15
noncomputable abbrev cw : Stmt := top 16
noncomputable abbrev ba : Stmt := top 18
noncomputable abbrev ce : Stmt := top 20
noncomputable abbrev bS : Stmt := top 22
noncomputable abbrev cr : Stmt := top 23
noncomputable abbrev bZ : Stmt := top 24
noncomputable abbrev dI : Stmt := top 25
noncomputable abbrev cy : Stmt := top 27
noncomputable abbrev aT : Stmt := top 28
noncomputable abbrev b5 : Stmt := top 29
noncomputable abbrev cU : Stmt := top 31
noncomputable abbrev bg : Stmt := top 39
noncomputable abbrev bB : Stmt := top 40
noncomputable abbrev bz : Stmt := top 41
noncomputable abbrev bD : Stmt := top 42
noncomputable abbrev bF : Stmt := top 43
noncomputable abbrev bE : Stmt := top 44
noncomputable abbrev aM : Stmt := top 45
noncomputable abbrev aZ : Stmt := top 46
noncomputable abbrev bT : Stmt := top 47
noncomputable abbrev bc : Stmt := top 48
noncomputable abbrev bG : Stmt := top 49
noncomputable abbrev bU : Stmt := top 50
noncomputable abbrev bj : Stmt := top 51
noncomputable abbrev d_ : Stmt := top 52
noncomputable abbrev aH : Stmt := cH (top 34) 0
noncomputable abbrev aD : Stmt := cH (top 34) 1
noncomputable abbrev aS : Stmt := cH (top 35) 0
noncomputable abbrev aR : Stmt := cH (top 35) 1
noncomputable abbrev bH : Stmt := cH (top 35) 2
noncomputable abbrev bI : Stmt := cH (top 35) 4
noncomputable abbrev aQ : Stmt := cH (top 35) 5
noncomputable abbrev aF : Stmt := cH (top 37) 0
noncomputable abbrev a_ : Stmt := cH (top 37) 1
noncomputable abbrev bK : Stmt := cH (top 37) 2
noncomputable abbrev bf : Stmt := cH (top 37) 3
noncomputable abbrev aY : Stmt := cH (top 37) 4
end K19
set_option Elab.async false
set_option linter.all false
namespace TR
open PySem PySem.W
def go (p : Program) (w : World) (lo : Nat) (an : Option Value) : Nat → SharedT → Thread → Option SharedT
  | 0, _, _ => none
  | k + 1, x, th => match through th with
    | true => some x
    | false => match stepOk lo an th with
      | false => none
      | true => match stepT (denote treeTable) p w x th with
        | none => none
        | some y => go p w lo an k y.1 y.2
theorem mO {p : Program} {w : World} {lo : Nat} {an : Option Value} (k : Nat) : ∀ {x y : SharedT} {th : Thread}, go p w lo an k x th = some y → topRun treeTable p w lo an k x.abs th = some y.abs := by
  induction k with
  | zero => intro x y th e; cases e
  | succ k ih =>
    intro x y th e
    unfold go at e
    unfold topRun
    revert e
    cases through th with
    | true => intro e; cases e; rfl
    | false =>
      cases stepOk lo an th with
      | false => intro e; cases e
      | true =>
        dsimp only
        cases z : stepT (denote treeTable) p w x th with
        | none => intro e; cases e
        | some v =>
          intro e
          obtain ⟨v1, v2⟩ := v
          rw [stepT_spec z]
          exact ih e
noncomputable def look (p : Program) (P : Params) (s : Shared) : Bool := staticsOk (importedModules p.main.body) (boot_heap P) s.heap && namesBound p s.heap && gensDone s && laidKept (boot_heap P) s.heap
theorem left {p q : Program} {ls : List Str} {Xt : Shared → Bool} {β : Type} {Yf : Shared → β} {Ya : World → β} {N lo : Nat} {an : Option Value} {tr : Params → BT}
    (ho : ∀ w : World, (fencedOpening treeTable p w N).map (fun s => (s.heap, s.gens, s.drawn, s.toks)) = some (boot_heap w.params, Array.mk [], boot_drawn, boot_toks))
    (hz : ∀ P : Params, ((boot_heap P).isNs mainGlobals, (boot_heap P).objs.size, (boot_heap P).nsMap mainGlobals "__annotations__") = (true, lo, an))
    (ht : ∀ P : Params, absHeap (tr P) lo (boot_heap P).life = boot_heap P)
    (hr : ∀ w : World, (fun os => (go p w lo an N ⟨tr w.params, lo, (boot_heap w.params).life, Array.mk [], boot_drawn, boot_toks, os⟩ (topStub p)).map fun x => (look p w.params x.abs, openSeen q ls (importedModules p.main.body) Xt true x.abs, Yf x.abs)) = fun _ => some (true, openGood q ls, Ya w)) :
    LeftO p q ls Xt Yf Ya N := by
  intro w
  obtain ⟨⟨h, g, d, k, os⟩, e1, e2⟩ := Option.map_eq_some_iff.mp (ho w)
  simp only [Prod.mk.injEq] at e2
  obtain ⟨rfl, rfl, rfl, rfl⟩ := e2
  have z := hz w.params
  simp only [Prod.mk.injEq] at z
  obtain ⟨z1, z2, z3⟩ := z
  obtain ⟨x, r1, r2⟩ := Option.map_eq_some_iff.mp (congrFun (hr w) os)
  simp only [Prod.mk.injEq] at r2
  obtain ⟨l1, l2, l3⟩ := r2
  have t := mO _ r1
  have ab : SharedT.abs ⟨tr w.params, lo, (boot_heap w.params).life, Array.mk [], boot_drawn, boot_toks, os⟩ = ⟨boot_heap w.params, Array.mk [], boot_drawn, boot_toks, os⟩ := by
    show Shared.mk (absHeap (tr w.params) lo (boot_heap w.params).life) _ _ _ _ = _
    rw [ht]
  rw [ab] at t
  have f : topFrom treeTable p w N ⟨boot_heap w.params, Array.mk [], boot_drawn, boot_toks, os⟩ = some x.abs := by
    unfold topFrom
    dsimp only
    rw [z1, z2, z3, t]
    show (match look p w.params x.abs with | true => some x.abs | false => none) = _
    rw [l1]
  unfold openEnds
  rw [e1]
  show (topFrom treeTable p w N _).map _ = _
  rw [f]
  show some (_, _) = _
  rw [l2, l3]
end TR
namespace K19
open PySem L2
abbrev kS (s : String) : Str := Str.ofString s
abbrev kR (a : Addr) : Value := .ref a
abbrev kY (s : String) : Value := .type s
abbrev kB (s : String) : Value := .builtin s
abbrev kZ (s : Str) (t : Tok) : Value := .str s t
abbrev kN : Value := .none
abbrev kD (h : Int) (k v : Value) : DictEntry := ⟨h, k, v⟩
abbrev kO (c : Value) (d : Option Addr) (t : Data) (s : Array (Option Value)) : Obj := ⟨c, d, t, s⟩
abbrev keyHash := PyData.keyHash
abbrev kE (P : Params) (s : String) (t : Tok) (v : Value) : DictEntry := ⟨keyHash P (kS s), kZ (kS s) t, v⟩
set_option maxRecDepth 100000 in
noncomputable def frag (P : Params) : PySem.W.Frag :=
  (nat_lit 2, (kO kN none (PySem.Data.dict #[] 0) #[]))::
  (nat_lit 3, (kO (kY "dict") none (PySem.Data.dict #[(kE P "__name__" 165 (kZ (kS "law_evenhall_k19_balances") 785)), (kE P "__doc__" 166 kN), (kE P "__package__" 167 kN), (kE P "__loader__" 168 (kB "__main__.__loader__#opaque")), (kE P "__spec__" 169 kN), (kE P "__annotations__" 170 (kR 6)), (kE P "__builtins__" 171 (kR 4)), (kE P "__file__" 173 (kZ (kS "/claim/cut.py") 172)), (kE P "__cached__" 174 kN), (kE P "_wall" 193 (kR 21)), (kE P "HouseError" 213 (kR 31)), (kE P "BadName" 236 (kR 51)), (kE P "BadDay" 259 (kR 70)), (kE P "BadCurrency" 282 (kR 89)), (kE P "BadPath" 305 (kR 108)), (kE P "BadKind" 328 (kR 127)), (kE P "NoAccount" 351 (kR 146)), (kE P "Twice" 374 (kR 165)), (kE P "NotOpen" 397 (kR 184)), (kE P "NoBooking" 420 (kR 203)), (kE P "is_whole" 429 (kR 212)), (kE P "is_among" 438 (kR 219)), (kE P "signs_lie" 444 (kR 224)), (kE P "is_name" 451 (kR 231)), (kE P "is_currency" 460 (kR 238)), (kE P "sums_of" 468 (kR 243)), (kE P "are_names" 476 (kR 248)), (kE P "is_path" 483 (kR 255)), (kE P "names_of" 490 (kR 262)), (kE P "above" 496 (kR 267)), (kE P "rows_of" 507 (kR 274)), (kE P "bookings_up_to" 513 (kR 279)), (kE P "balances" 522 (kR 286)), (kE P "is_day" 531 (kR 293)), (kE P "KINDS" 539 (kR 294)), (kE P "Account" 590 (kR 325)), (kE P "Chart" 711 (kR 423)), (kE P "Journal" 784 (kR 479)), (kE P "_law_cell_at" 794 (kR 490)), (kE P "_law_mixed" 802 (kR 497)), (kE P "_law_whole" 809 (kR 504)), (kE P "_law_names" 815 (kR 509)), (kE P "_law_paths" 829 (kR 516)), (kE P "_law_chart" 839 (kR 523)), (kE P "_law_currencies" 845 (kR 528)), (kE P "_law_first" 856 (kR 535)), (kE P "_law_day" 864 (kR 542)), (kE P "_law_amount" 872 (kR 549)), (kE P "_law_rows" 886 (kR 556)), (kE P "_law_due" 892 (kR 561)), (kE P "_law_told" 906 (kR 568)), (kE P "law" 912 (kR 573))] 52) #[]))::
  (nat_lit 15, (kO (kY "tuple") none (PySem.Data.seq #[] 0) #[]))::
  (nat_lit 17, (kO (kY "tuple") none (PySem.Data.seq #[(kZ (kS "k") 190)] 0) #[]))::
  (nat_lit 18, (kO (kY "tuple") none (PySem.Data.seq #[] 0) #[]))::
  (nat_lit 20, (kO (kY "code") none (PySem.Data.fields #[(kZ (kS "_wall") 187), (kZ (kS "_wall") 188), (kZ (kS "/claim/cut.py") 189), (PySem.Value.int (1 : Int) 0), (PySem.Value.int (1 : Int) 0), (PySem.Value.int (0 : Int) 0), (PySem.Value.int (0 : Int) 0), (PySem.Value.int (3 : Int) 0), (kR 15), (PySem.Value.bool true), (PySem.Value.int (181 : Int) 0), (kR 16), kN, (kR 17), (kR 18), (kR 19), (PySem.Value.int (191 : Int) 0), (PySem.Value.int (1 : Int) 0), (kZ (kS "/claim/cut.py") 192)]) #[]))::
  (nat_lit 21, (kO (kY "function") none (PySem.Data.func (PySem.FuncData.mk (kS "_wall") (kS "_wall") (PySem.Arguments.mk [] [(PySem.Arg.mk (kS "k") none (PySem.Pos.mk 1 10 1 11))] none [] [] none []) (PySem.FuncBody.stmts [(PySem.Stmt.While (PySem.Expr.Constant (PySem.Const.bool true) 0 (PySem.Pos.mk 2 10 2 14)) [(PySem.Stmt.Pass (PySem.Pos.mk 3 8 3 12))] [] (PySem.Pos.mk 2 4 3 12))]) (PySem.Scope.mk PySem.ScopeKind.function [((kS "k"), PySem.NameKind.local)] false false []) 3 [] kN kN kN (kZ (kS "__main__") 164) none (kR 20) kN 0)) #[]))::
  (nat_lit 22, (kO (kY "tuple") none (PySem.Data.seq #[(kY "ValueError")] 0) #[]))::
  (nat_lit 29, (kO (kY "tuple") none (PySem.Data.seq #[] 0) #[]))::
  (nat_lit 30, (kO (kY "dict") none (PySem.Data.dict #[(kE P "__module__" 203 (kZ (kS "evenhall.errors") 194)), (kE P "__firstlineno__" 207 (PySem.Value.int (5 : Int) 206)), (kE P "__static_attributes__" 208 (kR 29)), (kE P "__weakref__" 210 (kR 32)), (kE P "__doc__" 211 kN)] 3) #[]))::
  (nat_lit 31, (kO (kY "type") none (PySem.Data.cls (PySem.ClassData.mk (kS "HouseError") [(kY "ValueError")] [(kR 31), (kY "ValueError"), (kY "Exception"), (kY "BaseException"), (kY "object")] 30 (kS "HouseError") true [] [(kR 51), (kR 70), (kR 89), (kR 108), (kR 127), (kR 146), (kR 165), (kR 184), (kR 203)] false none false)) #[(some (kR 22)), none, (some (kZ (kS "HouseError") 196)), (some (kZ (kS "HouseError") 204)), (some (kB "ValueError.__new__")), (some (PySem.Value.bool true))]))::
  (nat_lit 32, (kO (kY "getset_descriptor") none (PySem.Data.fields #[(kZ (kS "__weakref__") 209), (kR 31), (kB "ExceptionGroup.__weakref__"), kN]) #[]))::
  (nat_lit 35, (kO (kY "tuple") none (PySem.Data.seq #[(kR 31)] 0) #[]))::
  (nat_lit 42, (kO (kY "tuple") none (PySem.Data.seq #[] 0) #[]))::
  (nat_lit 44, (kO (kY "tuple") none (PySem.Data.seq #[(kZ (kS "self") 229)] 0) #[]))::
  (nat_lit 45, (kO (kY "tuple") none (PySem.Data.seq #[] 0) #[]))::
  (nat_lit 47, (kO (kY "code") none (PySem.Data.fields #[(kZ (kS "small_words") 226), (kZ (kS "BadName.small_words") 227), (kZ (kS "/claim/cut.py") 228), (PySem.Value.int (9 : Int) 0), (PySem.Value.int (1 : Int) 0), (PySem.Value.int (0 : Int) 0), (PySem.Value.int (0 : Int) 0), (PySem.Value.int (3 : Int) 0), (kR 42), (PySem.Value.bool true), (PySem.Value.int (181 : Int) 0), (kR 43), kN, (kR 44), (kR 45), (kR 46), (PySem.Value.int (230 : Int) 0), (PySem.Value.int (9 : Int) 0), (kZ (kS "/claim/cut.py") 231)]) #[]))::
  (nat_lit 48, (kO (kY "function") none (PySem.Data.func (PySem.FuncData.mk (kS "small_words") (kS "BadName.small_words") (PySem.Arguments.mk [] [(PySem.Arg.mk (kS "self") none (PySem.Pos.mk 9 20 9 24))] none [] [] none []) (PySem.FuncBody.stmts [(PySem.Stmt.Expr (PySem.Expr.Call (PySem.Expr.Name (kS "_wall") (PySem.Pos.mk 10 8 10 13)) [(PySem.Expr.Constant (PySem.Const.int (0 : Int)) 0 (PySem.Pos.mk 10 14 10 15))] [] (PySem.Pos.mk 10 8 10 16)) (PySem.Pos.mk 10 8 10 16))]) (PySem.Scope.mk PySem.ScopeKind.function [((kS "self"), PySem.NameKind.local), ((kS "_wall"), PySem.NameKind.globalImplicit)] false false []) 3 [] kN kN kN (kZ (kS "evenhall.errors") 194) none (kR 47) kN 0)) #[]))::
  (nat_lit 49, (kO (kY "tuple") none (PySem.Data.seq #[] 0) #[]))::
  (nat_lit 50, (kO (kY "dict") none (PySem.Data.dict #[(kE P "__module__" 221 (kZ (kS "evenhall.errors") 194)), (kE P "__firstlineno__" 225 (PySem.Value.int (7 : Int) 224)), (kE P "small_words" 232 (kR 48)), (kE P "__static_attributes__" 233 (kR 49)), (kE P "__doc__" 234 kN)] 2) #[]))::
  (nat_lit 51, (kO (kY "type") none (PySem.Data.cls (PySem.ClassData.mk (kS "BadName") [(kR 31)] [(kR 51), (kR 31), (kY "ValueError"), (kY "Exception"), (kY "BaseException"), (kY "object")] 50 (kS "BadName") true [] [] false none false)) #[(some (kR 35)), none, (some (kZ (kS "BadName") 214)), (some (kZ (kS "BadName") 222)), (some (kB "ValueError.__new__")), (some (PySem.Value.bool true))]))::
  (nat_lit 54, (kO (kY "tuple") none (PySem.Data.seq #[(kR 31)] 0) #[]))::
  (nat_lit 61, (kO (kY "tuple") none (PySem.Data.seq #[] 0) #[]))::
  (nat_lit 63, (kO (kY "tuple") none (PySem.Data.seq #[(kZ (kS "self") 252)] 0) #[]))::
  (nat_lit 64, (kO (kY "tuple") none (PySem.Data.seq #[] 0) #[]))::
  (nat_lit 66, (kO (kY "code") none (PySem.Data.fields #[(kZ (kS "small_words") 249), (kZ (kS "BadDay.small_words") 250), (kZ (kS "/claim/cut.py") 251), (PySem.Value.int (13 : Int) 0), (PySem.Value.int (1 : Int) 0), (PySem.Value.int (0 : Int) 0), (PySem.Value.int (0 : Int) 0), (PySem.Value.int (3 : Int) 0), (kR 61), (PySem.Value.bool true), (PySem.Value.int (181 : Int) 0), (kR 62), kN, (kR 63), (kR 64), (kR 65), (PySem.Value.int (253 : Int) 0), (PySem.Value.int (13 : Int) 0), (kZ (kS "/claim/cut.py") 254)]) #[]))::
  (nat_lit 67, (kO (kY "function") none (PySem.Data.func (PySem.FuncData.mk (kS "small_words") (kS "BadDay.small_words") (PySem.Arguments.mk [] [(PySem.Arg.mk (kS "self") none (PySem.Pos.mk 13 20 13 24))] none [] [] none []) (PySem.FuncBody.stmts [(PySem.Stmt.Expr (PySem.Expr.Call (PySem.Expr.Name (kS "_wall") (PySem.Pos.mk 14 8 14 13)) [(PySem.Expr.Constant (PySem.Const.int (1 : Int)) 0 (PySem.Pos.mk 14 14 14 15))] [] (PySem.Pos.mk 14 8 14 16)) (PySem.Pos.mk 14 8 14 16))]) (PySem.Scope.mk PySem.ScopeKind.function [((kS "self"), PySem.NameKind.local), ((kS "_wall"), PySem.NameKind.globalImplicit)] false false []) 3 [] kN kN kN (kZ (kS "evenhall.errors") 194) none (kR 66) kN 0)) #[]))::
  (nat_lit 68, (kO (kY "tuple") none (PySem.Data.seq #[] 0) #[]))::
  (nat_lit 69, (kO (kY "dict") none (PySem.Data.dict #[(kE P "__module__" 244 (kZ (kS "evenhall.errors") 194)), (kE P "__firstlineno__" 248 (PySem.Value.int (11 : Int) 247)), (kE P "small_words" 255 (kR 67)), (kE P "__static_attributes__" 256 (kR 68)), (kE P "__doc__" 257 kN)] 2) #[]))::
  (nat_lit 70, (kO (kY "type") none (PySem.Data.cls (PySem.ClassData.mk (kS "BadDay") [(kR 31)] [(kR 70), (kR 31), (kY "ValueError"), (kY "Exception"), (kY "BaseException"), (kY "object")] 69 (kS "BadDay") true [] [] false none false)) #[(some (kR 54)), none, (some (kZ (kS "BadDay") 237)), (some (kZ (kS "BadDay") 245)), (some (kB "ValueError.__new__")), (some (PySem.Value.bool true))]))::
  (nat_lit 73, (kO (kY "tuple") none (PySem.Data.seq #[(kR 31)] 0) #[]))::
  (nat_lit 80, (kO (kY "tuple") none (PySem.Data.seq #[] 0) #[]))::
  (nat_lit 82, (kO (kY "tuple") none (PySem.Data.seq #[(kZ (kS "self") 275)] 0) #[]))::
  (nat_lit 83, (kO (kY "tuple") none (PySem.Data.seq #[] 0) #[]))::
  (nat_lit 85, (kO (kY "code") none (PySem.Data.fields #[(kZ (kS "small_words") 272), (kZ (kS "BadCurrency.small_words") 273), (kZ (kS "/claim/cut.py") 274), (PySem.Value.int (17 : Int) 0), (PySem.Value.int (1 : Int) 0), (PySem.Value.int (0 : Int) 0), (PySem.Value.int (0 : Int) 0), (PySem.Value.int (3 : Int) 0), (kR 80), (PySem.Value.bool true), (PySem.Value.int (181 : Int) 0), (kR 81), kN, (kR 82), (kR 83), (kR 84), (PySem.Value.int (276 : Int) 0), (PySem.Value.int (17 : Int) 0), (kZ (kS "/claim/cut.py") 277)]) #[]))::
  (nat_lit 86, (kO (kY "function") none (PySem.Data.func (PySem.FuncData.mk (kS "small_words") (kS "BadCurrency.small_words") (PySem.Arguments.mk [] [(PySem.Arg.mk (kS "self") none (PySem.Pos.mk 17 20 17 24))] none [] [] none []) (PySem.FuncBody.stmts [(PySem.Stmt.Expr (PySem.Expr.Call (PySem.Expr.Name (kS "_wall") (PySem.Pos.mk 18 8 18 13)) [(PySem.Expr.Constant (PySem.Const.int (2 : Int)) 0 (PySem.Pos.mk 18 14 18 15))] [] (PySem.Pos.mk 18 8 18 16)) (PySem.Pos.mk 18 8 18 16))]) (PySem.Scope.mk PySem.ScopeKind.function [((kS "self"), PySem.NameKind.local), ((kS "_wall"), PySem.NameKind.globalImplicit)] false false []) 3 [] kN kN kN (kZ (kS "evenhall.errors") 194) none (kR 85) kN 0)) #[]))::
  (nat_lit 87, (kO (kY "tuple") none (PySem.Data.seq #[] 0) #[]))::
  (nat_lit 88, (kO (kY "dict") none (PySem.Data.dict #[(kE P "__module__" 267 (kZ (kS "evenhall.errors") 194)), (kE P "__firstlineno__" 271 (PySem.Value.int (15 : Int) 270)), (kE P "small_words" 278 (kR 86)), (kE P "__static_attributes__" 279 (kR 87)), (kE P "__doc__" 280 kN)] 2) #[]))::
  (nat_lit 89, (kO (kY "type") none (PySem.Data.cls (PySem.ClassData.mk (kS "BadCurrency") [(kR 31)] [(kR 89), (kR 31), (kY "ValueError"), (kY "Exception"), (kY "BaseException"), (kY "object")] 88 (kS "BadCurrency") true [] [] false none false)) #[(some (kR 73)), none, (some (kZ (kS "BadCurrency") 260)), (some (kZ (kS "BadCurrency") 268)), (some (kB "ValueError.__new__")), (some (PySem.Value.bool true))]))::
  (nat_lit 92, (kO (kY "tuple") none (PySem.Data.seq #[(kR 31)] 0) #[]))::
  (nat_lit 99, (kO (kY "tuple") none (PySem.Data.seq #[] 0) #[]))::
  (nat_lit 101, (kO (kY "tuple") none (PySem.Data.seq #[(kZ (kS "self") 298)] 0) #[]))::
  (nat_lit 102, (kO (kY "tuple") none (PySem.Data.seq #[] 0) #[]))::
  (nat_lit 104, (kO (kY "code") none (PySem.Data.fields #[(kZ (kS "small_words") 295), (kZ (kS "BadPath.small_words") 296), (kZ (kS "/claim/cut.py") 297), (PySem.Value.int (21 : Int) 0), (PySem.Value.int (1 : Int) 0), (PySem.Value.int (0 : Int) 0), (PySem.Value.int (0 : Int) 0), (PySem.Value.int (3 : Int) 0), (kR 99), (PySem.Value.bool true), (PySem.Value.int (181 : Int) 0), (kR 100), kN, (kR 101), (kR 102), (kR 103), (PySem.Value.int (299 : Int) 0), (PySem.Value.int (21 : Int) 0), (kZ (kS "/claim/cut.py") 300)]) #[]))::
  (nat_lit 105, (kO (kY "function") none (PySem.Data.func (PySem.FuncData.mk (kS "small_words") (kS "BadPath.small_words") (PySem.Arguments.mk [] [(PySem.Arg.mk (kS "self") none (PySem.Pos.mk 21 20 21 24))] none [] [] none []) (PySem.FuncBody.stmts [(PySem.Stmt.Expr (PySem.Expr.Call (PySem.Expr.Name (kS "_wall") (PySem.Pos.mk 22 8 22 13)) [(PySem.Expr.Constant (PySem.Const.int (3 : Int)) 0 (PySem.Pos.mk 22 14 22 15))] [] (PySem.Pos.mk 22 8 22 16)) (PySem.Pos.mk 22 8 22 16))]) (PySem.Scope.mk PySem.ScopeKind.function [((kS "self"), PySem.NameKind.local), ((kS "_wall"), PySem.NameKind.globalImplicit)] false false []) 3 [] kN kN kN (kZ (kS "evenhall.errors") 194) none (kR 104) kN 0)) #[]))::
  (nat_lit 106, (kO (kY "tuple") none (PySem.Data.seq #[] 0) #[]))::
  (nat_lit 107, (kO (kY "dict") none (PySem.Data.dict #[(kE P "__module__" 290 (kZ (kS "evenhall.errors") 194)), (kE P "__firstlineno__" 294 (PySem.Value.int (19 : Int) 293)), (kE P "small_words" 301 (kR 105)), (kE P "__static_attributes__" 302 (kR 106)), (kE P "__doc__" 303 kN)] 2) #[]))::
  (nat_lit 108, (kO (kY "type") none (PySem.Data.cls (PySem.ClassData.mk (kS "BadPath") [(kR 31)] [(kR 108), (kR 31), (kY "ValueError"), (kY "Exception"), (kY "BaseException"), (kY "object")] 107 (kS "BadPath") true [] [] false none false)) #[(some (kR 92)), none, (some (kZ (kS "BadPath") 283)), (some (kZ (kS "BadPath") 291)), (some (kB "ValueError.__new__")), (some (PySem.Value.bool true))]))::
  (nat_lit 111, (kO (kY "tuple") none (PySem.Data.seq #[(kR 31)] 0) #[]))::
  (nat_lit 118, (kO (kY "tuple") none (PySem.Data.seq #[] 0) #[]))::
  (nat_lit 120, (kO (kY "tuple") none (PySem.Data.seq #[(kZ (kS "self") 321)] 0) #[]))::
  (nat_lit 121, (kO (kY "tuple") none (PySem.Data.seq #[] 0) #[]))::
  (nat_lit 123, (kO (kY "code") none (PySem.Data.fields #[(kZ (kS "small_words") 318), (kZ (kS "BadKind.small_words") 319), (kZ (kS "/claim/cut.py") 320), (PySem.Value.int (25 : Int) 0), (PySem.Value.int (1 : Int) 0), (PySem.Value.int (0 : Int) 0), (PySem.Value.int (0 : Int) 0), (PySem.Value.int (3 : Int) 0), (kR 118), (PySem.Value.bool true), (PySem.Value.int (181 : Int) 0), (kR 119), kN, (kR 120), (kR 121), (kR 122), (PySem.Value.int (322 : Int) 0), (PySem.Value.int (25 : Int) 0), (kZ (kS "/claim/cut.py") 323)]) #[]))::
  (nat_lit 124, (kO (kY "function") none (PySem.Data.func (PySem.FuncData.mk (kS "small_words") (kS "BadKind.small_words") (PySem.Arguments.mk [] [(PySem.Arg.mk (kS "self") none (PySem.Pos.mk 25 20 25 24))] none [] [] none []) (PySem.FuncBody.stmts [(PySem.Stmt.Expr (PySem.Expr.Call (PySem.Expr.Name (kS "_wall") (PySem.Pos.mk 26 8 26 13)) [(PySem.Expr.Constant (PySem.Const.int (4 : Int)) 0 (PySem.Pos.mk 26 14 26 15))] [] (PySem.Pos.mk 26 8 26 16)) (PySem.Pos.mk 26 8 26 16))]) (PySem.Scope.mk PySem.ScopeKind.function [((kS "self"), PySem.NameKind.local), ((kS "_wall"), PySem.NameKind.globalImplicit)] false false []) 3 [] kN kN kN (kZ (kS "evenhall.errors") 194) none (kR 123) kN 0)) #[]))::
  (nat_lit 125, (kO (kY "tuple") none (PySem.Data.seq #[] 0) #[]))::
  (nat_lit 126, (kO (kY "dict") none (PySem.Data.dict #[(kE P "__module__" 313 (kZ (kS "evenhall.errors") 194)), (kE P "__firstlineno__" 317 (PySem.Value.int (23 : Int) 316)), (kE P "small_words" 324 (kR 124)), (kE P "__static_attributes__" 325 (kR 125)), (kE P "__doc__" 326 kN)] 2) #[]))::
  (nat_lit 127, (kO (kY "type") none (PySem.Data.cls (PySem.ClassData.mk (kS "BadKind") [(kR 31)] [(kR 127), (kR 31), (kY "ValueError"), (kY "Exception"), (kY "BaseException"), (kY "object")] 126 (kS "BadKind") true [] [] false none false)) #[(some (kR 111)), none, (some (kZ (kS "BadKind") 306)), (some (kZ (kS "BadKind") 314)), (some (kB "ValueError.__new__")), (some (PySem.Value.bool true))]))::
  (nat_lit 130, (kO (kY "tuple") none (PySem.Data.seq #[(kR 31)] 0) #[]))::
  (nat_lit 137, (kO (kY "tuple") none (PySem.Data.seq #[] 0) #[]))::
  (nat_lit 139, (kO (kY "tuple") none (PySem.Data.seq #[(kZ (kS "self") 344)] 0) #[]))::
  (nat_lit 140, (kO (kY "tuple") none (PySem.Data.seq #[] 0) #[]))::
  (nat_lit 142, (kO (kY "code") none (PySem.Data.fields #[(kZ (kS "small_words") 341), (kZ (kS "NoAccount.small_words") 342), (kZ (kS "/claim/cut.py") 343), (PySem.Value.int (29 : Int) 0), (PySem.Value.int (1 : Int) 0), (PySem.Value.int (0 : Int) 0), (PySem.Value.int (0 : Int) 0), (PySem.Value.int (3 : Int) 0), (kR 137), (PySem.Value.bool true), (PySem.Value.int (181 : Int) 0), (kR 138), kN, (kR 139), (kR 140), (kR 141), (PySem.Value.int (345 : Int) 0), (PySem.Value.int (29 : Int) 0), (kZ (kS "/claim/cut.py") 346)]) #[]))::
  (nat_lit 143, (kO (kY "function") none (PySem.Data.func (PySem.FuncData.mk (kS "small_words") (kS "NoAccount.small_words") (PySem.Arguments.mk [] [(PySem.Arg.mk (kS "self") none (PySem.Pos.mk 29 20 29 24))] none [] [] none []) (PySem.FuncBody.stmts [(PySem.Stmt.Expr (PySem.Expr.Call (PySem.Expr.Name (kS "_wall") (PySem.Pos.mk 30 8 30 13)) [(PySem.Expr.Constant (PySem.Const.int (5 : Int)) 0 (PySem.Pos.mk 30 14 30 15))] [] (PySem.Pos.mk 30 8 30 16)) (PySem.Pos.mk 30 8 30 16))]) (PySem.Scope.mk PySem.ScopeKind.function [((kS "self"), PySem.NameKind.local), ((kS "_wall"), PySem.NameKind.globalImplicit)] false false []) 3 [] kN kN kN (kZ (kS "evenhall.errors") 194) none (kR 142) kN 0)) #[]))::
  (nat_lit 144, (kO (kY "tuple") none (PySem.Data.seq #[] 0) #[]))::
  (nat_lit 145, (kO (kY "dict") none (PySem.Data.dict #[(kE P "__module__" 336 (kZ (kS "evenhall.errors") 194)), (kE P "__firstlineno__" 340 (PySem.Value.int (27 : Int) 339)), (kE P "small_words" 347 (kR 143)), (kE P "__static_attributes__" 348 (kR 144)), (kE P "__doc__" 349 kN)] 2) #[]))::
  (nat_lit 146, (kO (kY "type") none (PySem.Data.cls (PySem.ClassData.mk (kS "NoAccount") [(kR 31)] [(kR 146), (kR 31), (kY "ValueError"), (kY "Exception"), (kY "BaseException"), (kY "object")] 145 (kS "NoAccount") true [] [] false none false)) #[(some (kR 130)), none, (some (kZ (kS "NoAccount") 329)), (some (kZ (kS "NoAccount") 337)), (some (kB "ValueError.__new__")), (some (PySem.Value.bool true))]))::
  (nat_lit 149, (kO (kY "tuple") none (PySem.Data.seq #[(kR 31)] 0) #[]))::
  (nat_lit 156, (kO (kY "tuple") none (PySem.Data.seq #[] 0) #[]))::
  (nat_lit 158, (kO (kY "tuple") none (PySem.Data.seq #[(kZ (kS "self") 367)] 0) #[]))::
  (nat_lit 159, (kO (kY "tuple") none (PySem.Data.seq #[] 0) #[]))::
  (nat_lit 161, (kO (kY "code") none (PySem.Data.fields #[(kZ (kS "small_words") 364), (kZ (kS "Twice.small_words") 365), (kZ (kS "/claim/cut.py") 366), (PySem.Value.int (33 : Int) 0), (PySem.Value.int (1 : Int) 0), (PySem.Value.int (0 : Int) 0), (PySem.Value.int (0 : Int) 0), (PySem.Value.int (3 : Int) 0), (kR 156), (PySem.Value.bool true), (PySem.Value.int (181 : Int) 0), (kR 157), kN, (kR 158), (kR 159), (kR 160), (PySem.Value.int (368 : Int) 0), (PySem.Value.int (33 : Int) 0), (kZ (kS "/claim/cut.py") 369)]) #[]))::
  (nat_lit 162, (kO (kY "function") none (PySem.Data.func (PySem.FuncData.mk (kS "small_words") (kS "Twice.small_words") (PySem.Arguments.mk [] [(PySem.Arg.mk (kS "self") none (PySem.Pos.mk 33 20 33 24))] none [] [] none []) (PySem.FuncBody.stmts [(PySem.Stmt.Expr (PySem.Expr.Call (PySem.Expr.Name (kS "_wall") (PySem.Pos.mk 34 8 34 13)) [(PySem.Expr.Constant (PySem.Const.int (6 : Int)) 0 (PySem.Pos.mk 34 14 34 15))] [] (PySem.Pos.mk 34 8 34 16)) (PySem.Pos.mk 34 8 34 16))]) (PySem.Scope.mk PySem.ScopeKind.function [((kS "self"), PySem.NameKind.local), ((kS "_wall"), PySem.NameKind.globalImplicit)] false false []) 3 [] kN kN kN (kZ (kS "evenhall.errors") 194) none (kR 161) kN 0)) #[]))::
  (nat_lit 163, (kO (kY "tuple") none (PySem.Data.seq #[] 0) #[]))::
  (nat_lit 164, (kO (kY "dict") none (PySem.Data.dict #[(kE P "__module__" 359 (kZ (kS "evenhall.errors") 194)), (kE P "__firstlineno__" 363 (PySem.Value.int (31 : Int) 362)), (kE P "small_words" 370 (kR 162)), (kE P "__static_attributes__" 371 (kR 163)), (kE P "__doc__" 372 kN)] 2) #[]))::
  (nat_lit 165, (kO (kY "type") none (PySem.Data.cls (PySem.ClassData.mk (kS "Twice") [(kR 31)] [(kR 165), (kR 31), (kY "ValueError"), (kY "Exception"), (kY "BaseException"), (kY "object")] 164 (kS "Twice") true [] [] false none false)) #[(some (kR 149)), none, (some (kZ (kS "Twice") 352)), (some (kZ (kS "Twice") 360)), (some (kB "ValueError.__new__")), (some (PySem.Value.bool true))]))::
  (nat_lit 168, (kO (kY "tuple") none (PySem.Data.seq #[(kR 31)] 0) #[]))::
  (nat_lit 175, (kO (kY "tuple") none (PySem.Data.seq #[] 0) #[]))::
  (nat_lit 177, (kO (kY "tuple") none (PySem.Data.seq #[(kZ (kS "self") 390)] 0) #[]))::
  (nat_lit 178, (kO (kY "tuple") none (PySem.Data.seq #[] 0) #[]))::
  (nat_lit 180, (kO (kY "code") none (PySem.Data.fields #[(kZ (kS "small_words") 387), (kZ (kS "NotOpen.small_words") 388), (kZ (kS "/claim/cut.py") 389), (PySem.Value.int (37 : Int) 0), (PySem.Value.int (1 : Int) 0), (PySem.Value.int (0 : Int) 0), (PySem.Value.int (0 : Int) 0), (PySem.Value.int (3 : Int) 0), (kR 175), (PySem.Value.bool true), (PySem.Value.int (181 : Int) 0), (kR 176), kN, (kR 177), (kR 178), (kR 179), (PySem.Value.int (391 : Int) 0), (PySem.Value.int (37 : Int) 0), (kZ (kS "/claim/cut.py") 392)]) #[]))::
  (nat_lit 181, (kO (kY "function") none (PySem.Data.func (PySem.FuncData.mk (kS "small_words") (kS "NotOpen.small_words") (PySem.Arguments.mk [] [(PySem.Arg.mk (kS "self") none (PySem.Pos.mk 37 20 37 24))] none [] [] none []) (PySem.FuncBody.stmts [(PySem.Stmt.Expr (PySem.Expr.Call (PySem.Expr.Name (kS "_wall") (PySem.Pos.mk 38 8 38 13)) [(PySem.Expr.Constant (PySem.Const.int (7 : Int)) 0 (PySem.Pos.mk 38 14 38 15))] [] (PySem.Pos.mk 38 8 38 16)) (PySem.Pos.mk 38 8 38 16))]) (PySem.Scope.mk PySem.ScopeKind.function [((kS "self"), PySem.NameKind.local), ((kS "_wall"), PySem.NameKind.globalImplicit)] false false []) 3 [] kN kN kN (kZ (kS "evenhall.errors") 194) none (kR 180) kN 0)) #[]))::
  (nat_lit 182, (kO (kY "tuple") none (PySem.Data.seq #[] 0) #[]))::
  (nat_lit 183, (kO (kY "dict") none (PySem.Data.dict #[(kE P "__module__" 382 (kZ (kS "evenhall.errors") 194)), (kE P "__firstlineno__" 386 (PySem.Value.int (35 : Int) 385)), (kE P "small_words" 393 (kR 181)), (kE P "__static_attributes__" 394 (kR 182)), (kE P "__doc__" 395 kN)] 2) #[]))::
  (nat_lit 184, (kO (kY "type") none (PySem.Data.cls (PySem.ClassData.mk (kS "NotOpen") [(kR 31)] [(kR 184), (kR 31), (kY "ValueError"), (kY "Exception"), (kY "BaseException"), (kY "object")] 183 (kS "NotOpen") true [] [] false none false)) #[(some (kR 168)), none, (some (kZ (kS "NotOpen") 375)), (some (kZ (kS "NotOpen") 383)), (some (kB "ValueError.__new__")), (some (PySem.Value.bool true))]))::
  (nat_lit 187, (kO (kY "tuple") none (PySem.Data.seq #[(kR 31)] 0) #[]))::
  (nat_lit 194, (kO (kY "tuple") none (PySem.Data.seq #[] 0) #[]))::
  (nat_lit 196, (kO (kY "tuple") none (PySem.Data.seq #[(kZ (kS "self") 413)] 0) #[]))::
  (nat_lit 197, (kO (kY "tuple") none (PySem.Data.seq #[] 0) #[]))::
  (nat_lit 199, (kO (kY "code") none (PySem.Data.fields #[(kZ (kS "small_words") 410), (kZ (kS "NoBooking.small_words") 411), (kZ (kS "/claim/cut.py") 412), (PySem.Value.int (41 : Int) 0), (PySem.Value.int (1 : Int) 0), (PySem.Value.int (0 : Int) 0), (PySem.Value.int (0 : Int) 0), (PySem.Value.int (3 : Int) 0), (kR 194), (PySem.Value.bool true), (PySem.Value.int (181 : Int) 0), (kR 195), kN, (kR 196), (kR 197), (kR 198), (PySem.Value.int (414 : Int) 0), (PySem.Value.int (41 : Int) 0), (kZ (kS "/claim/cut.py") 415)]) #[]))::
  (nat_lit 200, (kO (kY "function") none (PySem.Data.func (PySem.FuncData.mk (kS "small_words") (kS "NoBooking.small_words") (PySem.Arguments.mk [] [(PySem.Arg.mk (kS "self") none (PySem.Pos.mk 41 20 41 24))] none [] [] none []) (PySem.FuncBody.stmts [(PySem.Stmt.Expr (PySem.Expr.Call (PySem.Expr.Name (kS "_wall") (PySem.Pos.mk 42 8 42 13)) [(PySem.Expr.Constant (PySem.Const.int (8 : Int)) 0 (PySem.Pos.mk 42 14 42 15))] [] (PySem.Pos.mk 42 8 42 16)) (PySem.Pos.mk 42 8 42 16))]) (PySem.Scope.mk PySem.ScopeKind.function [((kS "self"), PySem.NameKind.local), ((kS "_wall"), PySem.NameKind.globalImplicit)] false false []) 3 [] kN kN kN (kZ (kS "evenhall.errors") 194) none (kR 199) kN 0)) #[]))::
  (nat_lit 201, (kO (kY "tuple") none (PySem.Data.seq #[] 0) #[]))::
  (nat_lit 202, (kO (kY "dict") none (PySem.Data.dict #[(kE P "__module__" 405 (kZ (kS "evenhall.errors") 194)), (kE P "__firstlineno__" 409 (PySem.Value.int (39 : Int) 408)), (kE P "small_words" 416 (kR 200)), (kE P "__static_attributes__" 417 (kR 201)), (kE P "__doc__" 418 kN)] 2) #[]))::
  (nat_lit 203, (kO (kY "type") none (PySem.Data.cls (PySem.ClassData.mk (kS "NoBooking") [(kR 31)] [(kR 203), (kR 31), (kY "ValueError"), (kY "Exception"), (kY "BaseException"), (kY "object")] 202 (kS "NoBooking") true [] [] false none false)) #[(some (kR 187)), none, (some (kZ (kS "NoBooking") 398)), (some (kZ (kS "NoBooking") 406)), (some (kB "ValueError.__new__")), (some (PySem.Value.bool true))]))::
  (nat_lit 206, (kO (kY "tuple") none (PySem.Data.seq #[] 0) #[]))::
  (nat_lit 208, (kO (kY "tuple") none (PySem.Data.seq #[(kZ (kS "thing") 426)] 0) #[]))::
  (nat_lit 209, (kO (kY "tuple") none (PySem.Data.seq #[] 0) #[]))::
  (nat_lit 211, (kO (kY "code") none (PySem.Data.fields #[(kZ (kS "is_whole") 423), (kZ (kS "is_whole") 424), (kZ (kS "/claim/cut.py") 425), (PySem.Value.int (44 : Int) 0), (PySem.Value.int (1 : Int) 0), (PySem.Value.int (0 : Int) 0), (PySem.Value.int (0 : Int) 0), (PySem.Value.int (3 : Int) 0), (kR 206), (PySem.Value.bool true), (PySem.Value.int (181 : Int) 0), (kR 207), kN, (kR 208), (kR 209), (kR 210), (PySem.Value.int (427 : Int) 0), (PySem.Value.int (44 : Int) 0), (kZ (kS "/claim/cut.py") 428)]) #[]))::
  (nat_lit 212, (kO (kY "function") none (PySem.Data.func (PySem.W.fnOf (kS "is_whole") (kS "is_whole") (ay bY) (av bY) (af bY) kN kN kN (kZ (kS "evenhall.words") 421) none (kR 211) kN)) #[]))::
  (nat_lit 213, (kO (kY "tuple") none (PySem.Data.seq #[] 0) #[]))::
  (nat_lit 215, (kO (kY "tuple") none (PySem.Data.seq #[(kZ (kS "thing") 433), (kZ (kS "least") 434), (kZ (kS "most") 435)] 0) #[]))::
  (nat_lit 216, (kO (kY "tuple") none (PySem.Data.seq #[] 0) #[]))::
  (nat_lit 218, (kO (kY "code") none (PySem.Data.fields #[(kZ (kS "is_among") 430), (kZ (kS "is_among") 431), (kZ (kS "/claim/cut.py") 432), (PySem.Value.int (46 : Int) 0), (PySem.Value.int (3 : Int) 0), (PySem.Value.int (0 : Int) 0), (PySem.Value.int (0 : Int) 0), (PySem.Value.int (3 : Int) 0), (kR 213), (PySem.Value.bool true), (PySem.Value.int (181 : Int) 0), (kR 214), kN, (kR 215), (kR 216), (kR 217), (PySem.Value.int (436 : Int) 0), (PySem.Value.int (46 : Int) 0), (kZ (kS "/claim/cut.py") 437)]) #[]))::
  (nat_lit 219, (kO (kY "function") none (PySem.Data.func (PySem.W.fnOf (kS "is_among") (kS "is_among") (ay b4) (av b4) (af b4) kN kN kN (kZ (kS "evenhall.words") 421) none (kR 218) kN)) #[]))::
  (nat_lit 220, (kO (kY "tuple") none (PySem.Data.seq #[] 0) #[]))::
  (nat_lit 223, (kO (kY "code") none (PySem.Data.fields #[(kZ (kS "signs_lie") 439), (kZ (kS "signs_lie") 440), (kZ (kS "/claim/cut.py") 441), (PySem.Value.int (48 : Int) 0), (PySem.Value.int (3 : Int) 0), (PySem.Value.int (0 : Int) 0), (PySem.Value.int (0 : Int) 0), (PySem.Value.int (3 : Int) 0), (kR 220), (PySem.Value.bool true), (PySem.Value.int (181 : Int) 0), (kR 221), kN, kN, kN, (kR 222), (PySem.Value.int (442 : Int) 0), (PySem.Value.int (48 : Int) 0), (kZ (kS "/claim/cut.py") 443)]) #[]))::
  (nat_lit 224, (kO (kY "function") none (PySem.Data.func (PySem.W.fnOf (kS "signs_lie") (kS "signs_lie") (ay bR) (av bR) (af bR) kN kN kN (kZ (kS "evenhall.words") 421) none (kR 223) kN)) #[]))::
  (nat_lit 225, (kO (kY "tuple") none (PySem.Data.seq #[] 0) #[]))::
  (nat_lit 227, (kO (kY "tuple") none (PySem.Data.seq #[(kZ (kS "thing") 448)] 0) #[]))::
  (nat_lit 228, (kO (kY "tuple") none (PySem.Data.seq #[] 0) #[]))::
  (nat_lit 230, (kO (kY "code") none (PySem.Data.fields #[(kZ (kS "is_name") 445), (kZ (kS "is_name") 446), (kZ (kS "/claim/cut.py") 447), (PySem.Value.int (50 : Int) 0), (PySem.Value.int (1 : Int) 0), (PySem.Value.int (0 : Int) 0), (PySem.Value.int (0 : Int) 0), (PySem.Value.int (3 : Int) 0), (kR 225), (PySem.Value.bool true), (PySem.Value.int (181 : Int) 0), (kR 226), kN, (kR 227), (kR 228), (kR 229), (PySem.Value.int (449 : Int) 0), (PySem.Value.int (50 : Int) 0), (kZ (kS "/claim/cut.py") 450)]) #[]))::
  (nat_lit 231, (kO (kY "function") none (PySem.Data.func (PySem.W.fnOf (kS "is_name") (kS "is_name") (ay cw) (av cw) (af cw) kN kN kN (kZ (kS "evenhall.words") 421) none (kR 230) kN)) #[]))::
  (nat_lit 232, (kO (kY "tuple") none (PySem.Data.seq #[] 0) #[]))::
  (nat_lit 234, (kO (kY "tuple") none (PySem.Data.seq #[(kZ (kS "thing") 457)] 0) #[]))::
  (nat_lit 235, (kO (kY "tuple") none (PySem.Data.seq #[] 0) #[]))::
  (nat_lit 237, (kO (kY "code") none (PySem.Data.fields #[(kZ (kS "is_currency") 454), (kZ (kS "is_currency") 455), (kZ (kS "/claim/cut.py") 456), (PySem.Value.int (53 : Int) 0), (PySem.Value.int (1 : Int) 0), (PySem.Value.int (0 : Int) 0), (PySem.Value.int (0 : Int) 0), (PySem.Value.int (3 : Int) 0), (kR 232), (PySem.Value.bool true), (PySem.Value.int (181 : Int) 0), (kR 233), kN, (kR 234), (kR 235), (kR 236), (PySem.Value.int (458 : Int) 0), (PySem.Value.int (53 : Int) 0), (kZ (kS "/claim/cut.py") 459)]) #[]))::
  (nat_lit 238, (kO (kY "function") none (PySem.Data.func (PySem.W.fnOf (kS "is_currency") (kS "is_currency") (ay ba) (av ba) (af ba) kN kN kN (kZ (kS "evenhall.money") 452) none (kR 237) kN)) #[]))::
  (nat_lit 239, (kO (kY "tuple") none (PySem.Data.seq #[] 0) #[]))::
  (nat_lit 242, (kO (kY "code") none (PySem.Data.fields #[(kZ (kS "sums_of") 463), (kZ (kS "sums_of") 464), (kZ (kS "/claim/cut.py") 465), (PySem.Value.int (56 : Int) 0), (PySem.Value.int (1 : Int) 0), (PySem.Value.int (0 : Int) 0), (PySem.Value.int (0 : Int) 0), (PySem.Value.int (3 : Int) 0), (kR 239), (PySem.Value.bool true), (PySem.Value.int (181 : Int) 0), (kR 240), kN, kN, kN, (kR 241), (PySem.Value.int (466 : Int) 0), (PySem.Value.int (56 : Int) 0), (kZ (kS "/claim/cut.py") 467)]) #[]))::
  (nat_lit 243, (kO (kY "function") none (PySem.Data.func (PySem.W.fnOf (kS "sums_of") (kS "sums_of") (ay ce) (av ce) (af ce) kN kN kN (kZ (kS "evenhall.bookings") 461) none (kR 242) kN)) #[]))::
  (nat_lit 244, (kO (kY "tuple") none (PySem.Data.seq #[] 0) #[]))::
  (nat_lit 247, (kO (kY "code") none (PySem.Data.fields #[(kZ (kS "are_names") 471), (kZ (kS "are_names") 472), (kZ (kS "/claim/cut.py") 473), (PySem.Value.int (62 : Int) 0), (PySem.Value.int (1 : Int) 0), (PySem.Value.int (0 : Int) 0), (PySem.Value.int (0 : Int) 0), (PySem.Value.int (3 : Int) 0), (kR 244), (PySem.Value.bool true), (PySem.Value.int (181 : Int) 0), (kR 245), kN, kN, kN, (kR 246), (PySem.Value.int (474 : Int) 0), (PySem.Value.int (62 : Int) 0), (kZ (kS "/claim/cut.py") 475)]) #[]))::
  (nat_lit 248, (kO (kY "function") none (PySem.Data.func (PySem.W.fnOf (kS "are_names") (kS "are_names") (ay bS) (av bS) (af bS) kN kN kN (kZ (kS "evenhall.paths") 469) none (kR 247) kN)) #[]))::
  (nat_lit 249, (kO (kY "tuple") none (PySem.Data.seq #[] 0) #[]))::
  (nat_lit 251, (kO (kY "tuple") none (PySem.Data.seq #[(kZ (kS "thing") 480)] 0) #[]))::
  (nat_lit 252, (kO (kY "tuple") none (PySem.Data.seq #[] 0) #[]))::
  (nat_lit 254, (kO (kY "code") none (PySem.Data.fields #[(kZ (kS "is_path") 477), (kZ (kS "is_path") 478), (kZ (kS "/claim/cut.py") 479), (PySem.Value.int (64 : Int) 0), (PySem.Value.int (1 : Int) 0), (PySem.Value.int (0 : Int) 0), (PySem.Value.int (0 : Int) 0), (PySem.Value.int (3 : Int) 0), (kR 249), (PySem.Value.bool true), (PySem.Value.int (181 : Int) 0), (kR 250), kN, (kR 251), (kR 252), (kR 253), (PySem.Value.int (481 : Int) 0), (PySem.Value.int (64 : Int) 0), (kZ (kS "/claim/cut.py") 482)]) #[]))::
  (nat_lit 255, (kO (kY "function") none (PySem.Data.func (PySem.W.fnOf (kS "is_path") (kS "is_path") (ay cr) (av cr) (af cr) kN kN kN (kZ (kS "evenhall.paths") 469) none (kR 254) kN)) #[]))::
  (nat_lit 256, (kO (kY "tuple") none (PySem.Data.seq #[] 0) #[]))::
  (nat_lit 258, (kO (kY "tuple") none (PySem.Data.seq #[(kZ (kS "path") 487)] 0) #[]))::
  (nat_lit 259, (kO (kY "tuple") none (PySem.Data.seq #[] 0) #[]))::
  (nat_lit 261, (kO (kY "code") none (PySem.Data.fields #[(kZ (kS "names_of") 484), (kZ (kS "names_of") 485), (kZ (kS "/claim/cut.py") 486), (PySem.Value.int (66 : Int) 0), (PySem.Value.int (1 : Int) 0), (PySem.Value.int (0 : Int) 0), (PySem.Value.int (0 : Int) 0), (PySem.Value.int (3 : Int) 0), (kR 256), (PySem.Value.bool true), (PySem.Value.int (181 : Int) 0), (kR 257), kN, (kR 258), (kR 259), (kR 260), (PySem.Value.int (488 : Int) 0), (PySem.Value.int (66 : Int) 0), (kZ (kS "/claim/cut.py") 489)]) #[]))::
  (nat_lit 262, (kO (kY "function") none (PySem.Data.func (PySem.W.fnOf (kS "names_of") (kS "names_of") (ay bZ) (av bZ) (af bZ) kN kN kN (kZ (kS "evenhall.paths") 469) none (kR 261) kN)) #[]))::
  (nat_lit 263, (kO (kY "tuple") none (PySem.Data.seq #[] 0) #[]))::
  (nat_lit 266, (kO (kY "code") none (PySem.Data.fields #[(kZ (kS "above") 491), (kZ (kS "above") 492), (kZ (kS "/claim/cut.py") 493), (PySem.Value.int (70 : Int) 0), (PySem.Value.int (1 : Int) 0), (PySem.Value.int (0 : Int) 0), (PySem.Value.int (0 : Int) 0), (PySem.Value.int (3 : Int) 0), (kR 263), (PySem.Value.bool true), (PySem.Value.int (181 : Int) 0), (kR 264), kN, kN, kN, (kR 265), (PySem.Value.int (494 : Int) 0), (PySem.Value.int (70 : Int) 0), (kZ (kS "/claim/cut.py") 495)]) #[]))::
  (nat_lit 267, (kO (kY "function") none (PySem.Data.func (PySem.W.fnOf (kS "above") (kS "above") (ay dI) (av dI) (af dI) kN kN kN (kZ (kS "evenhall.paths") 469) none (kR 266) kN)) #[]))::
  (nat_lit 268, (kO (kY "tuple") none (PySem.Data.seq #[] 0) #[]))::
  (nat_lit 270, (kO (kY "tuple") none (PySem.Data.seq #[(kZ (kS "bookings") 502), (kZ (kS "rows") 503), (kZ (kS "booking") 504)] 0) #[]))::
  (nat_lit 271, (kO (kY "tuple") none (PySem.Data.seq #[] 0) #[]))::
  (nat_lit 273, (kO (kY "code") none (PySem.Data.fields #[(kZ (kS "rows_of") 499), (kZ (kS "rows_of") 500), (kZ (kS "/claim/cut.py") 501), (PySem.Value.int (74 : Int) 0), (PySem.Value.int (1 : Int) 0), (PySem.Value.int (0 : Int) 0), (PySem.Value.int (0 : Int) 0), (PySem.Value.int (3 : Int) 0), (kR 268), (PySem.Value.bool true), (PySem.Value.int (181 : Int) 0), (kR 269), kN, (kR 270), (kR 271), (kR 272), (PySem.Value.int (505 : Int) 0), (PySem.Value.int (74 : Int) 0), (kZ (kS "/claim/cut.py") 506)]) #[]))::
  (nat_lit 274, (kO (kY "function") none (PySem.Data.func (PySem.W.fnOf (kS "rows_of") (kS "rows_of") (ay cy) (av cy) (af cy) kN kN kN (kZ (kS "evenhall.reports") 497) none (kR 273) kN)) #[]))::
  (nat_lit 275, (kO (kY "tuple") none (PySem.Data.seq #[] 0) #[]))::
  (nat_lit 278, (kO (kY "code") none (PySem.Data.fields #[(kZ (kS "bookings_up_to") 508), (kZ (kS "bookings_up_to") 509), (kZ (kS "/claim/cut.py") 510), (PySem.Value.int (79 : Int) 0), (PySem.Value.int (2 : Int) 0), (PySem.Value.int (0 : Int) 0), (PySem.Value.int (0 : Int) 0), (PySem.Value.int (3 : Int) 0), (kR 275), (PySem.Value.bool true), (PySem.Value.int (181 : Int) 0), (kR 276), kN, kN, kN, (kR 277), (PySem.Value.int (511 : Int) 0), (PySem.Value.int (79 : Int) 0), (kZ (kS "/claim/cut.py") 512)]) #[]))::
  (nat_lit 279, (kO (kY "function") none (PySem.Data.func (PySem.W.fnOf (kS "bookings_up_to") (kS "bookings_up_to") (ay aT) (av aT) (af aT) kN kN kN (kZ (kS "evenhall.reports") 497) none (kR 278) kN)) #[]))::
  (nat_lit 280, (kO (kY "tuple") none (PySem.Data.seq #[] 0) #[]))::
  (nat_lit 282, (kO (kY "tuple") none (PySem.Data.seq #[(kZ (kS "chart") 517), (kZ (kS "journal") 518), (kZ (kS "day") 519)] 0) #[]))::
  (nat_lit 283, (kO (kY "tuple") none (PySem.Data.seq #[] 0) #[]))::
  (nat_lit 285, (kO (kY "code") none (PySem.Data.fields #[(kZ (kS "balances") 514), (kZ (kS "balances") 515), (kZ (kS "/claim/cut.py") 516), (PySem.Value.int (81 : Int) 0), (PySem.Value.int (3 : Int) 0), (PySem.Value.int (0 : Int) 0), (PySem.Value.int (0 : Int) 0), (PySem.Value.int (3 : Int) 0), (kR 280), (PySem.Value.bool true), (PySem.Value.int (181 : Int) 0), (kR 281), kN, (kR 282), (kR 283), (kR 284), (PySem.Value.int (520 : Int) 0), (PySem.Value.int (81 : Int) 0), (kZ (kS "/claim/cut.py") 521)]) #[]))::
  (nat_lit 286, (kO (kY "function") none (PySem.Data.func (PySem.W.fnOf (kS "balances") (kS "balances") (ay b5) (av b5) (af b5) kN kN kN (kZ (kS "evenhall.reports") 497) none (kR 285) kN)) #[]))::
  (nat_lit 287, (kO (kY "tuple") none (PySem.Data.seq #[] 0) #[]))::
  (nat_lit 289, (kO (kY "tuple") none (PySem.Data.seq #[(kZ (kS "thing") 528)] 0) #[]))::
  (nat_lit 290, (kO (kY "tuple") none (PySem.Data.seq #[] 0) #[]))::
  (nat_lit 292, (kO (kY "code") none (PySem.Data.fields #[(kZ (kS "is_day") 525), (kZ (kS "is_day") 526), (kZ (kS "/claim/cut.py") 527), (PySem.Value.int (84 : Int) 0), (PySem.Value.int (1 : Int) 0), (PySem.Value.int (0 : Int) 0), (PySem.Value.int (0 : Int) 0), (PySem.Value.int (3 : Int) 0), (kR 287), (PySem.Value.bool true), (PySem.Value.int (181 : Int) 0), (kR 288), kN, (kR 289), (kR 290), (kR 291), (PySem.Value.int (529 : Int) 0), (PySem.Value.int (84 : Int) 0), (kZ (kS "/claim/cut.py") 530)]) #[]))::
  (nat_lit 293, (kO (kY "function") none (PySem.Data.func (PySem.W.fnOf (kS "is_day") (kS "is_day") (ay cU) (av cU) (af cU) kN kN kN (kZ (kS "evenhall.days") 523) none (kR 292) kN)) #[]))::
  (nat_lit 294, (kO (kY "tuple") none (PySem.Data.seq #[(kZ (kS "have") 534), (kZ (kS "owe") 535), (kZ (kS "own") 536), (kZ (kS "gain") 537), (kZ (kS "cost") 538)] 0) #[]))::
  (nat_lit 302, (kO (kY "tuple") none (PySem.Data.seq #[] 0) #[]))::
  (nat_lit 304, (kO (kY "tuple") none (PySem.Data.seq #[(kZ (kS "self") 555), (kZ (kS "kind") 556), (kZ (kS "currency") 557), (kZ (kS "first") 558)] 0) #[]))::
  (nat_lit 305, (kO (kY "tuple") none (PySem.Data.seq #[] 0) #[]))::
  (nat_lit 307, (kO (kY "code") none (PySem.Data.fields #[(kZ (kS "__init__") 552), (kZ (kS "Account.__init__") 553), (kZ (kS "/claim/cut.py") 554), (PySem.Value.int (90 : Int) 0), (PySem.Value.int (4 : Int) 0), (PySem.Value.int (0 : Int) 0), (PySem.Value.int (0 : Int) 0), (PySem.Value.int (3 : Int) 0), (kR 302), (PySem.Value.bool true), (PySem.Value.int (181 : Int) 0), (kR 303), kN, (kR 304), (kR 305), (kR 306), (PySem.Value.int (559 : Int) 0), (PySem.Value.int (90 : Int) 0), (kZ (kS "/claim/cut.py") 560)]) #[]))::
  (nat_lit 308, (kO (kY "function") none (PySem.Data.func (PySem.W.fnOf (kS "__init__") (kS "Account.__init__") (ay aH) (av aH) (af aH) kN kN kN (kZ (kS "evenhall.chart") 532) none (kR 307) kN)) #[]))::
  (nat_lit 309, (kO (kY "tuple") none (PySem.Data.seq #[] 0) #[]))::
  (nat_lit 311, (kO (kY "tuple") none (PySem.Data.seq #[(kZ (kS "self") 565), (kZ (kS "day") 566)] 0) #[]))::
  (nat_lit 312, (kO (kY "tuple") none (PySem.Data.seq #[] 0) #[]))::
  (nat_lit 314, (kO (kY "code") none (PySem.Data.fields #[(kZ (kS "stands_on") 562), (kZ (kS "Account.stands_on") 563), (kZ (kS "/claim/cut.py") 564), (PySem.Value.int (97 : Int) 0), (PySem.Value.int (2 : Int) 0), (PySem.Value.int (0 : Int) 0), (PySem.Value.int (0 : Int) 0), (PySem.Value.int (3 : Int) 0), (kR 309), (PySem.Value.bool true), (PySem.Value.int (181 : Int) 0), (kR 310), kN, (kR 311), (kR 312), (kR 313), (PySem.Value.int (567 : Int) 0), (PySem.Value.int (97 : Int) 0), (kZ (kS "/claim/cut.py") 568)]) #[]))::
  (nat_lit 315, (kO (kY "function") none (PySem.Data.func (PySem.W.fnOf (kS "stands_on") (kS "Account.stands_on") (ay aD) (av aD) (af aD) kN kN kN (kZ (kS "evenhall.chart") 532) none (kR 314) kN)) #[]))::
  (nat_lit 316, (kO (kY "tuple") none (PySem.Data.seq #[] 0) #[]))::
  (nat_lit 318, (kO (kY "tuple") none (PySem.Data.seq #[(kZ (kS "self") 573), (kZ (kS "day") 574)] 0) #[]))::
  (nat_lit 319, (kO (kY "tuple") none (PySem.Data.seq #[] 0) #[]))::
  (nat_lit 321, (kO (kY "code") none (PySem.Data.fields #[(kZ (kS "stands_later") 570), (kZ (kS "Account.stands_later") 571), (kZ (kS "/claim/cut.py") 572), (PySem.Value.int (100 : Int) 0), (PySem.Value.int (2 : Int) 0), (PySem.Value.int (0 : Int) 0), (PySem.Value.int (0 : Int) 0), (PySem.Value.int (3 : Int) 0), (kR 316), (PySem.Value.bool true), (PySem.Value.int (181 : Int) 0), (kR 317), kN, (kR 318), (kR 319), (kR 320), (PySem.Value.int (575 : Int) 0), (PySem.Value.int (100 : Int) 0), (kZ (kS "/claim/cut.py") 576)]) #[]))::
  (nat_lit 322, (kO (kY "function") none (PySem.Data.func (PySem.FuncData.mk (kS "stands_later") (kS "Account.stands_later") (PySem.Arguments.mk [] [(PySem.Arg.mk (kS "self") none (PySem.Pos.mk 100 21 100 25)), (PySem.Arg.mk (kS "day") none (PySem.Pos.mk 100 27 100 30))] none [] [] none []) (PySem.FuncBody.stmts [(PySem.Stmt.Expr (PySem.Expr.Call (PySem.Expr.Name (kS "_wall") (PySem.Pos.mk 101 8 101 13)) [(PySem.Expr.Constant (PySem.Const.int (9 : Int)) 0 (PySem.Pos.mk 101 14 101 15))] [] (PySem.Pos.mk 101 8 101 16)) (PySem.Pos.mk 101 8 101 16))]) (PySem.Scope.mk PySem.ScopeKind.function [((kS "self"), PySem.NameKind.local), ((kS "day"), PySem.NameKind.local), ((kS "_wall"), PySem.NameKind.globalImplicit)] false false []) 3 [] kN kN kN (kZ (kS "evenhall.chart") 532) none (kR 321) kN 0)) #[]))::
  (nat_lit 323, (kO (kY "tuple") none (PySem.Data.seq #[(kZ (kS "below") 578), (kZ (kS "currency") 579), (kZ (kS "first") 580), (kZ (kS "kind") 581), (kZ (kS "until") 582)] 0) #[]))::
  (nat_lit 324, (kO (kY "dict") none (PySem.Data.dict #[(kE P "__module__" 547 (kZ (kS "evenhall.chart") 532)), (kE P "__firstlineno__" 551 (PySem.Value.int (88 : Int) 550)), (kE P "__init__" 561 (kR 308)), (kE P "stands_on" 569 (kR 315)), (kE P "stands_later" 577 (kR 322)), (kE P "__static_attributes__" 583 (kR 323)), (kE P "__dict__" 585 (kR 326)), (kE P "__weakref__" 587 (kR 327)), (kE P "__doc__" 588 kN)] 4) #[]))::
  (nat_lit 325, (kO (kY "type") none (PySem.Data.cls (PySem.ClassData.mk (kS "Account") [(kY "object")] [(kR 325), (kY "object")] 324 (kS "Account") true [] [] false none false)) #[none, none, (some (kZ (kS "Account") 540)), (some (kZ (kS "Account") 548)), (some (kB "object.__new__")), (some (PySem.Value.bool true))]))::
  (nat_lit 326, (kO (kY "getset_descriptor") none (PySem.Data.fields #[(kZ (kS "__dict__") 584), (kR 325), (kB "function.__dict__"), (kB "function.__dict__#set")]) #[]))::
  (nat_lit 327, (kO (kY "getset_descriptor") none (PySem.Data.fields #[(kZ (kS "__weakref__") 586), (kR 325), (kB "ExceptionGroup.__weakref__"), kN]) #[]))::
  (nat_lit 337, (kO (kY "tuple") none (PySem.Data.seq #[] 0) #[]))::
  (nat_lit 339, (kO (kY "tuple") none (PySem.Data.seq #[(kZ (kS "self") 606)] 0) #[]))::
  (nat_lit 340, (kO (kY "tuple") none (PySem.Data.seq #[] 0) #[]))::
  (nat_lit 342, (kO (kY "code") none (PySem.Data.fields #[(kZ (kS "__init__") 603), (kZ (kS "Chart.__init__") 604), (kZ (kS "/claim/cut.py") 605), (PySem.Value.int (104 : Int) 0), (PySem.Value.int (1 : Int) 0), (PySem.Value.int (0 : Int) 0), (PySem.Value.int (0 : Int) 0), (PySem.Value.int (3 : Int) 0), (kR 337), (PySem.Value.bool true), (PySem.Value.int (181 : Int) 0), (kR 338), kN, (kR 339), (kR 340), (kR 341), (PySem.Value.int (607 : Int) 0), (PySem.Value.int (104 : Int) 0), (kZ (kS "/claim/cut.py") 608)]) #[]))::
  (nat_lit 343, (kO (kY "function") none (PySem.Data.func (PySem.W.fnOf (kS "__init__") (kS "Chart.__init__") (ay aS) (av aS) (af aS) kN kN kN (kZ (kS "evenhall.chart") 532) none (kR 342) kN)) #[]))::
  (nat_lit 344, (kO (kY "tuple") none (PySem.Data.seq #[] 0) #[]))::
  (nat_lit 346, (kO (kY "tuple") none (PySem.Data.seq #[(kZ (kS "self") 613), (kZ (kS "name") 614), (kZ (kS "kind") 615)] 0) #[]))::
  (nat_lit 347, (kO (kY "tuple") none (PySem.Data.seq #[] 0) #[]))::
  (nat_lit 349, (kO (kY "code") none (PySem.Data.fields #[(kZ (kS "add_top") 610), (kZ (kS "Chart.add_top") 611), (kZ (kS "/claim/cut.py") 612), (PySem.Value.int (107 : Int) 0), (PySem.Value.int (3 : Int) 0), (PySem.Value.int (0 : Int) 0), (PySem.Value.int (0 : Int) 0), (PySem.Value.int (3 : Int) 0), (kR 344), (PySem.Value.bool true), (PySem.Value.int (181 : Int) 0), (kR 345), kN, (kR 346), (kR 347), (kR 348), (PySem.Value.int (616 : Int) 0), (PySem.Value.int (107 : Int) 0), (kZ (kS "/claim/cut.py") 617)]) #[]))::
  (nat_lit 350, (kO (kY "function") none (PySem.Data.func (PySem.W.fnOf (kS "add_top") (kS "Chart.add_top") (ay aR) (av aR) (af aR) kN kN kN (kZ (kS "evenhall.chart") 532) none (kR 349) kN)) #[]))::
  (nat_lit 351, (kO (kY "tuple") none (PySem.Data.seq #[] 0) #[]))::
  (nat_lit 353, (kO (kY "tuple") none (PySem.Data.seq #[(kZ (kS "self") 622), (kZ (kS "path") 623), (kZ (kS "currency") 624), (kZ (kS "day") 625), (kZ (kS "upper") 626)] 0) #[]))::
  (nat_lit 354, (kO (kY "tuple") none (PySem.Data.seq #[] 0) #[]))::
  (nat_lit 356, (kO (kY "code") none (PySem.Data.fields #[(kZ (kS "add") 619), (kZ (kS "Chart.add") 620), (kZ (kS "/claim/cut.py") 621), (PySem.Value.int (116 : Int) 0), (PySem.Value.int (4 : Int) 0), (PySem.Value.int (0 : Int) 0), (PySem.Value.int (0 : Int) 0), (PySem.Value.int (3 : Int) 0), (kR 351), (PySem.Value.bool true), (PySem.Value.int (181 : Int) 0), (kR 352), kN, (kR 353), (kR 354), (kR 355), (PySem.Value.int (627 : Int) 0), (PySem.Value.int (116 : Int) 0), (kZ (kS "/claim/cut.py") 628)]) #[]))::
  (nat_lit 357, (kO (kY "function") none (PySem.Data.func (PySem.W.fnOf (kS "add") (kS "Chart.add") (ay bH) (av bH) (af bH) kN kN kN (kZ (kS "evenhall.chart") 532) none (kR 356) kN)) #[]))::
  (nat_lit 358, (kO (kY "tuple") none (PySem.Data.seq #[] 0) #[]))::
  (nat_lit 360, (kO (kY "tuple") none (PySem.Data.seq #[(kZ (kS "self") 633), (kZ (kS "path") 634), (kZ (kS "day") 635)] 0) #[]))::
  (nat_lit 361, (kO (kY "tuple") none (PySem.Data.seq #[] 0) #[]))::
  (nat_lit 363, (kO (kY "code") none (PySem.Data.fields #[(kZ (kS "shut") 630), (kZ (kS "Chart.shut") 631), (kZ (kS "/claim/cut.py") 632), (PySem.Value.int (131 : Int) 0), (PySem.Value.int (3 : Int) 0), (PySem.Value.int (0 : Int) 0), (PySem.Value.int (0 : Int) 0), (PySem.Value.int (3 : Int) 0), (kR 358), (PySem.Value.bool true), (PySem.Value.int (181 : Int) 0), (kR 359), kN, (kR 360), (kR 361), (kR 362), (PySem.Value.int (636 : Int) 0), (PySem.Value.int (131 : Int) 0), (kZ (kS "/claim/cut.py") 637)]) #[]))::
  (nat_lit 364, (kO (kY "function") none (PySem.Data.func (PySem.FuncData.mk (kS "shut") (kS "Chart.shut") (PySem.Arguments.mk [] [(PySem.Arg.mk (kS "self") none (PySem.Pos.mk 131 13 131 17)), (PySem.Arg.mk (kS "path") none (PySem.Pos.mk 131 19 131 23)), (PySem.Arg.mk (kS "day") none (PySem.Pos.mk 131 25 131 28))] none [] [] none []) (PySem.FuncBody.stmts [(PySem.Stmt.Expr (PySem.Expr.Call (PySem.Expr.Name (kS "_wall") (PySem.Pos.mk 132 8 132 13)) [(PySem.Expr.Constant (PySem.Const.int (10 : Int)) 0 (PySem.Pos.mk 132 14 132 16))] [] (PySem.Pos.mk 132 8 132 17)) (PySem.Pos.mk 132 8 132 17))]) (PySem.Scope.mk PySem.ScopeKind.function [((kS "self"), PySem.NameKind.local), ((kS "path"), PySem.NameKind.local), ((kS "day"), PySem.NameKind.local), ((kS "_wall"), PySem.NameKind.globalImplicit)] false false []) 3 [] kN kN kN (kZ (kS "evenhall.chart") 532) none (kR 363) kN 0)) #[]))::
  (nat_lit 365, (kO (kY "tuple") none (PySem.Data.seq #[] 0) #[]))::
  (nat_lit 367, (kO (kY "tuple") none (PySem.Data.seq #[(kZ (kS "self") 642), (kZ (kS "path") 643)] 0) #[]))::
  (nat_lit 368, (kO (kY "tuple") none (PySem.Data.seq #[] 0) #[]))::
  (nat_lit 370, (kO (kY "code") none (PySem.Data.fields #[(kZ (kS "has") 639), (kZ (kS "Chart.has") 640), (kZ (kS "/claim/cut.py") 641), (PySem.Value.int (134 : Int) 0), (PySem.Value.int (2 : Int) 0), (PySem.Value.int (0 : Int) 0), (PySem.Value.int (0 : Int) 0), (PySem.Value.int (3 : Int) 0), (kR 365), (PySem.Value.bool true), (PySem.Value.int (181 : Int) 0), (kR 366), kN, (kR 367), (kR 368), (kR 369), (PySem.Value.int (644 : Int) 0), (PySem.Value.int (134 : Int) 0), (kZ (kS "/claim/cut.py") 645)]) #[]))::
  (nat_lit 371, (kO (kY "function") none (PySem.Data.func (PySem.W.fnOf (kS "has") (kS "Chart.has") (ay bI) (av bI) (af bI) kN kN kN (kZ (kS "evenhall.chart") 532) none (kR 370) kN)) #[]))::
  (nat_lit 372, (kO (kY "tuple") none (PySem.Data.seq #[] 0) #[]))::
  (nat_lit 374, (kO (kY "tuple") none (PySem.Data.seq #[(kZ (kS "self") 650), (kZ (kS "path") 651)] 0) #[]))::
  (nat_lit 375, (kO (kY "tuple") none (PySem.Data.seq #[] 0) #[]))::
  (nat_lit 377, (kO (kY "code") none (PySem.Data.fields #[(kZ (kS "account") 647), (kZ (kS "Chart.account") 648), (kZ (kS "/claim/cut.py") 649), (PySem.Value.int (137 : Int) 0), (PySem.Value.int (2 : Int) 0), (PySem.Value.int (0 : Int) 0), (PySem.Value.int (0 : Int) 0), (PySem.Value.int (3 : Int) 0), (kR 372), (PySem.Value.bool true), (PySem.Value.int (181 : Int) 0), (kR 373), kN, (kR 374), (kR 375), (kR 376), (PySem.Value.int (652 : Int) 0), (PySem.Value.int (137 : Int) 0), (kZ (kS "/claim/cut.py") 653)]) #[]))::
  (nat_lit 378, (kO (kY "function") none (PySem.Data.func (PySem.W.fnOf (kS "account") (kS "Chart.account") (ay aQ) (av aQ) (af aQ) kN kN kN (kZ (kS "evenhall.chart") 532) none (kR 377) kN)) #[]))::
  (nat_lit 379, (kO (kY "tuple") none (PySem.Data.seq #[] 0) #[]))::
  (nat_lit 381, (kO (kY "tuple") none (PySem.Data.seq #[(kZ (kS "self") 658), (kZ (kS "path") 659)] 0) #[]))::
  (nat_lit 382, (kO (kY "tuple") none (PySem.Data.seq #[] 0) #[]))::
  (nat_lit 384, (kO (kY "code") none (PySem.Data.fields #[(kZ (kS "kind_of") 655), (kZ (kS "Chart.kind_of") 656), (kZ (kS "/claim/cut.py") 657), (PySem.Value.int (142 : Int) 0), (PySem.Value.int (2 : Int) 0), (PySem.Value.int (0 : Int) 0), (PySem.Value.int (0 : Int) 0), (PySem.Value.int (3 : Int) 0), (kR 379), (PySem.Value.bool true), (PySem.Value.int (181 : Int) 0), (kR 380), kN, (kR 381), (kR 382), (kR 383), (PySem.Value.int (660 : Int) 0), (PySem.Value.int (142 : Int) 0), (kZ (kS "/claim/cut.py") 661)]) #[]))::
  (nat_lit 385, (kO (kY "function") none (PySem.Data.func (PySem.FuncData.mk (kS "kind_of") (kS "Chart.kind_of") (PySem.Arguments.mk [] [(PySem.Arg.mk (kS "self") none (PySem.Pos.mk 142 16 142 20)), (PySem.Arg.mk (kS "path") none (PySem.Pos.mk 142 22 142 26))] none [] [] none []) (PySem.FuncBody.stmts [(PySem.Stmt.Expr (PySem.Expr.Call (PySem.Expr.Name (kS "_wall") (PySem.Pos.mk 143 8 143 13)) [(PySem.Expr.Constant (PySem.Const.int (11 : Int)) 0 (PySem.Pos.mk 143 14 143 16))] [] (PySem.Pos.mk 143 8 143 17)) (PySem.Pos.mk 143 8 143 17))]) (PySem.Scope.mk PySem.ScopeKind.function [((kS "self"), PySem.NameKind.local), ((kS "path"), PySem.NameKind.local), ((kS "_wall"), PySem.NameKind.globalImplicit)] false false []) 3 [] kN kN kN (kZ (kS "evenhall.chart") 532) none (kR 384) kN 0)) #[]))::
  (nat_lit 386, (kO (kY "tuple") none (PySem.Data.seq #[] 0) #[]))::
  (nat_lit 388, (kO (kY "tuple") none (PySem.Data.seq #[(kZ (kS "self") 666), (kZ (kS "path") 667)] 0) #[]))::
  (nat_lit 389, (kO (kY "tuple") none (PySem.Data.seq #[] 0) #[]))::
  (nat_lit 391, (kO (kY "code") none (PySem.Data.fields #[(kZ (kS "currency_of") 663), (kZ (kS "Chart.currency_of") 664), (kZ (kS "/claim/cut.py") 665), (PySem.Value.int (145 : Int) 0), (PySem.Value.int (2 : Int) 0), (PySem.Value.int (0 : Int) 0), (PySem.Value.int (0 : Int) 0), (PySem.Value.int (3 : Int) 0), (kR 386), (PySem.Value.bool true), (PySem.Value.int (181 : Int) 0), (kR 387), kN, (kR 388), (kR 389), (kR 390), (PySem.Value.int (668 : Int) 0), (PySem.Value.int (145 : Int) 0), (kZ (kS "/claim/cut.py") 669)]) #[]))::
  (nat_lit 392, (kO (kY "function") none (PySem.Data.func (PySem.FuncData.mk (kS "currency_of") (kS "Chart.currency_of") (PySem.Arguments.mk [] [(PySem.Arg.mk (kS "self") none (PySem.Pos.mk 145 20 145 24)), (PySem.Arg.mk (kS "path") none (PySem.Pos.mk 145 26 145 30))] none [] [] none []) (PySem.FuncBody.stmts [(PySem.Stmt.Expr (PySem.Expr.Call (PySem.Expr.Name (kS "_wall") (PySem.Pos.mk 146 8 146 13)) [(PySem.Expr.Constant (PySem.Const.int (12 : Int)) 0 (PySem.Pos.mk 146 14 146 16))] [] (PySem.Pos.mk 146 8 146 17)) (PySem.Pos.mk 146 8 146 17))]) (PySem.Scope.mk PySem.ScopeKind.function [((kS "self"), PySem.NameKind.local), ((kS "path"), PySem.NameKind.local), ((kS "_wall"), PySem.NameKind.globalImplicit)] false false []) 3 [] kN kN kN (kZ (kS "evenhall.chart") 532) none (kR 391) kN 0)) #[]))::
  (nat_lit 393, (kO (kY "tuple") none (PySem.Data.seq #[] 0) #[]))::
  (nat_lit 395, (kO (kY "tuple") none (PySem.Data.seq #[(kZ (kS "self") 674), (kZ (kS "path") 675)] 0) #[]))::
  (nat_lit 396, (kO (kY "tuple") none (PySem.Data.seq #[] 0) #[]))::
  (nat_lit 398, (kO (kY "code") none (PySem.Data.fields #[(kZ (kS "span_of") 671), (kZ (kS "Chart.span_of") 672), (kZ (kS "/claim/cut.py") 673), (PySem.Value.int (148 : Int) 0), (PySem.Value.int (2 : Int) 0), (PySem.Value.int (0 : Int) 0), (PySem.Value.int (0 : Int) 0), (PySem.Value.int (3 : Int) 0), (kR 393), (PySem.Value.bool true), (PySem.Value.int (181 : Int) 0), (kR 394), kN, (kR 395), (kR 396), (kR 397), (PySem.Value.int (676 : Int) 0), (PySem.Value.int (148 : Int) 0), (kZ (kS "/claim/cut.py") 677)]) #[]))::
  (nat_lit 399, (kO (kY "function") none (PySem.Data.func (PySem.FuncData.mk (kS "span_of") (kS "Chart.span_of") (PySem.Arguments.mk [] [(PySem.Arg.mk (kS "self") none (PySem.Pos.mk 148 16 148 20)), (PySem.Arg.mk (kS "path") none (PySem.Pos.mk 148 22 148 26))] none [] [] none []) (PySem.FuncBody.stmts [(PySem.Stmt.Expr (PySem.Expr.Call (PySem.Expr.Name (kS "_wall") (PySem.Pos.mk 149 8 149 13)) [(PySem.Expr.Constant (PySem.Const.int (13 : Int)) 0 (PySem.Pos.mk 149 14 149 16))] [] (PySem.Pos.mk 149 8 149 17)) (PySem.Pos.mk 149 8 149 17))]) (PySem.Scope.mk PySem.ScopeKind.function [((kS "self"), PySem.NameKind.local), ((kS "path"), PySem.NameKind.local), ((kS "_wall"), PySem.NameKind.globalImplicit)] false false []) 3 [] kN kN kN (kZ (kS "evenhall.chart") 532) none (kR 398) kN 0)) #[]))::
  (nat_lit 400, (kO (kY "tuple") none (PySem.Data.seq #[] 0) #[]))::
  (nat_lit 402, (kO (kY "tuple") none (PySem.Data.seq #[(kZ (kS "self") 682), (kZ (kS "path") 683), (kZ (kS "day") 684)] 0) #[]))::
  (nat_lit 403, (kO (kY "tuple") none (PySem.Data.seq #[] 0) #[]))::
  (nat_lit 405, (kO (kY "code") none (PySem.Data.fields #[(kZ (kS "is_open") 679), (kZ (kS "Chart.is_open") 680), (kZ (kS "/claim/cut.py") 681), (PySem.Value.int (151 : Int) 0), (PySem.Value.int (3 : Int) 0), (PySem.Value.int (0 : Int) 0), (PySem.Value.int (0 : Int) 0), (PySem.Value.int (3 : Int) 0), (kR 400), (PySem.Value.bool true), (PySem.Value.int (181 : Int) 0), (kR 401), kN, (kR 402), (kR 403), (kR 404), (PySem.Value.int (685 : Int) 0), (PySem.Value.int (151 : Int) 0), (kZ (kS "/claim/cut.py") 686)]) #[]))::
  (nat_lit 406, (kO (kY "function") none (PySem.Data.func (PySem.FuncData.mk (kS "is_open") (kS "Chart.is_open") (PySem.Arguments.mk [] [(PySem.Arg.mk (kS "self") none (PySem.Pos.mk 151 16 151 20)), (PySem.Arg.mk (kS "path") none (PySem.Pos.mk 151 22 151 26)), (PySem.Arg.mk (kS "day") none (PySem.Pos.mk 151 28 151 31))] none [] [] none []) (PySem.FuncBody.stmts [(PySem.Stmt.Expr (PySem.Expr.Call (PySem.Expr.Name (kS "_wall") (PySem.Pos.mk 152 8 152 13)) [(PySem.Expr.Constant (PySem.Const.int (14 : Int)) 0 (PySem.Pos.mk 152 14 152 16))] [] (PySem.Pos.mk 152 8 152 17)) (PySem.Pos.mk 152 8 152 17))]) (PySem.Scope.mk PySem.ScopeKind.function [((kS "self"), PySem.NameKind.local), ((kS "path"), PySem.NameKind.local), ((kS "day"), PySem.NameKind.local), ((kS "_wall"), PySem.NameKind.globalImplicit)] false false []) 3 [] kN kN kN (kZ (kS "evenhall.chart") 532) none (kR 405) kN 0)) #[]))::
  (nat_lit 407, (kO (kY "tuple") none (PySem.Data.seq #[] 0) #[]))::
  (nat_lit 409, (kO (kY "tuple") none (PySem.Data.seq #[(kZ (kS "self") 691), (kZ (kS "path") 692)] 0) #[]))::
  (nat_lit 410, (kO (kY "tuple") none (PySem.Data.seq #[] 0) #[]))::
  (nat_lit 412, (kO (kY "code") none (PySem.Data.fields #[(kZ (kS "beneath") 688), (kZ (kS "Chart.beneath") 689), (kZ (kS "/claim/cut.py") 690), (PySem.Value.int (154 : Int) 0), (PySem.Value.int (2 : Int) 0), (PySem.Value.int (0 : Int) 0), (PySem.Value.int (0 : Int) 0), (PySem.Value.int (3 : Int) 0), (kR 407), (PySem.Value.bool true), (PySem.Value.int (181 : Int) 0), (kR 408), kN, (kR 409), (kR 410), (kR 411), (PySem.Value.int (693 : Int) 0), (PySem.Value.int (154 : Int) 0), (kZ (kS "/claim/cut.py") 694)]) #[]))::
  (nat_lit 413, (kO (kY "function") none (PySem.Data.func (PySem.FuncData.mk (kS "beneath") (kS "Chart.beneath") (PySem.Arguments.mk [] [(PySem.Arg.mk (kS "self") none (PySem.Pos.mk 154 16 154 20)), (PySem.Arg.mk (kS "path") none (PySem.Pos.mk 154 22 154 26))] none [] [] none []) (PySem.FuncBody.stmts [(PySem.Stmt.Expr (PySem.Expr.Call (PySem.Expr.Name (kS "_wall") (PySem.Pos.mk 155 8 155 13)) [(PySem.Expr.Constant (PySem.Const.int (15 : Int)) 0 (PySem.Pos.mk 155 14 155 16))] [] (PySem.Pos.mk 155 8 155 17)) (PySem.Pos.mk 155 8 155 17))]) (PySem.Scope.mk PySem.ScopeKind.function [((kS "self"), PySem.NameKind.local), ((kS "path"), PySem.NameKind.local), ((kS "_wall"), PySem.NameKind.globalImplicit)] false false []) 3 [] kN kN kN (kZ (kS "evenhall.chart") 532) none (kR 412) kN 0)) #[]))::
  (nat_lit 414, (kO (kY "tuple") none (PySem.Data.seq #[] 0) #[]))::
  (nat_lit 416, (kO (kY "tuple") none (PySem.Data.seq #[(kZ (kS "self") 699)] 0) #[]))::
  (nat_lit 417, (kO (kY "tuple") none (PySem.Data.seq #[] 0) #[]))::
  (nat_lit 419, (kO (kY "code") none (PySem.Data.fields #[(kZ (kS "accounts") 696), (kZ (kS "Chart.accounts") 697), (kZ (kS "/claim/cut.py") 698), (PySem.Value.int (157 : Int) 0), (PySem.Value.int (1 : Int) 0), (PySem.Value.int (0 : Int) 0), (PySem.Value.int (0 : Int) 0), (PySem.Value.int (3 : Int) 0), (kR 414), (PySem.Value.bool true), (PySem.Value.int (181 : Int) 0), (kR 415), kN, (kR 416), (kR 417), (kR 418), (PySem.Value.int (700 : Int) 0), (PySem.Value.int (157 : Int) 0), (kZ (kS "/claim/cut.py") 701)]) #[]))::
  (nat_lit 420, (kO (kY "function") none (PySem.Data.func (PySem.FuncData.mk (kS "accounts") (kS "Chart.accounts") (PySem.Arguments.mk [] [(PySem.Arg.mk (kS "self") none (PySem.Pos.mk 157 17 157 21))] none [] [] none []) (PySem.FuncBody.stmts [(PySem.Stmt.Expr (PySem.Expr.Call (PySem.Expr.Name (kS "_wall") (PySem.Pos.mk 158 8 158 13)) [(PySem.Expr.Constant (PySem.Const.int (16 : Int)) 0 (PySem.Pos.mk 158 14 158 16))] [] (PySem.Pos.mk 158 8 158 17)) (PySem.Pos.mk 158 8 158 17))]) (PySem.Scope.mk PySem.ScopeKind.function [((kS "self"), PySem.NameKind.local), ((kS "_wall"), PySem.NameKind.globalImplicit)] false false []) 3 [] kN kN kN (kZ (kS "evenhall.chart") 532) none (kR 419) kN 0)) #[]))::
  (nat_lit 421, (kO (kY "tuple") none (PySem.Data.seq #[(kZ (kS "by_path") 703)] 0) #[]))::
  (nat_lit 422, (kO (kY "dict") none (PySem.Data.dict #[(kE P "__module__" 598 (kZ (kS "evenhall.chart") 532)), (kE P "__firstlineno__" 602 (PySem.Value.int (102 : Int) 601)), (kE P "__init__" 609 (kR 343)), (kE P "add_top" 618 (kR 350)), (kE P "add" 629 (kR 357)), (kE P "shut" 638 (kR 364)), (kE P "has" 646 (kR 371)), (kE P "account" 654 (kR 378)), (kE P "kind_of" 662 (kR 385)), (kE P "currency_of" 670 (kR 392)), (kE P "span_of" 678 (kR 399)), (kE P "is_open" 687 (kR 406)), (kE P "beneath" 695 (kR 413)), (kE P "accounts" 702 (kR 420)), (kE P "__static_attributes__" 704 (kR 421)), (kE P "__dict__" 706 (kR 424)), (kE P "__weakref__" 708 (kR 425)), (kE P "__doc__" 709 kN)] 4) #[]))::
  (nat_lit 423, (kO (kY "type") none (PySem.Data.cls (PySem.ClassData.mk (kS "Chart") [(kY "object")] [(kR 423), (kY "object")] 422 (kS "Chart") true [] [] false none false)) #[none, none, (some (kZ (kS "Chart") 591)), (some (kZ (kS "Chart") 599)), (some (kB "object.__new__")), (some (PySem.Value.bool true))]))::
  (nat_lit 424, (kO (kY "getset_descriptor") none (PySem.Data.fields #[(kZ (kS "__dict__") 705), (kR 423), (kB "function.__dict__"), (kB "function.__dict__#set")]) #[]))::
  (nat_lit 425, (kO (kY "getset_descriptor") none (PySem.Data.fields #[(kZ (kS "__weakref__") 707), (kR 423), (kB "ExceptionGroup.__weakref__"), kN]) #[]))::
  (nat_lit 435, (kO (kY "tuple") none (PySem.Data.seq #[] 0) #[]))::
  (nat_lit 437, (kO (kY "tuple") none (PySem.Data.seq #[(kZ (kS "self") 729)] 0) #[]))::
  (nat_lit 438, (kO (kY "tuple") none (PySem.Data.seq #[] 0) #[]))::
  (nat_lit 440, (kO (kY "code") none (PySem.Data.fields #[(kZ (kS "__init__") 726), (kZ (kS "Journal.__init__") 727), (kZ (kS "/claim/cut.py") 728), (PySem.Value.int (162 : Int) 0), (PySem.Value.int (1 : Int) 0), (PySem.Value.int (0 : Int) 0), (PySem.Value.int (0 : Int) 0), (PySem.Value.int (3 : Int) 0), (kR 435), (PySem.Value.bool true), (PySem.Value.int (181 : Int) 0), (kR 436), kN, (kR 437), (kR 438), (kR 439), (PySem.Value.int (730 : Int) 0), (PySem.Value.int (162 : Int) 0), (kZ (kS "/claim/cut.py") 731)]) #[]))::
  (nat_lit 441, (kO (kY "function") none (PySem.Data.func (PySem.W.fnOf (kS "__init__") (kS "Journal.__init__") (ay aF) (av aF) (af aF) kN kN kN (kZ (kS "evenhall.journal") 712) none (kR 440) kN)) #[]))::
  (nat_lit 442, (kO (kY "tuple") none (PySem.Data.seq #[] 0) #[]))::
  (nat_lit 444, (kO (kY "tuple") none (PySem.Data.seq #[(kZ (kS "self") 736), (kZ (kS "day") 737), (kZ (kS "note") 738), (kZ (kS "rows") 739), (kZ (kS "undoes") 740), (kZ (kS "number") 741)] 0) #[]))::
  (nat_lit 445, (kO (kY "tuple") none (PySem.Data.seq #[] 0) #[]))::
  (nat_lit 447, (kO (kY "code") none (PySem.Data.fields #[(kZ (kS "put") 733), (kZ (kS "Journal.put") 734), (kZ (kS "/claim/cut.py") 735), (PySem.Value.int (166 : Int) 0), (PySem.Value.int (5 : Int) 0), (PySem.Value.int (0 : Int) 0), (PySem.Value.int (0 : Int) 0), (PySem.Value.int (3 : Int) 0), (kR 442), (PySem.Value.bool true), (PySem.Value.int (181 : Int) 0), (kR 443), kN, (kR 444), (kR 445), (kR 446), (PySem.Value.int (742 : Int) 0), (PySem.Value.int (166 : Int) 0), (kZ (kS "/claim/cut.py") 743)]) #[]))::
  (nat_lit 448, (kO (kY "function") none (PySem.Data.func (PySem.W.fnOf (kS "put") (kS "Journal.put") (ay a_) (av a_) (af a_) kN kN kN (kZ (kS "evenhall.journal") 712) none (kR 447) kN)) #[]))::
  (nat_lit 449, (kO (kY "tuple") none (PySem.Data.seq #[] 0) #[]))::
  (nat_lit 451, (kO (kY "tuple") none (PySem.Data.seq #[(kZ (kS "self") 748)] 0) #[]))::
  (nat_lit 452, (kO (kY "tuple") none (PySem.Data.seq #[] 0) #[]))::
  (nat_lit 454, (kO (kY "code") none (PySem.Data.fields #[(kZ (kS "many") 745), (kZ (kS "Journal.many") 746), (kZ (kS "/claim/cut.py") 747), (PySem.Value.int (173 : Int) 0), (PySem.Value.int (1 : Int) 0), (PySem.Value.int (0 : Int) 0), (PySem.Value.int (0 : Int) 0), (PySem.Value.int (3 : Int) 0), (kR 449), (PySem.Value.bool true), (PySem.Value.int (181 : Int) 0), (kR 450), kN, (kR 451), (kR 452), (kR 453), (PySem.Value.int (749 : Int) 0), (PySem.Value.int (173 : Int) 0), (kZ (kS "/claim/cut.py") 750)]) #[]))::
  (nat_lit 455, (kO (kY "function") none (PySem.Data.func (PySem.W.fnOf (kS "many") (kS "Journal.many") (ay bK) (av bK) (af bK) kN kN kN (kZ (kS "evenhall.journal") 712) none (kR 454) kN)) #[]))::
  (nat_lit 456, (kO (kY "tuple") none (PySem.Data.seq #[] 0) #[]))::
  (nat_lit 458, (kO (kY "tuple") none (PySem.Data.seq #[(kZ (kS "self") 755), (kZ (kS "number") 756)] 0) #[]))::
  (nat_lit 459, (kO (kY "tuple") none (PySem.Data.seq #[] 0) #[]))::
  (nat_lit 461, (kO (kY "code") none (PySem.Data.fields #[(kZ (kS "booking") 752), (kZ (kS "Journal.booking") 753), (kZ (kS "/claim/cut.py") 754), (PySem.Value.int (176 : Int) 0), (PySem.Value.int (2 : Int) 0), (PySem.Value.int (0 : Int) 0), (PySem.Value.int (0 : Int) 0), (PySem.Value.int (3 : Int) 0), (kR 456), (PySem.Value.bool true), (PySem.Value.int (181 : Int) 0), (kR 457), kN, (kR 458), (kR 459), (kR 460), (PySem.Value.int (757 : Int) 0), (PySem.Value.int (176 : Int) 0), (kZ (kS "/claim/cut.py") 758)]) #[]))::
  (nat_lit 462, (kO (kY "function") none (PySem.Data.func (PySem.W.fnOf (kS "booking") (kS "Journal.booking") (ay bf) (av bf) (af bf) kN kN kN (kZ (kS "evenhall.journal") 712) none (kR 461) kN)) #[]))::
  (nat_lit 463, (kO (kY "tuple") none (PySem.Data.seq #[] 0) #[]))::
  (nat_lit 465, (kO (kY "tuple") none (PySem.Data.seq #[(kZ (kS "self") 763)] 0) #[]))::
  (nat_lit 466, (kO (kY "tuple") none (PySem.Data.seq #[] 0) #[]))::
  (nat_lit 468, (kO (kY "code") none (PySem.Data.fields #[(kZ (kS "every") 760), (kZ (kS "Journal.every") 761), (kZ (kS "/claim/cut.py") 762), (PySem.Value.int (181 : Int) 0), (PySem.Value.int (1 : Int) 0), (PySem.Value.int (0 : Int) 0), (PySem.Value.int (0 : Int) 0), (PySem.Value.int (3 : Int) 0), (kR 463), (PySem.Value.bool true), (PySem.Value.int (181 : Int) 0), (kR 464), kN, (kR 465), (kR 466), (kR 467), (PySem.Value.int (764 : Int) 0), (PySem.Value.int (181 : Int) 0), (kZ (kS "/claim/cut.py") 765)]) #[]))::
  (nat_lit 469, (kO (kY "function") none (PySem.Data.func (PySem.W.fnOf (kS "every") (kS "Journal.every") (ay aY) (av aY) (af aY) kN kN kN (kZ (kS "evenhall.journal") 712) none (kR 468) kN)) #[]))::
  (nat_lit 470, (kO (kY "tuple") none (PySem.Data.seq #[] 0) #[]))::
  (nat_lit 472, (kO (kY "tuple") none (PySem.Data.seq #[(kZ (kS "self") 770), (kZ (kS "number") 771)] 0) #[]))::
  (nat_lit 473, (kO (kY "tuple") none (PySem.Data.seq #[] 0) #[]))::
  (nat_lit 475, (kO (kY "code") none (PySem.Data.fields #[(kZ (kS "undone_by") 767), (kZ (kS "Journal.undone_by") 768), (kZ (kS "/claim/cut.py") 769), (PySem.Value.int (184 : Int) 0), (PySem.Value.int (2 : Int) 0), (PySem.Value.int (0 : Int) 0), (PySem.Value.int (0 : Int) 0), (PySem.Value.int (3 : Int) 0), (kR 470), (PySem.Value.bool true), (PySem.Value.int (181 : Int) 0), (kR 471), kN, (kR 472), (kR 473), (kR 474), (PySem.Value.int (772 : Int) 0), (PySem.Value.int (184 : Int) 0), (kZ (kS "/claim/cut.py") 773)]) #[]))::
  (nat_lit 476, (kO (kY "function") none (PySem.Data.func (PySem.FuncData.mk (kS "undone_by") (kS "Journal.undone_by") (PySem.Arguments.mk [] [(PySem.Arg.mk (kS "self") none (PySem.Pos.mk 184 18 184 22)), (PySem.Arg.mk (kS "number") none (PySem.Pos.mk 184 24 184 30))] none [] [] none []) (PySem.FuncBody.stmts [(PySem.Stmt.Expr (PySem.Expr.Call (PySem.Expr.Name (kS "_wall") (PySem.Pos.mk 185 8 185 13)) [(PySem.Expr.Constant (PySem.Const.int (17 : Int)) 0 (PySem.Pos.mk 185 14 185 16))] [] (PySem.Pos.mk 185 8 185 17)) (PySem.Pos.mk 185 8 185 17))]) (PySem.Scope.mk PySem.ScopeKind.function [((kS "self"), PySem.NameKind.local), ((kS "number"), PySem.NameKind.local), ((kS "_wall"), PySem.NameKind.globalImplicit)] false false []) 3 [] kN kN kN (kZ (kS "evenhall.journal") 712) none (kR 475) kN 0)) #[]))::
  (nat_lit 477, (kO (kY "tuple") none (PySem.Data.seq #[(kZ (kS "bookings") 775), (kZ (kS "undoings") 776)] 0) #[]))::
  (nat_lit 478, (kO (kY "dict") none (PySem.Data.dict #[(kE P "__module__" 721 (kZ (kS "evenhall.journal") 712)), (kE P "__firstlineno__" 725 (PySem.Value.int (160 : Int) 724)), (kE P "__init__" 732 (kR 441)), (kE P "put" 744 (kR 448)), (kE P "many" 751 (kR 455)), (kE P "booking" 759 (kR 462)), (kE P "every" 766 (kR 469)), (kE P "undone_by" 774 (kR 476)), (kE P "__static_attributes__" 777 (kR 477)), (kE P "__dict__" 779 (kR 480)), (kE P "__weakref__" 781 (kR 481)), (kE P "__doc__" 782 kN)] 4) #[]))::
  (nat_lit 479, (kO (kY "type") none (PySem.Data.cls (PySem.ClassData.mk (kS "Journal") [(kY "object")] [(kR 479), (kY "object")] 478 (kS "Journal") true [] [] false none false)) #[none, none, (some (kZ (kS "Journal") 714)), (some (kZ (kS "Journal") 722)), (some (kB "object.__new__")), (some (PySem.Value.bool true))]))::
  (nat_lit 480, (kO (kY "getset_descriptor") none (PySem.Data.fields #[(kZ (kS "__dict__") 778), (kR 479), (kB "function.__dict__"), (kB "function.__dict__#set")]) #[]))::
  (nat_lit 481, (kO (kY "getset_descriptor") none (PySem.Data.fields #[(kZ (kS "__weakref__") 780), (kR 479), (kB "ExceptionGroup.__weakref__"), kN]) #[]))::
  (nat_lit 484, (kO (kY "tuple") none (PySem.Data.seq #[] 0) #[]))::
  (nat_lit 486, (kO (kY "tuple") none (PySem.Data.seq #[(kZ (kS "_law_script") 790), (kZ (kS "_law_k") 791)] 0) #[]))::
  (nat_lit 487, (kO (kY "tuple") none (PySem.Data.seq #[] 0) #[]))::
  (nat_lit 489, (kO (kY "code") none (PySem.Data.fields #[(kZ (kS "_law_cell_at") 787), (kZ (kS "_law_cell_at") 788), (kZ (kS "/claim/cut.py") 789), (PySem.Value.int (187 : Int) 0), (PySem.Value.int (2 : Int) 0), (PySem.Value.int (0 : Int) 0), (PySem.Value.int (0 : Int) 0), (PySem.Value.int (3 : Int) 0), (kR 484), (PySem.Value.bool true), (PySem.Value.int (181 : Int) 0), (kR 485), kN, (kR 486), (kR 487), (kR 488), (PySem.Value.int (792 : Int) 0), (PySem.Value.int (187 : Int) 0), (kZ (kS "/claim/cut.py") 793)]) #[]))::
  (nat_lit 490, (kO (kY "function") none (PySem.Data.func (PySem.W.fnOf (kS "_law_cell_at") (kS "_law_cell_at") (ay bg) (av bg) (af bg) kN kN kN (kZ (kS "law_evenhall_k19_balances") 785) none (kR 489) kN)) #[]))::
  (nat_lit 491, (kO (kY "tuple") none (PySem.Data.seq #[] 0) #[]))::
  (nat_lit 493, (kO (kY "tuple") none (PySem.Data.seq #[(kZ (kS "_law_cell") 798), (kZ (kS "_law_k") 799)] 0) #[]))::
  (nat_lit 494, (kO (kY "tuple") none (PySem.Data.seq #[] 0) #[]))::
  (nat_lit 496, (kO (kY "code") none (PySem.Data.fields #[(kZ (kS "_law_mixed") 795), (kZ (kS "_law_mixed") 796), (kZ (kS "/claim/cut.py") 797), (PySem.Value.int (191 : Int) 0), (PySem.Value.int (2 : Int) 0), (PySem.Value.int (0 : Int) 0), (PySem.Value.int (0 : Int) 0), (PySem.Value.int (3 : Int) 0), (kR 491), (PySem.Value.bool true), (PySem.Value.int (181 : Int) 0), (kR 492), kN, (kR 493), (kR 494), (kR 495), (PySem.Value.int (800 : Int) 0), (PySem.Value.int (191 : Int) 0), (kZ (kS "/claim/cut.py") 801)]) #[]))::
  (nat_lit 497, (kO (kY "function") none (PySem.Data.func (PySem.W.fnOf (kS "_law_mixed") (kS "_law_mixed") (ay bB) (av bB) (af bB) kN kN kN (kZ (kS "law_evenhall_k19_balances") 785) none (kR 496) kN)) #[]))::
  (nat_lit 498, (kO (kY "tuple") none (PySem.Data.seq #[] 0) #[]))::
  (nat_lit 500, (kO (kY "tuple") none (PySem.Data.seq #[(kZ (kS "_law_found") 806)] 0) #[]))::
  (nat_lit 501, (kO (kY "tuple") none (PySem.Data.seq #[] 0) #[]))::
  (nat_lit 503, (kO (kY "code") none (PySem.Data.fields #[(kZ (kS "_law_whole") 803), (kZ (kS "_law_whole") 804), (kZ (kS "/claim/cut.py") 805), (PySem.Value.int (193 : Int) 0), (PySem.Value.int (1 : Int) 0), (PySem.Value.int (0 : Int) 0), (PySem.Value.int (0 : Int) 0), (PySem.Value.int (3 : Int) 0), (kR 498), (PySem.Value.bool true), (PySem.Value.int (181 : Int) 0), (kR 499), kN, (kR 500), (kR 501), (kR 502), (PySem.Value.int (807 : Int) 0), (PySem.Value.int (193 : Int) 0), (kZ (kS "/claim/cut.py") 808)]) #[]))::
  (nat_lit 504, (kO (kY "function") none (PySem.Data.func (PySem.W.fnOf (kS "_law_whole") (kS "_law_whole") (ay bz) (av bz) (af bz) kN kN kN (kZ (kS "law_evenhall_k19_balances") 785) none (kR 503) kN)) #[]))::
  (nat_lit 505, (kO (kY "tuple") none (PySem.Data.seq #[] 0) #[]))::
  (nat_lit 508, (kO (kY "code") none (PySem.Data.fields #[(kZ (kS "_law_names") 810), (kZ (kS "_law_names") 811), (kZ (kS "/claim/cut.py") 812), (PySem.Value.int (195 : Int) 0), (PySem.Value.int (1 : Int) 0), (PySem.Value.int (0 : Int) 0), (PySem.Value.int (0 : Int) 0), (PySem.Value.int (3 : Int) 0), (kR 505), (PySem.Value.bool true), (PySem.Value.int (181 : Int) 0), (kR 506), kN, kN, kN, (kR 507), (PySem.Value.int (813 : Int) 0), (PySem.Value.int (195 : Int) 0), (kZ (kS "/claim/cut.py") 814)]) #[]))::
  (nat_lit 509, (kO (kY "function") none (PySem.Data.func (PySem.W.fnOf (kS "_law_names") (kS "_law_names") (ay bD) (av bD) (af bD) kN kN kN (kZ (kS "law_evenhall_k19_balances") 785) none (kR 508) kN)) #[]))::
  (nat_lit 510, (kO (kY "tuple") none (PySem.Data.seq #[] 0) #[]))::
  (nat_lit 512, (kO (kY "tuple") none (PySem.Data.seq #[(kZ (kS "_law_script") 819), (kZ (kS "_law_many") 820), (kZ (kS "_law_names_here") 821), (kZ (kS "_law_paths_here") 822), (kZ (kS "_law_k") 823), (kZ (kS "_law_cell") 824), (kZ (kS "_law_ahead") 825), (kZ (kS "_law_path") 826)] 0) #[]))::
  (nat_lit 513, (kO (kY "tuple") none (PySem.Data.seq #[] 0) #[]))::
  (nat_lit 515, (kO (kY "code") none (PySem.Data.fields #[(kZ (kS "_law_paths") 816), (kZ (kS "_law_paths") 817), (kZ (kS "/claim/cut.py") 818), (PySem.Value.int (206 : Int) 0), (PySem.Value.int (2 : Int) 0), (PySem.Value.int (0 : Int) 0), (PySem.Value.int (0 : Int) 0), (PySem.Value.int (3 : Int) 0), (kR 510), (PySem.Value.bool true), (PySem.Value.int (181 : Int) 0), (kR 511), kN, (kR 512), (kR 513), (kR 514), (PySem.Value.int (827 : Int) 0), (PySem.Value.int (206 : Int) 0), (kZ (kS "/claim/cut.py") 828)]) #[]))::
  (nat_lit 516, (kO (kY "function") none (PySem.Data.func (PySem.W.fnOf (kS "_law_paths") (kS "_law_paths") (ay bF) (av bF) (af bF) kN kN kN (kZ (kS "law_evenhall_k19_balances") 785) none (kR 515) kN)) #[]))::
  (nat_lit 517, (kO (kY "tuple") none (PySem.Data.seq #[] 0) #[]))::
  (nat_lit 519, (kO (kY "tuple") none (PySem.Data.seq #[(kZ (kS "_law_paths_here") 833), (kZ (kS "_law_chart_here") 834), (kZ (kS "_law_k") 835), (kZ (kS "_law_path") 836)] 0) #[]))::
  (nat_lit 520, (kO (kY "tuple") none (PySem.Data.seq #[] 0) #[]))::
  (nat_lit 522, (kO (kY "code") none (PySem.Data.fields #[(kZ (kS "_law_chart") 830), (kZ (kS "_law_chart") 831), (kZ (kS "/claim/cut.py") 832), (PySem.Value.int (216 : Int) 0), (PySem.Value.int (1 : Int) 0), (PySem.Value.int (0 : Int) 0), (PySem.Value.int (0 : Int) 0), (PySem.Value.int (3 : Int) 0), (kR 517), (PySem.Value.bool true), (PySem.Value.int (181 : Int) 0), (kR 518), kN, (kR 519), (kR 520), (kR 521), (PySem.Value.int (837 : Int) 0), (PySem.Value.int (216 : Int) 0), (kZ (kS "/claim/cut.py") 838)]) #[]))::
  (nat_lit 523, (kO (kY "function") none (PySem.Data.func (PySem.W.fnOf (kS "_law_chart") (kS "_law_chart") (ay bE) (av bE) (af bE) kN kN kN (kZ (kS "law_evenhall_k19_balances") 785) none (kR 522) kN)) #[]))::
  (nat_lit 524, (kO (kY "tuple") none (PySem.Data.seq #[] 0) #[]))::
  (nat_lit 527, (kO (kY "code") none (PySem.Data.fields #[(kZ (kS "_law_currencies") 840), (kZ (kS "_law_currencies") 841), (kZ (kS "/claim/cut.py") 842), (PySem.Value.int (224 : Int) 0), (PySem.Value.int (1 : Int) 0), (PySem.Value.int (0 : Int) 0), (PySem.Value.int (0 : Int) 0), (PySem.Value.int (3 : Int) 0), (kR 524), (PySem.Value.bool true), (PySem.Value.int (181 : Int) 0), (kR 525), kN, kN, kN, (kR 526), (PySem.Value.int (843 : Int) 0), (PySem.Value.int (224 : Int) 0), (kZ (kS "/claim/cut.py") 844)]) #[]))::
  (nat_lit 528, (kO (kY "function") none (PySem.Data.func (PySem.W.fnOf (kS "_law_currencies") (kS "_law_currencies") (ay aM) (av aM) (af aM) kN kN kN (kZ (kS "law_evenhall_k19_balances") 785) none (kR 527) kN)) #[]))::
  (nat_lit 529, (kO (kY "tuple") none (PySem.Data.seq #[] 0) #[]))::
  (nat_lit 531, (kO (kY "tuple") none (PySem.Data.seq #[(kZ (kS "_law_month") 849), (kZ (kS "_law_year") 850), (kZ (kS "_law_day_here") 851), (kZ (kS "_law_long_year") 852), (kZ (kS "_law_place") 853)] 0) #[]))::
  (nat_lit 532, (kO (kY "tuple") none (PySem.Data.seq #[] 0) #[]))::
  (nat_lit 534, (kO (kY "code") none (PySem.Data.fields #[(kZ (kS "_law_first") 846), (kZ (kS "_law_first") 847), (kZ (kS "/claim/cut.py") 848), (PySem.Value.int (229 : Int) 0), (PySem.Value.int (1 : Int) 0), (PySem.Value.int (0 : Int) 0), (PySem.Value.int (0 : Int) 0), (PySem.Value.int (3 : Int) 0), (kR 529), (PySem.Value.bool true), (PySem.Value.int (181 : Int) 0), (kR 530), kN, (kR 531), (kR 532), (kR 533), (PySem.Value.int (854 : Int) 0), (PySem.Value.int (229 : Int) 0), (kZ (kS "/claim/cut.py") 855)]) #[]))::
  (nat_lit 535, (kO (kY "function") none (PySem.Data.func (PySem.W.fnOf (kS "_law_first") (kS "_law_first") (ay aZ) (av aZ) (af aZ) kN kN kN (kZ (kS "law_evenhall_k19_balances") 785) none (kR 534) kN)) #[]))::
  (nat_lit 536, (kO (kY "tuple") none (PySem.Data.seq #[] 0) #[]))::
  (nat_lit 538, (kO (kY "tuple") none (PySem.Data.seq #[(kZ (kS "_law_cell") 860), (kZ (kS "_law_month") 861)] 0) #[]))::
  (nat_lit 539, (kO (kY "tuple") none (PySem.Data.seq #[] 0) #[]))::
  (nat_lit 541, (kO (kY "code") none (PySem.Data.fields #[(kZ (kS "_law_day") 857), (kZ (kS "_law_day") 858), (kZ (kS "/claim/cut.py") 859), (PySem.Value.int (236 : Int) 0), (PySem.Value.int (2 : Int) 0), (PySem.Value.int (0 : Int) 0), (PySem.Value.int (0 : Int) 0), (PySem.Value.int (3 : Int) 0), (kR 536), (PySem.Value.bool true), (PySem.Value.int (181 : Int) 0), (kR 537), kN, (kR 538), (kR 539), (kR 540), (PySem.Value.int (862 : Int) 0), (PySem.Value.int (236 : Int) 0), (kZ (kS "/claim/cut.py") 863)]) #[]))::
  (nat_lit 542, (kO (kY "function") none (PySem.Data.func (PySem.W.fnOf (kS "_law_day") (kS "_law_day") (ay bT) (av bT) (af bT) kN kN kN (kZ (kS "law_evenhall_k19_balances") 785) none (kR 541) kN)) #[]))::
  (nat_lit 543, (kO (kY "tuple") none (PySem.Data.seq #[] 0) #[]))::
  (nat_lit 545, (kO (kY "tuple") none (PySem.Data.seq #[(kZ (kS "_law_cell") 868), (kZ (kS "_law_some") 869)] 0) #[]))::
  (nat_lit 546, (kO (kY "tuple") none (PySem.Data.seq #[] 0) #[]))::
  (nat_lit 548, (kO (kY "code") none (PySem.Data.fields #[(kZ (kS "_law_amount") 865), (kZ (kS "_law_amount") 866), (kZ (kS "/claim/cut.py") 867), (PySem.Value.int (242 : Int) 0), (PySem.Value.int (1 : Int) 0), (PySem.Value.int (0 : Int) 0), (PySem.Value.int (0 : Int) 0), (PySem.Value.int (3 : Int) 0), (kR 543), (PySem.Value.bool true), (PySem.Value.int (181 : Int) 0), (kR 544), kN, (kR 545), (kR 546), (kR 547), (PySem.Value.int (870 : Int) 0), (PySem.Value.int (242 : Int) 0), (kZ (kS "/claim/cut.py") 871)]) #[]))::
  (nat_lit 549, (kO (kY "function") none (PySem.Data.func (PySem.W.fnOf (kS "_law_amount") (kS "_law_amount") (ay bc) (av bc) (af bc) kN kN kN (kZ (kS "law_evenhall_k19_balances") 785) none (kR 548) kN)) #[]))::
  (nat_lit 550, (kO (kY "tuple") none (PySem.Data.seq #[] 0) #[]))::
  (nat_lit 552, (kO (kY "tuple") none (PySem.Data.seq #[(kZ (kS "_law_cell") 876), (kZ (kS "_law_paths_here") 877), (kZ (kS "_law_currencies_here") 878), (kZ (kS "_law_rows_here") 879), (kZ (kS "_law_k") 880), (kZ (kS "_law_path") 881), (kZ (kS "_law_currency") 882), (kZ (kS "_law_amount_here") 883)] 0) #[]))::
  (nat_lit 553, (kO (kY "tuple") none (PySem.Data.seq #[] 0) #[]))::
  (nat_lit 555, (kO (kY "code") none (PySem.Data.fields #[(kZ (kS "_law_rows") 873), (kZ (kS "_law_rows") 874), (kZ (kS "/claim/cut.py") 875), (PySem.Value.int (249 : Int) 0), (PySem.Value.int (3 : Int) 0), (PySem.Value.int (0 : Int) 0), (PySem.Value.int (0 : Int) 0), (PySem.Value.int (3 : Int) 0), (kR 550), (PySem.Value.bool true), (PySem.Value.int (181 : Int) 0), (kR 551), kN, (kR 552), (kR 553), (kR 554), (PySem.Value.int (884 : Int) 0), (PySem.Value.int (249 : Int) 0), (kZ (kS "/claim/cut.py") 885)]) #[]))::
  (nat_lit 556, (kO (kY "function") none (PySem.Data.func (PySem.W.fnOf (kS "_law_rows") (kS "_law_rows") (ay bG) (av bG) (af bG) kN kN kN (kZ (kS "law_evenhall_k19_balances") 785) none (kR 555) kN)) #[]))::
  (nat_lit 557, (kO (kY "tuple") none (PySem.Data.seq #[] 0) #[]))::
  (nat_lit 560, (kO (kY "code") none (PySem.Data.fields #[(kZ (kS "_law_due") 887), (kZ (kS "_law_due") 888), (kZ (kS "/claim/cut.py") 889), (PySem.Value.int (259 : Int) 0), (PySem.Value.int (2 : Int) 0), (PySem.Value.int (0 : Int) 0), (PySem.Value.int (0 : Int) 0), (PySem.Value.int (3 : Int) 0), (kR 557), (PySem.Value.bool true), (PySem.Value.int (181 : Int) 0), (kR 558), kN, kN, kN, (kR 559), (PySem.Value.int (890 : Int) 0), (PySem.Value.int (259 : Int) 0), (kZ (kS "/claim/cut.py") 891)]) #[]))::
  (nat_lit 561, (kO (kY "function") none (PySem.Data.func (PySem.W.fnOf (kS "_law_due") (kS "_law_due") (ay bU) (av bU) (af bU) kN kN kN (kZ (kS "law_evenhall_k19_balances") 785) none (kR 560) kN)) #[]))::
  (nat_lit 562, (kO (kY "tuple") none (PySem.Data.seq #[] 0) #[]))::
  (nat_lit 564, (kO (kY "tuple") none (PySem.Data.seq #[(kZ (kS "_law_chart_here") 896), (kZ (kS "_law_journal") 897), (kZ (kS "_law_booked") 898), (kZ (kS "_law_day_here") 899), (kZ (kS "_law_held") 900), (kZ (kS "_law_due_here") 901), (kZ (kS "_law_found") 902), (kZ (kS "_law_row") 903)] 0) #[]))::
  (nat_lit 565, (kO (kY "tuple") none (PySem.Data.seq #[] 0) #[]))::
  (nat_lit 567, (kO (kY "code") none (PySem.Data.fields #[(kZ (kS "_law_told") 893), (kZ (kS "_law_told") 894), (kZ (kS "/claim/cut.py") 895), (PySem.Value.int (266 : Int) 0), (PySem.Value.int (5 : Int) 0), (PySem.Value.int (0 : Int) 0), (PySem.Value.int (0 : Int) 0), (PySem.Value.int (3 : Int) 0), (kR 562), (PySem.Value.bool true), (PySem.Value.int (181 : Int) 0), (kR 563), kN, (kR 564), (kR 565), (kR 566), (PySem.Value.int (904 : Int) 0), (PySem.Value.int (266 : Int) 0), (kZ (kS "/claim/cut.py") 905)]) #[]))::
  (nat_lit 568, (kO (kY "function") none (PySem.Data.func (PySem.W.fnOf (kS "_law_told") (kS "_law_told") (ay bj) (av bj) (af bj) kN kN kN (kZ (kS "law_evenhall_k19_balances") 785) none (kR 567) kN)) #[]))::
  (nat_lit 569, (kO (kY "tuple") none (PySem.Data.seq #[] 0) #[]))::
  (nat_lit 572, (kO (kY "code") none (PySem.Data.fields #[(kZ (kS "law") 907), (kZ (kS "law") 908), (kZ (kS "/claim/cut.py") 909), (PySem.Value.int (277 : Int) 0), (PySem.Value.int (1 : Int) 0), (PySem.Value.int (0 : Int) 0), (PySem.Value.int (0 : Int) 0), (PySem.Value.int (3 : Int) 0), (kR 569), (PySem.Value.bool true), (PySem.Value.int (181 : Int) 0), (kR 570), kN, kN, kN, (kR 571), (PySem.Value.int (910 : Int) 0), (PySem.Value.int (277 : Int) 0), (kZ (kS "/claim/cut.py") 911)]) #[]))::
  (nat_lit 573, (kO (kY "function") none (PySem.Data.func (PySem.W.fnOf (kS "law") (kS "law") (ay d_) (av d_) (af d_) kN kN kN (kZ (kS "law_evenhall_k19_balances") 785) none (kR 572) kN)) #[])) :: []
def adrs : List Addr := [nat_lit 2, nat_lit 3, nat_lit 15, nat_lit 17, nat_lit 18, nat_lit 20, nat_lit 21, nat_lit 22, nat_lit 29, nat_lit 30, nat_lit 31, nat_lit 32, nat_lit 35, nat_lit 42, nat_lit 44, nat_lit 45, nat_lit 47, nat_lit 48, nat_lit 49, nat_lit 50, nat_lit 51, nat_lit 54, nat_lit 61, nat_lit 63, nat_lit 64, nat_lit 66, nat_lit 67, nat_lit 68, nat_lit 69, nat_lit 70, nat_lit 73, nat_lit 80, nat_lit 82, nat_lit 83, nat_lit 85, nat_lit 86, nat_lit 87, nat_lit 88, nat_lit 89, nat_lit 92, nat_lit 99, nat_lit 101, nat_lit 102, nat_lit 104, nat_lit 105, nat_lit 106, nat_lit 107, nat_lit 108, nat_lit 111, nat_lit 118, nat_lit 120, nat_lit 121, nat_lit 123, nat_lit 124, nat_lit 125, nat_lit 126, nat_lit 127, nat_lit 130, nat_lit 137, nat_lit 139, nat_lit 140, nat_lit 142, nat_lit 143, nat_lit 144, nat_lit 145, nat_lit 146, nat_lit 149, nat_lit 156, nat_lit 158, nat_lit 159, nat_lit 161, nat_lit 162, nat_lit 163, nat_lit 164, nat_lit 165, nat_lit 168, nat_lit 175, nat_lit 177, nat_lit 178, nat_lit 180, nat_lit 181, nat_lit 182, nat_lit 183, nat_lit 184, nat_lit 187, nat_lit 194, nat_lit 196, nat_lit 197, nat_lit 199, nat_lit 200, nat_lit 201, nat_lit 202, nat_lit 203, nat_lit 206, nat_lit 208, nat_lit 209, nat_lit 211, nat_lit 212, nat_lit 213, nat_lit 215, nat_lit 216, nat_lit 218, nat_lit 219, nat_lit 220, nat_lit 223, nat_lit 224, nat_lit 225, nat_lit 227, nat_lit 228, nat_lit 230, nat_lit 231, nat_lit 232, nat_lit 234, nat_lit 235, nat_lit 237, nat_lit 238, nat_lit 239, nat_lit 242, nat_lit 243, nat_lit 244, nat_lit 247, nat_lit 248, nat_lit 249, nat_lit 251, nat_lit 252, nat_lit 254, nat_lit 255, nat_lit 256, nat_lit 258, nat_lit 259, nat_lit 261, nat_lit 262, nat_lit 263, nat_lit 266, nat_lit 267, nat_lit 268, nat_lit 270, nat_lit 271, nat_lit 273, nat_lit 274, nat_lit 275, nat_lit 278, nat_lit 279, nat_lit 280, nat_lit 282, nat_lit 283, nat_lit 285, nat_lit 286, nat_lit 287, nat_lit 289, nat_lit 290, nat_lit 292, nat_lit 293, nat_lit 294, nat_lit 302, nat_lit 304, nat_lit 305, nat_lit 307, nat_lit 308, nat_lit 309, nat_lit 311, nat_lit 312, nat_lit 314, nat_lit 315, nat_lit 316, nat_lit 318, nat_lit 319, nat_lit 321, nat_lit 322, nat_lit 323, nat_lit 324, nat_lit 325, nat_lit 326, nat_lit 327, nat_lit 337, nat_lit 339, nat_lit 340, nat_lit 342, nat_lit 343, nat_lit 344, nat_lit 346, nat_lit 347, nat_lit 349, nat_lit 350, nat_lit 351, nat_lit 353, nat_lit 354, nat_lit 356, nat_lit 357, nat_lit 358, nat_lit 360, nat_lit 361, nat_lit 363, nat_lit 364, nat_lit 365, nat_lit 367, nat_lit 368, nat_lit 370, nat_lit 371, nat_lit 372, nat_lit 374, nat_lit 375, nat_lit 377, nat_lit 378, nat_lit 379, nat_lit 381, nat_lit 382, nat_lit 384, nat_lit 385, nat_lit 386, nat_lit 388, nat_lit 389, nat_lit 391, nat_lit 392, nat_lit 393, nat_lit 395, nat_lit 396, nat_lit 398, nat_lit 399, nat_lit 400, nat_lit 402, nat_lit 403, nat_lit 405, nat_lit 406, nat_lit 407, nat_lit 409, nat_lit 410, nat_lit 412, nat_lit 413, nat_lit 414, nat_lit 416, nat_lit 417, nat_lit 419, nat_lit 420, nat_lit 421, nat_lit 422, nat_lit 423, nat_lit 424, nat_lit 425, nat_lit 435, nat_lit 437, nat_lit 438, nat_lit 440, nat_lit 441, nat_lit 442, nat_lit 444, nat_lit 445, nat_lit 447, nat_lit 448, nat_lit 449, nat_lit 451, nat_lit 452, nat_lit 454, nat_lit 455, nat_lit 456, nat_lit 458, nat_lit 459, nat_lit 461, nat_lit 462, nat_lit 463, nat_lit 465, nat_lit 466, nat_lit 468, nat_lit 469, nat_lit 470, nat_lit 472, nat_lit 473, nat_lit 475, nat_lit 476, nat_lit 477, nat_lit 478, nat_lit 479, nat_lit 480, nat_lit 481, nat_lit 484, nat_lit 486, nat_lit 487, nat_lit 489, nat_lit 490, nat_lit 491, nat_lit 493, nat_lit 494, nat_lit 496, nat_lit 497, nat_lit 498, nat_lit 500, nat_lit 501, nat_lit 503, nat_lit 504, nat_lit 505, nat_lit 508, nat_lit 509, nat_lit 510, nat_lit 512, nat_lit 513, nat_lit 515, nat_lit 516, nat_lit 517, nat_lit 519, nat_lit 520, nat_lit 522, nat_lit 523, nat_lit 524, nat_lit 527, nat_lit 528, nat_lit 529, nat_lit 531, nat_lit 532, nat_lit 534, nat_lit 535, nat_lit 536, nat_lit 538, nat_lit 539, nat_lit 541, nat_lit 542, nat_lit 543, nat_lit 545, nat_lit 546, nat_lit 548, nat_lit 549, nat_lit 550, nat_lit 552, nat_lit 553, nat_lit 555, nat_lit 556, nat_lit 557, nat_lit 560, nat_lit 561, nat_lit 562, nat_lit 564, nat_lit 565, nat_lit 567, nat_lit 568, nat_lit 569, nat_lit 572, nat_lit 573]
theorem adrs_eq (P : Params) : adrs = (frag P).map (·.1) := by kernel_rfl
def vw : Program := PySem.W.view PySem.Challenge.pw_evenhall_k19_balances [0, 2, 3, 4, 5, 6, 7, 8, 9, 10, 11, 13, 14, 15, 16, 18, 20, 22, 23, 24, 25, 27, 28, 29, 31, 33, 34, 35, 37, 39, 40, 41, 42, 43, 44, 45, 46, 47, 48, 49, 50, 51, 52]
open PySem.W in
noncomputable def tree0 (P : Params) : BT := (.node (boot_o_0 P) (.node (boot_o_1 P) (.node (boot_o_3 P) (.node (boot_o_7 P) .nil .nil) .nil) (.node (boot_o_5 P) (.node (boot_o_9 P) .nil .nil) .nil)) (.node (boot_o_2 P) (.node (boot_o_4 P) (.node (boot_o_8 P) .nil .nil) .nil) (.node (boot_o_6 P) (.node (boot_o_10 P) .nil .nil) .nil)))
open PySem.W PyProof.Rows in
noncomputable def run (w : World) (os : OsState) := (TR.go PySem.Challenge.pw_evenhall_k19_balances w 11 (some (.ref 6)) 9294 ⟨tree0 w.params, 11, (boot_heap w.params).life, Array.mk [], boot_drawn, boot_toks, os⟩ (topStub PySem.Challenge.pw_evenhall_k19_balances)).map fun x => (TR.look PySem.Challenge.pw_evenhall_k19_balances w.params x.abs, openSeen vw [] (importedModules PySem.Challenge.pw_evenhall_k19_balances.main.body) (fun s => PySem.W.xlAt vw [] s && PySem.W.recOk (PySem.W.RowW.records (PySem.W.OpenRow.toRowW (PySem.W.OpenLaw.row PySem.Challenge.rw_evenhall_k19_balances))) s) true x.abs, adrs.map x.abs.heap.get?)
noncomputable def good (x : List (Option Obj)) (_ : OsState) := some (true, PySem.W.openGood vw [], x)
set_option maxRecDepth 100000 in
set_option maxHeartbeats 0 in
lay_quick K19.run
set_option maxRecDepth 100000 in
set_option maxHeartbeats 0 in
lay_quick K19.good
set_option maxRecDepth 100000 in
set_option maxHeartbeats 0 in
theorem left : PySem.W.LeftO PySem.Challenge.pw_evenhall_k19_balances vw [] (fun s => PySem.W.xlAt vw [] s && PySem.W.recOk (PySem.W.RowW.records (PySem.W.OpenRow.toRowW (PySem.W.OpenLaw.row PySem.Challenge.rw_evenhall_k19_balances))) s) (PySem.W.kHook frag adrs adrs_eq).obs (PySem.W.kHook frag adrs adrs_eq).val 9294 :=
  TR.left (lo := 11) (an := some (.ref 6)) (tr := tree0) (PySem.W.boot_open (by kernel_rfl) (by decide) (fun s => by kernel_rfl)) (fun P => by kernel_rfl) (fun P => by kernel_rfl) fun w =>
    (congrFun PySem.W.Fast.te4466970034764716536 w).trans ((show PySem.W.Fast.tw4466970034764716536 w = PySem.W.Fast.tw460296884238331766 ((frag w.params).map fun p => some p.2) by kernel_rfl).trans (congrFun PySem.W.Fast.te460296884238331766 _).symm)
end K19
set_option Elab.async false
set_option linter.all false
set_option maxRecDepth 100000
namespace L2
open PySem PySem.Spec PyProof.Rows
abbrev Key := Sum Int Str
def m9 : Key → Value → Bool
  | .inl k, v => Value.isInt k v
  | .inr x, v => Value.isStrOf x v
def BP (w : World) : Key → Int
  | .inl k => hashInt k
  | .inr x => hashStr w x
theorem bP : ∀ {k : Key} {v : Value}, m9 k v = true → (∃ i t, k = Sum.inl i ∧ v = Value.int i t) ∨ (∃ x t, k = Sum.inr x ∧ v = Value.str x t)
  | .inl i, v, h => by
    obtain ⟨t, e⟩ := Value.isInt_shape (k := i) (v := v) h
    exact .inl ⟨i, t, rfl, e⟩
  | .inr x, v, h => by
    obtain ⟨t, e⟩ := Value.isStrOf_shape (x := x) (v := v) h
    exact .inr ⟨x, t, rfl, e⟩
theorem t_ (i : Int) (t : Tok) : m9 (.inl i) (.int i t) = true := by simp [m9, Value.isInt]
theorem tX (x : Str) (t : Tok) : m9 (.inr x) (.str x t) = true := by simp [m9, Value.isStrOf]
theorem zD (a b : Int) : decide ((Sum.inl a : Key) = Sum.inl b) = (a == b) := by
  by_cases e : a = b
  · subst e; simp
  · have h : ¬ (Sum.inl a : Key) = Sum.inl b := fun q => e (Sum.inl.inj q)
    rw [decide_eq_false h]
    exact (beq_eq_false_iff_ne.mpr e).symm
theorem ze (a b : Str) : decide ((Sum.inr a : Key) = Sum.inr b) = decide (a = b) := by
  by_cases e : a = b
  · subst e; simp
  · have h : ¬ (Sum.inr a : Key) = Sum.inr b := fun q => e (Sum.inr.inj q)
    rw [decide_eq_false h, decide_eq_false e]
theorem zx (a : Int) (b : Str) : decide ((Sum.inl a : Key) = Sum.inr b) = false := decide_eq_false (fun q => nomatch q)
theorem zP (a : Str) (b : Int) : decide ((Sum.inr a : Key) = Sum.inl b) = false := decide_eq_false (fun q => nomatch q)
def bW (prog : Program) (w : World) : PySem.KeyKind prog w Key where
  is := m9
  hash := BP w
  inj := fun v a b ha hb => by
    rcases bP ha with ⟨i, t, rfl, rfl⟩ | ⟨x, t, rfl, rfl⟩
    · rcases bP hb with ⟨j, u, rfl, e⟩ | ⟨y, u, rfl, e⟩
      · injection e with e1 _; rw [e1]
      · exact nomatch e
    · rcases bP hb with ⟨j, u, rfl, e⟩ | ⟨y, u, rfl, e⟩
      · exact nomatch e
      · injection e with e1 _; rw [e1]
  byValue := fun k v h => by
    rcases bP h with ⟨i, t, rfl, rfl⟩ | ⟨x, t, rfl, rfl⟩ <;> rfl
  pyHash := fun hv h => by
    rcases bP hv with ⟨i, t, rfl, rfl⟩ | ⟨x, t, rfl, rfl⟩
    · exact wpAny_pyHash_int h
    · exact wpAny_pyHash_str h
  eqBool := fun hu hv h => by
    rcases bP hu with ⟨i, t, rfl, rfl⟩ | ⟨x, t, rfl, rfl⟩
    · rcases bP hv with ⟨j, u, rfl, rfl⟩ | ⟨y, u, rfl, rfl⟩
      · rw [zD] at h; exact wpAny_eqBool_int h
      · rw [zx] at h; exact SeqAt.EqAt.int_str i t y u _ _ _ _ h
    · rcases bP hv with ⟨j, u, rfl, rfl⟩ | ⟨y, u, rfl, rfl⟩
      · rw [zP] at h; exact SeqAt.EqAt.str_int x t j u _ _ _ _ h
      · rw [ze] at h; exact wpAny_eqBool_str h
  «strs» := fun k x t v h => by
    rcases bP h with ⟨i, u, rfl, e⟩ | ⟨y, u, rfl, e⟩
    · exact nomatch e
    · injection e with e1 _
      subst e1
      cases v <;> rfl
theorem pj (prog : Program) (w : World) (i : Int) (t : Tok) : (bW prog w).is (.inl i) (.int i t) = true := t_ i t
theorem pQ (prog : Program) (w : World) (x : Str) (t : Tok) : (bW prog w).is (.inr x) (.str x t) = true := tX x t
end L2
namespace L2
open PySem PySem.Spec PyProof.Rows
inductive V where
  | non | bl (b : Bool) | int (i : Int) | str (x : Str) | byt (b : Array UInt8) | flt (b : UInt64) | ref (a : Addr) | ty (n : String)
  deriving DecidableEq
def RelV : V → Value → Prop
  | .non, u => u = Value.none
  | .bl b, u => u = Value.bool b
  | .int i, u => ∃ t, u = Value.int i t
  | .str x, u => ∃ t, u = Value.str x t
  | .byt b, u => ∃ t, u = Value.bytes b t
  | .flt b, u => ∃ t, u = Value.float b t
  | .ref a, u => u = Value.ref a
  | .ty n, u => u = Value.type n
abbrev Vals : List V → List Value → Prop := Paired RelV
theorem Vals.length {xs : List V} {us : List Value} (r : Vals xs us) : xs.length = us.length := Paired.length r
theorem Vals.get : ∀ {xs : List V} {us : List Value} {i : Nat} {x : V}, Vals xs us → xs[i]? = some x → ∃ u, us[i]? = some u ∧ RelV x u
  | _, _, _, _, .nil, e => by simp at e
  | _, _, 0, _, .cons r _, e => by simp at e; subst e; exact ⟨_, rfl, r⟩
  | _, _, i + 1, x, .cons _ t, e => by
    obtain ⟨u, h1, h2⟩ := Vals.get (i := i) (x := x) t (by simpa using e)
    exact ⟨u, by simpa using h1, h2⟩
theorem Vals.append : ∀ {xs ys : List V} {us ws : List Value}, Vals xs us → Vals ys ws → Vals (xs ++ ys) (us ++ ws)
  | _, _, _, _, .nil, s => s
  | _, _, _, _, .cons r t, s => .cons r (Vals.append t s)
theorem Vals.take : ∀ {xs : List V} {us : List Value} (n : Nat), Vals xs us → Vals (xs.take n) (us.take n)
  | _, _, 0, _ => .nil
  | _, _, _ + 1, .nil => .nil
  | _, _, n + 1, .cons r t => .cons r (Vals.take n t)
theorem Vals.drop : ∀ {xs : List V} {us : List Value} (n : Nat), Vals xs us → Vals (xs.drop n) (us.drop n)
  | _, _, 0, r => r
  | _, _, _ + 1, .nil => .nil
  | _, _, n + 1, .cons _ t => Vals.drop n t
def RelO : Option V → Option Value → Prop
  | some v, some u => RelV v u
  | none, none => True
  | _, _ => False
def KV {κ : Type} : List (κ × V) → List (κ × Value) → Prop := Paired fun (p : κ × V) (q : κ × Value) => p.1 = q.1 ∧ RelV p.2 q.2
def kV : Key → V
  | .inl i => .int i
  | .inr x => .str x
inductive HO where
  | lst (xs : List V)
  | tup (xs : List V)
  | dK (kvs : List (Key × V)) | dT (kvs : List (List Key × V))
  | set (S : Int → Bool) (n : Nat)
  | ins (C dx : Addr) (fs : List (Str × V))
  | own (x : Addr)
  | xd (fs : List (Str × V))
  | met (f x : Addr)
  | rng (lo hi : Int)
  | frz (o : Obj) (u : HO)
  | tbl (ps : Array Value)
  | ext (φ : Heap → Prop)
abbrev Hp := Addr → Option HO
def upd (H : Hp) (a : Addr) (o : HO) : Hp := fun b => if b = a then some o else H b
theorem ad {H : Hp} {a : Addr} {o : HO} : upd H a o a = some o := by unfold upd; rw [if_pos rfl]
theorem ap {H : Hp} {a b : Addr} {o : HO} (h : b ≠ a) : upd H a o b = H b := by unfold upd; rw [if_neg h]
theorem oO {H : Hp} {a : Addr} {o u : HO} : upd (upd H a o) a u = upd H a u := by
  funext b; unfold upd; split <;> rfl
theorem AU {H : Hp} {a b : Addr} {o u : HO} (h : H a = some o) (h' : H b = some u) (d : o ≠ u) : a ≠ b := by
  intro e; subst e; rw [h] at h'; exact d (Option.some.inj h')
theorem ai {H : Hp} {a b : Addr} {o : HO} (h : H a = some o) (h' : H b = none) : a ≠ b := by
  intro e; subst e; rw [h] at h'; cases h'
section
variable (P : Program) (w : World)
def ObjOk (H : Hp) (h : Heap) (a : Addr) : HO → Prop
  | .lst xs => xs.length ≤ sizeLine ∧ ∃ (its : List Value) (n : Nat), Vals xs its ∧ h.get? a = some { cls := .type "list", data := .seq its.toArray n }
  | .tup xs => xs.length ≤ sizeLine ∧ ∃ its : List Value, Vals xs its ∧ IsTup h a its.toArray
  | .dK kvs => kvs.length ≤ sizeLine ∧ (a == sysModules) = false ∧ ∃ vs, KV kvs vs ∧ h.DictOf (bW P w) a vs
  | .dT kvs => kvs.length ≤ sizeLine ∧ (a == sysModules) = false ∧ ∃ xs : List (List Key × Addr × Value),
      Paired (fun (p : List Key × V) (q : List Key × Addr × Value) => p.1 = q.1 ∧ H q.2.1 = some (.tup (p.1.map kV)) ∧ RelV p.2 q.2.2) kvs xs ∧
      ∃ o es ep, h.get? a = some o ∧ o.ExactDict ∧ o.data = .dict es ep ∧ es.toList = xs.map (entryOfKey (tupleKind (bW P w))) ∧ (xs.map (·.1)).Nodup
  | .set S n => h.SetOf (intKind P w) a S n
  | .ins C dx fs => H dx = some (.own a) ∧ fs.length ≤ 1000 ∧ dx ≠ a ∧ h.get? a = some (PySem.W.instObj C dx) ∧
      ∃ mA, h.Ns1 dx mA ∧ (∀ f, RelO (fs.lookup f) (mA f)) ∧ PySem.Within mA (fs.map (·.1))
  | .own _ => ∃ o, h.get? a = some o
  | .xd fs => ∃ mA, h.Ns1 a mA ∧ ∀ f, RelO (fs.lookup f) (mA f)
  | .rng lo hi => ∃ t u v, h.get? a = some { cls := .type "range", data := .fields #[.int lo t, .int hi u, .int 1 v] }
  | .frz o u => h.get? a = some o ∧ ObjOk H h a u
  | .tbl ps => h.get? a = some { cls := .none, data := .fields ps }
  | .met f x => h.get? a = some (PySem.W.methodObj (.ref f) (.ref x))
  | .ext φ => φ h ∧ (∃ o, h.get? a = some o) ∧ ∀ h1 h2 : Heap, φ h1 → (∀ o, h1.get? a = some o → h2.get? a = some o) → φ h2
def HOk (H : Hp) (h : Heap) : Prop := ∀ a o, H a = some o → ObjOk P w H h a o
end
section
variable {P : Program} {w : World} {H H' : Hp} {h h' : Heap} {a : Addr} {o : HO}
theorem ObjOk.lt (x : ObjOk P w H h a o) : a < h.objs.size := by
  cases o with
  | lst xs => obtain ⟨_, _, _, _, e⟩ := x; exact Heap.lt_size e
  | tup xs => obtain ⟨_, _, _, p⟩ := x; exact p.lt
  | dK kvs => obtain ⟨_, _, _, _, o, _, _, e, _⟩ := x; exact Heap.lt_size e
  | dT kvs => obtain ⟨_, _, _, _, o, _, _, e, _⟩ := x; exact Heap.lt_size e
  | set S n => obtain ⟨o, _, _, _, e, _⟩ := x; exact Heap.lt_size e
  | ins C dx fs => obtain ⟨_, _, _, e, _⟩ := x; exact Heap.lt_size e
  | own y => obtain ⟨_, e⟩ := x; exact Heap.lt_size e
  | xd fs => obtain ⟨_, ⟨_, _, _, e, _⟩, _⟩ := x; exact Heap.lt_size e
  | rng lo hi => obtain ⟨_, _, _, e⟩ := x; exact Heap.lt_size e
  | frz ob u => obtain ⟨e, _⟩ := x; exact Heap.lt_size e
  | tbl ps => exact Heap.lt_size (show h.get? a = some _ from x)
  | met f y => exact Heap.lt_size (show h.get? a = some _ from x)
  | ext φ => obtain ⟨_, ⟨_, e⟩, _⟩ := x; exact Heap.lt_size e
theorem Paired.mapP {α β : Type} {F G : α → β → Prop} : ∀ {l₁ : List α} {l₂ : List β}, Paired F l₁ l₂ → (∀ a b, F a b → G a b) → Paired G l₁ l₂
  | _, _, .nil, _ => .nil
  | _, _, .cons r t, f => .cons (f _ _ r) (Paired.mapP t f)
theorem ObjOk.stay (x : ObjOk P w H h a o) (k : ∀ b u, (b = a ∨ H b = some (.own a)) → h.get? b = some u → h'.get? b = some u)
    (ho : ∀ b, H b = some (.own a) → H' b = some (.own a)) (ht : ∀ b xs, H b = some (.tup xs) → H' b = some (.tup xs)) : ObjOk P w H' h' a o := by
  induction o with
  | lst xs => obtain ⟨z, its, n, r, e⟩ := x; exact ⟨z, its, n, r, k _ _ (.inl rfl) e⟩
  | tup xs => obtain ⟨z, its, r, ob, e, c⟩ := x; exact ⟨z, its, r, ob, k _ _ (.inl rfl) e, c⟩
  | dK kvs => obtain ⟨z, y, vs, r, ob, es, ep, e, c⟩ := x; exact ⟨z, y, vs, r, ob, es, ep, k _ _ (.inl rfl) e, c⟩
  | dT kvs =>
    obtain ⟨z, y, xs, r, ob, es, ep, e, c⟩ := x
    exact ⟨z, y, xs, Paired.mapP r fun p q z => ⟨z.1, ht _ _ z.2.1, z.2.2⟩, ob, es, ep, k _ _ (.inl rfl) e, c⟩
  | set S n => obtain ⟨ob, es, ep, t, e, c⟩ := x; exact ⟨ob, es, ep, t, k _ _ (.inl rfl) e, c⟩
  | ins C dx fs =>
    obtain ⟨d, z, ne, e, mA, ⟨od, es, ep, e2, c⟩, r⟩ := x
    exact ⟨ho _ d, z, ne, k _ _ (.inl rfl) e, mA, ⟨od, es, ep, k _ _ (.inr d) e2, c⟩, r⟩
  | own y => obtain ⟨ob, e⟩ := x; exact ⟨ob, k _ _ (.inl rfl) e⟩
  | xd fs => obtain ⟨mA, ⟨od, es, ep, e, c⟩, r⟩ := x; exact ⟨mA, ⟨od, es, ep, k _ _ (.inl rfl) e, c⟩, r⟩
  | rng lo hi => obtain ⟨t, u, v, e⟩ := x; exact ⟨t, u, v, k _ _ (.inl rfl) e⟩
  | frz ob u ih => obtain ⟨e, q⟩ := x; exact ⟨k _ _ (.inl rfl) e, ih q⟩
  | tbl ps =>
    have e : h.get? a = some { cls := .none, data := .fields ps } := x
    show h'.get? a = some { cls := .none, data := .fields ps }
    exact k a _ (.inl rfl) e
  | met f y =>
    have e : h.get? a = some (PySem.W.methodObj (.ref f) (.ref y)) := x
    show h'.get? a = some (PySem.W.methodObj (.ref f) (.ref y))
    exact k a _ (.inl rfl) e
  | ext φ => obtain ⟨p, ⟨o, e⟩, st⟩ := x; exact ⟨st _ _ p fun o q => k _ _ (.inl rfl) q, ⟨o, k _ _ (.inl rfl) e⟩, st⟩
theorem HOk.lt (x : HOk P w H h) (e : H a = some o) : a < h.objs.size := (x a o e).lt
theorem HOk.fresh (x : HOk P w H h) (e : h.objs.size ≤ a) : H a = none := by
  cases q : H a with
  | none => rfl
  | some u => exact absurd (Nat.lt_of_lt_of_le (x.lt q) e) (Nat.lt_irrefl _)
theorem HOk.kept (x : HOk P w H h) (k : ∀ b u, h.get? b = some u → h'.get? b = some u) : HOk P w H h' := fun a o e =>
  (x a o e).stay (fun b u _ q => k b u q) (fun _ q => q) fun _ _ q => q
theorem HOk.laid (x : HOk P w H h) (k : ∀ b u, h.get? b = some u → h'.get? b = some u) (hp : h.objs.size ≤ a) (new : ObjOk P w (upd H a o) h' a o) : HOk P w (upd H a o) h' := fun b u e => by
  have hn := x.fresh hp
  by_cases hb : b = a
  · subst hb; rw [ad] at e; cases e; exact new
  · rw [ap hb] at e
    exact (x b u e).stay (fun c v _ q => k c v q) (fun c q => by rw [ap (ai q hn)]; exact q) fun c xs q => by rw [ap (ai q hn)]; exact q
end
def Rd (H : Hp) (a : Addr) (u : HO) : Prop := H a = some u ∨ ∃ o, H a = some (.frz o u)
theorem Rd.ok {P : Program} {w : World} {H : Hp} {h : Heap} {a : Addr} {u : HO} (r : Rd H a u) (x : HOk P w H h) : ObjOk P w H h a u := by
  rcases r with r | ⟨o, r⟩
  · exact x a u r
  · obtain ⟨_, q⟩ := x a _ r
    exact q
def Mut : Option HO → Prop
  | some (.lst _) => True
  | some (.dK _) => True
  | some (.dT _) => True
  | some (.set _ _) => True
  | some (.ins _ _ _) => True
  | some (.ext _) => True
  | _ => False
section
variable {P : Program} {w : World} {H : Hp} {h h' : Heap} {x e : Addr} {o' : HO}
theorem HOk.write (ok : HOk P w H h) (mu : Mut (H x)) (he : e = x ∨ H e = some (.own x)) (k : ∀ b u, b ≠ e → h.get? b = some u → h'.get? b = some u) (heo : ∃ u, h'.get? e = some u)
    (new : ObjOk P w (upd H x o') h' x o') : HOk P w (upd H x o') h' := fun b u q => by
  have nown : ∀ c y, H c = some (.own y) → c ≠ x := fun c y r z => by subst z; rw [r] at mu; exact mu
  have ntup : ∀ c xs, H c = some (.tup xs) → c ≠ x := fun c xs r z => by subst z; rw [r] at mu; exact mu
  by_cases hb : b = x
  · subst hb; rw [ad] at q; cases q; exact new
  · rw [ap hb] at q
    by_cases hbe : b = e
    · have q' : H b = some (.own x) := by
        rcases he with z | z
        · exact absurd (hbe.trans z) hb
        · rw [hbe]; exact z
      rw [q] at q'; cases q'
      obtain ⟨v, hv⟩ := heo
      exact ⟨v, by rw [hbe]; exact hv⟩
    · refine (ok b u q).stay (fun c v hc r => k c v ?_ r) (fun c r => by rw [ap (nown c b r)]; exact r) fun c xs r => by rw [ap (ntup c xs r)]; exact r
      rcases hc with rfl | hc
      · exact hbe
      · rintro rfl
        rcases he with z | z
        · exact nown c b hc z
        · rw [hc] at z; cases z; exact hb rfl
end
structure Un (fs ex : List Addr) (H H' : Hp) (h h' : Heap) : Prop where
  keep : ∀ b o, h.get? b = some o → H b = none → b ∉ fs → b ∉ ex → h'.get? b = some o
  slot : ∀ b o, h.get? b = some o → H b = none → b ∈ fs → b ∉ ex → ∃ sl, h'.get? b = some { o with slots := sl }
  free : ∀ b o, h.get? b = some o → H b = none → b ∉ ex → H' b = none
  there : ∀ b o, h.get? b = some o → b ∉ ex → ∃ o', h'.get? b = some o'
  tups : ∀ b xs, H b = some (.tup xs) → H' b = some (.tup xs)
  frzs : ∀ b o u, H b = some (.frz o u) → H' b = some (.frz o u)
  tbls : ∀ b ps, H b = some (.tbl ps) → ∃ more, H' b = some (.tbl (ps ++ more))
section
variable {fs fs' ex ex' : List Addr} {H H1 H2 : Hp} {h h1 h2 h' : Heap} {a x e : Addr} {o : HO}
theorem Un.any (u : Un fs ex H H1 h h1) {b : Addr} {ob : Obj} (q : h.get? b = some ob) (n : H b = none) (hx : b ∉ ex) : ∃ sl, h1.get? b = some { ob with slots := sl } := by
  by_cases hb : b ∈ fs
  · exact u.slot b ob q n hb hx
  · exact ⟨ob.slots, u.keep b ob q n hb hx⟩
theorem Un.kept (k : ∀ b u, h.get? b = some u → h'.get? b = some u) : Un fs ex H H h h' :=
  ⟨fun b ob q _ _ _ => k b ob q, fun b ob q _ _ _ => ⟨ob.slots, k b ob q⟩, fun _ _ _ n _ => n, fun b ob q _ => ⟨ob, k b ob q⟩, fun _ _ q => q, fun _ _ _ q => q, fun _ ps q => ⟨#[], by rw [q]; simp⟩⟩
theorem Un.refl : Un fs ex H H h h := Un.kept fun _ _ q => q
theorem Un.laid (k : ∀ b u, h.get? b = some u → h'.get? b = some u) (hp : h.objs.size ≤ a) (hn : H a = none) : Un fs ex H (upd H a o) h h' where
  keep := fun b u q _ _ _ => k b u q
  slot := fun b u q _ _ _ => ⟨u.slots, k b u q⟩
  free := fun b u q n _ => by rw [ap (Nat.ne_of_lt (Nat.lt_of_lt_of_le (Heap.lt_size q) hp))]; exact n
  there := fun b u q _ => ⟨u, k b u q⟩
  tups := fun b xs q => by rw [ap (ai q hn)]; exact q
  frzs := fun b u xs q => by rw [ap (ai q hn)]; exact q
  tbls := fun b ps q => ⟨#[], by rw [ap (ai q hn), q]; simp⟩
theorem Un.write (mu : Mut (H x)) (he : e = x ∨ H e = some (.own x)) (k : ∀ b u, b ≠ e → h.get? b = some u → h'.get? b = some u) (heo : ∃ u, h'.get? e = some u) : Un fs ex H (upd H x o) h h' := by
  have hx : ∀ b, H b = none → b ≠ x := fun b n z => by subst z; rw [n] at mu; exact mu
  have hb : ∀ b, H b = none → b ≠ e := fun b n z => by
    subst z
    rcases he with r | r
    · exact hx b n r
    · rw [n] at r; cases r
  have hm : ∀ b u, H b = some u → ¬ Mut (some u) → b ≠ x := fun b u q nm z => by subst z; rw [q] at mu; exact nm mu
  refine ⟨fun b u q n _ _ => k b u (hb b n) q, fun b u q n _ _ => ⟨u.slots, k b u (hb b n) q⟩, fun b u q n _ => by rw [ap (hx b n)]; exact n, fun b u q _ => ?_,
    fun b xs q => by rw [ap (hm b _ q fun z => z)]; exact q, fun b u xs q => by rw [ap (hm b _ q fun z => z)]; exact q, fun b ps q => ⟨#[], by rw [ap (hm b _ q fun z => z), q]; simp⟩⟩
  by_cases hbe : b = e
  · subst hbe; exact heo
  · exact ⟨u, k b u hbe q⟩
end
def trk (h : Heap) (H : Hp) : List Addr := (List.range h.objs.size).filter fun a => (H a).isSome
def nw (h : Heap) (H : Hp) : Heap := PySem.W.hideAll h (trk h H)
theorem uG (h : Heap) (H : Hp) : (nw h H).objs.size = h.objs.size := PySem.W.hideAll_size _ _
theorem wV {h : Heap} {H : Hp} {b : Addr} {o : Obj} (e : h.get? b = some o) (n : H b = none) : (nw h H).get? b = some o :=
  PySem.W.hideAll_get _ e fun hm => by
    have q : (H b).isSome = true := (List.mem_filter.mp hm).2
    rw [n] at q; simp at q
theorem xV {h : Heap} {H : Hp} {b : Addr} {o : Obj} (e : (nw h H).get? b = some o) : h.get? b = some o ∧ H b = none := by
  have e' : h.get? b = some o := PySem.W.of_hideAll (trk h H) e
  refine ⟨e', ?_⟩
  cases q : H b with
  | none => rfl
  | some x =>
    have hm : b ∈ trk h H := List.mem_filter.mpr ⟨List.mem_range.mpr (Heap.lt_size e'), by simp [q]⟩
    have z : (nw h H).get? b = none := PySem.W.hideAll_none (trk h H) hm
    rw [z] at e; cases e
def xE (g h : Heap) (L : Addr) : List (Addr × Obj) := (List.range h.objs.size).filterMap fun a => if a = L ∨ (g.get? a).isSome = true then none else (h.get? a).map fun o => (a, o)
def rest (g h : Heap) (L d : Addr) : List (Addr × Obj) := (xE g h L).filter fun p => decide (p.1 ≠ d)
end L2
namespace L2
open PySem PySem.Spec PyProof.Rows
structure Mod (K : PySem.W.Frag) (mg : Str → Option Value) (base : Heap) : Prop where
  kin : K.In base
  glob : base.Ns mainGlobals mg
  blt : ∃ mb, base.Ns builtinsNs mb ∧ ∀ x : Str, x ≠ "__name__" → mb x = bootBuiltins x
  nolimit : base.NoLimit
structure Cx where
  prog : Program
  w : World
  K : PySem.W.Frag
  mg : Str → Option Value
  base : Heap
  A : Around
  N : List Str
  s₀ : Shared
  H₀ : Hp
  env : Env
  outer : List Env
  stack : List Env
  ex : List Addr
  fn : Str → Bool
  calm : Bool
  pn : List (Addr × Obj)
  xe : Value → Shared → Prop
def frs (l : List Env) : List Addr := l.filterMap (·.frame)
abbrev Cx.fs (X : Cx) : List Addr := frs X.outer
def Vis (sc : Scope) (x : Str) : Prop := sc.names.lookup x = some .local ∨ sc.names.lookup x = some .cell ∨ sc.names.lookup x = some .free
def Loc (sc : Scope) (x : Str) : Prop := sc.names.lookup x = some .local ∨ sc.names.lookup x = some .cell
def BI (env : Env) (h : Heap) (m : Str → Option Value) (x : Str) (u : Value) : Prop :=
  (env.kindOf x = some .local ∧ m x = some u) ∨ ((env.kindOf x = some .cell ∨ env.kindOf x = some .free) ∧ ∃ c, env.cells.lookup x = some c ∧ h.IsCell c (some u))
structure Cx.Ok (X : Cx) : Prop where
  mod : Mod X.K X.mg X.base
  kind : X.env.scope.kind = .function
  glob : X.env.globals = mainGlobals
  blt : X.env.builtins = builtinsNs
  above : X.s₀.heap.objs.size ≤ X.env.locals
  inj : ∀ x y c, X.env.cells.lookup x = some c → X.env.cells.lookup y = some c → x = y
  has : ∀ x, (X.env.kindOf x = some .cell ∨ X.env.kindOf x = some .free) → ∃ c, X.env.cells.lookup x = some c
  cab : ∀ x c, X.fn x = true → X.env.cells.lookup x = some c → X.s₀.heap.objs.size ≤ c
  hd : X.calm = true → X.A.handled = none
  frames : X.A.frames = some X.stack
  stk : X.stack = X.outer ∨ (X.stack = X.env :: X.outer ∧ X.env.frame = some X.env.locals)
  exf : ∀ b ∈ X.ex, b ≠ X.env.locals ∧ ∀ x c, X.env.cells.lookup x = some c → c ≠ b
  bs : ∀ b o, X.base.get? b = some o → X.s₀.heap.get? b = some o ∧ X.H₀ b = none
  bsz : X.base.objs.size ≤ X.s₀.heap.objs.size
  noex : ∀ b o, X.base.get? b = some o → b ∉ X.ex
  exfs : ∀ b ∈ X.ex, b ∉ X.fs
  funs : X.s₀.heap.FunFrames X.base X.outer
  frf : ∀ b ∈ X.fs, X.H₀ b = none
structure Inv (X : Cx) (pins : List (Addr × Obj)) (σ : List (Option V)) (H : Hp) (s : Shared) : Prop where
  ok : X.Ok
  os : s.os = X.s₀.os
  bare : AllBare s.gens
  base : Un X.fs X.ex X.H₀ H X.s₀.heap s.heap
  loc : ∃ m, s.heap.Ns X.env.locals m ∧ ∀ (i : Nat) (x : Str) (v : V), X.N[i]? = some x → σ[i]? = some (some v) → Vis X.env.scope x → ∃ u, RelV v u ∧ BI X.env s.heap m x u
  cell : ∀ x c, X.env.cells.lookup x = some c → ∃ v, s.heap.IsCell c v
  free : H X.env.locals = none
  freeC : ∀ x c, X.env.cells.lookup x = some c → H c = none
  pin : ∀ p ∈ X.pn ++ pins, s.heap.get? p.1 = some p.2 ∧ H p.1 = none ∧ p.1 ≠ X.env.locals ∧ p.1 ∉ X.fs ∧ ∀ v, p.2.data ≠ .cell v
  hok : HOk X.prog X.w H s.heap
  len : σ.length = X.N.length
section
variable {X : Cx} {pins : List (Addr × Obj)} {σ : List (Option V)} {H H' : Hp} {s : Shared} {h' : Heap}
theorem Cx.Ok.nofr (ok : X.Ok) {b : Addr} {o : Obj} (e : X.base.get? b = some o) : b ∉ X.fs := fun hb => by
  have := (ok.funs.mem hb).1
  rw [e] at this; cases this
theorem Inv.bs (I : Inv X pins σ H s) : ∀ b o, X.base.get? b = some o → s.heap.get? b = some o ∧ H b = none := fun b o e =>
  ⟨I.base.keep b o (I.ok.bs b o e).1 (I.ok.bs b o e).2 (I.ok.nofr e) (I.ok.noex b o e), I.base.free b o (I.ok.bs b o e).1 (I.ok.bs b o e).2 (I.ok.noex b o e)⟩
theorem Inv.bk (I : Inv X pins σ H s) : ∀ b o, X.base.get? b = some o → s.heap.get? b = some o := fun b o e => (I.bs b o e).1
theorem Inv.mod (I : Inv X pins σ H s) : Mod X.K X.mg X.base := I.ok.mod
theorem Inv.kIn (I : Inv X pins σ H s) : X.K.In s.heap := I.ok.mod.kin.keeps I.bk
theorem Inv.lt (I : Inv X pins σ H s) : X.env.locals < s.heap.objs.size := let ⟨_, hn, _⟩ := I.loc; hn.lt
theorem Inv.sz (I : Inv X pins σ H s) : X.s₀.heap.objs.size ≤ s.heap.objs.size := Nat.le_trans I.ok.above (Nat.le_of_lt I.lt)
theorem Inv.nofs (I : Inv X pins σ H s) {a : Addr} (h : s.heap.objs.size ≤ a) : a ∉ X.fs := fun hb => by
  obtain ⟨_, o, ho, _⟩ := I.ok.funs.mem hb
  exact absurd (Nat.lt_of_lt_of_le (Heap.lt_size ho) (Nat.le_trans I.sz h)) (Nat.lt_irrefl _)
theorem Inv.cne (I : Inv X pins σ H s) : ∀ x c, X.env.cells.lookup x = some c → c ≠ X.env.locals := fun x c e z => by
  obtain ⟨v, o, ho, hd⟩ := I.cell x c e
  obtain ⟨m, ⟨o', es, ep, ho', hd', _⟩, _⟩ := I.loc
  rw [z, ho'] at ho; cases ho; rw [hd'] at hd; cases hd
theorem Inv.funs (I : Inv X pins σ H s) : s.heap.FunFrames X.base X.outer := by
  have all : ∀ (l : List Env), (∀ b ∈ frs l, b ∈ X.fs) → X.s₀.heap.FunFrames X.base l → s.heap.FunFrames X.base l := by
    intro l
    induction l with
    | nil => intro _ _; trivial
    | cons env r ih =>
      intro hs hl
      obtain ⟨hk, ⟨L, o, hf, hn, ho, hd⟩, hr⟩ := hl
      have hL : L ∈ X.fs := hs L (by unfold frs; rw [List.filterMap_cons, hf]; exact List.mem_cons_self)
      obtain ⟨sl, e⟩ := I.base.slot L o ho (I.ok.frf L hL) hL fun z => I.ok.exfs L z hL
      exact ⟨hk, ⟨L, _, hf, hn, e, hd⟩, ih (fun b hb => hs b (by unfold frs; rw [List.filterMap_cons, hf]; exact List.mem_cons_of_mem _ hb)) hr⟩
  exact all X.outer (fun _ hb => hb) I.ok.funs
theorem Inv.stack (I : Inv X pins σ H s) : s.heap.FunFrames X.base X.stack := by
  rcases I.ok.stk with e | ⟨e, hf⟩
  · rw [e]; exact I.funs
  · rw [e]
    obtain ⟨m, hn, _⟩ := I.loc
    refine .cons (by rw [I.ok.kind]; decide) hf hn ?_ I.funs
    exact Heap.get?_none_of_le (Nat.le_trans I.ok.bsz I.ok.above)
theorem Inv.stkSub (I : Inv X pins σ H s) : ∀ b ∈ frs X.stack, b ∈ X.env.locals :: X.fs := fun b hb => by
  rcases I.ok.stk with e | ⟨e, hf⟩
  · rw [e] at hb; exact List.mem_cons_of_mem _ hb
  · rw [e] at hb
    unfold frs at hb
    rw [List.filterMap_cons, hf] at hb
    exact hb
theorem Inv.stkFree (I : Inv X pins σ H s) : ∀ b ∈ frs X.stack, H b = none := fun b hb => by
  rcases List.mem_cons.mp (I.stkSub b hb) with e | hb
  · rw [e]; exact I.free
  · obtain ⟨_, o, ho, _⟩ := I.ok.funs.mem hb
    exact I.base.free b o ho (I.ok.frf b hb) fun z => I.ok.exfs b z hb
theorem Inv.step {g' : Array GenState} {t' : Nat} {d' : Drawn} {ch : List Addr} (I : Inv X pins σ H s)
    (hch : ∀ b ∈ ch, (b ∈ X.ex ∨ X.s₀.heap.objs.size ≤ b) ∧ b ≠ X.env.locals ∧ (∀ x c, X.env.cells.lookup x = some c → c ≠ b) ∧ ∀ p ∈ X.pn ++ pins, p.1 ≠ b)
    (keep : ∀ b o, b ≠ X.env.locals → b ∉ X.fs → b ∉ ch → s.heap.get? b = some o → H b = none → h'.get? b = some o)
    (slot : ∀ b o, b ≠ X.env.locals → b ∈ X.fs → b ∉ ch → s.heap.get? b = some o → H b = none → ∃ sl, h'.get? b = some { o with slots := sl }) (free : ∀ b o, b ∉ ch → s.heap.get? b = some o → H b = none → H' b = none)
    (there : ∀ b o, b ∉ ch → s.heap.get? b = some o → ∃ o', h'.get? b = some o')
    (tups : ∀ b xs, H b = some (.tup xs) → H' b = some (.tup xs)) (frzs : ∀ b o u, H b = some (.frz o u) → H' b = some (.frz o u)) (tbls : ∀ b ps, H b = some (.tbl ps) → ∃ more, H' b = some (.tbl (ps ++ more)))
    (ns : ∀ m, s.heap.Ns X.env.locals m → h'.Ns X.env.locals m) (hok : HOk X.prog X.w H' h') (hg : AllBare g') :
    Inv X pins σ H' { s with heap := h', gens := g', drawn := d', toks := t' } := by
  have neL : ∀ b o, X.s₀.heap.get? b = some o → b ≠ X.env.locals := fun b o e => Nat.ne_of_lt (Nat.lt_of_lt_of_le (Heap.lt_size e) I.ok.above)
  have neC : ∀ b o, X.s₀.heap.get? b = some o → b ∉ X.ex → b ∉ ch := fun b o e hx hb => by
    rcases (hch b hb).1 with z | z
    · exact hx z
    · exact absurd (Nat.lt_of_lt_of_le (Heap.lt_size e) z) (Nat.lt_irrefl _)
  have cellK : ∀ x c, X.env.cells.lookup x = some c → ∀ v, s.heap.IsCell c v → h'.IsCell c v := fun x c e v ⟨o, ho, hd⟩ => by
    have nch : c ∉ ch := fun z => (hch c z).2.2.1 x c e rfl
    by_cases hc : c ∈ X.fs
    · obtain ⟨sl, q⟩ := slot c o (I.cne x c e) hc nch ho (I.freeC x c e)
      exact ⟨_, q, hd⟩
    · exact ⟨o, keep c o (I.cne x c e) hc nch ho (I.freeC x c e), hd⟩
  refine ⟨I.ok, I.os, hg, ⟨fun b o e n hb hx => ?_, fun b o e n hb hx => ?_, fun b o e n hx => ?_, fun b o e hx => ?_, fun b xs e => tups b xs (I.base.tups b xs e), fun b o xs e => frzs b o xs (I.base.frzs b o xs e), fun b ps e => ?_⟩, ?_, fun x c e => ?_, ?_, fun x c e => ?_, fun p hp => ?_, hok, I.len⟩
  · exact keep b o (neL b o e) hb (neC b o e hx) (I.base.keep b o e n hb hx) (I.base.free b o e n hx)
  · obtain ⟨sl, e1⟩ := I.base.slot b o e n hb hx
    obtain ⟨sl', e2⟩ := slot b _ (neL b o e) hb (neC b o e hx) e1 (I.base.free b o e n hx)
    exact ⟨sl', e2⟩
  · obtain ⟨o', e1⟩ := I.base.there b o e hx
    exact free b o' (neC b o e hx) e1 (I.base.free b o e n hx)
  · obtain ⟨o', e1⟩ := I.base.there b o e hx
    exact there b o' (neC b o e hx) e1
  · obtain ⟨m1, e1⟩ := I.base.tbls b ps e
    obtain ⟨m2, e2⟩ := tbls b _ e1
    exact ⟨m1 ++ m2, by rw [e2, Array.append_assoc]⟩
  · obtain ⟨m, hn, hl⟩ := I.loc
    refine ⟨m, ns m hn, fun i x v e1 e2 e3 => ?_⟩
    obtain ⟨u, r, l⟩ := hl i x v e1 e2 e3
    refine ⟨u, r, ?_⟩
    rcases l with l | ⟨k, c, e, z⟩
    · exact .inl l
    · exact .inr ⟨k, c, e, cellK x c e _ z⟩
  · obtain ⟨v, z⟩ := I.cell x c e
    exact ⟨v, cellK x c e v z⟩
  · obtain ⟨m, ⟨o, _, _, ho, _⟩, _⟩ := I.loc
    exact free _ o (fun z => (hch _ z).2.1 rfl) ho I.free
  · obtain ⟨v, o, ho, hd⟩ := I.cell x c e
    exact free c o (fun z => (hch c z).2.2.1 x c e rfl) ho (I.freeC x c e)
  · obtain ⟨e, n, ne, nf, d⟩ := I.pin p hp
    have nch : p.1 ∉ ch := fun z => (hch p.1 z).2.2.2 p hp rfl
    exact ⟨keep p.1 p.2 ne nf nch e n, free p.1 p.2 nch e n, ne, nf, d⟩
theorem Inv.un {t' : Nat} (I : Inv X pins σ H s) (u : Un X.fs [] H H' s.heap h') (hok : HOk X.prog X.w H' h') : Inv X pins σ H' { s with heap := h', toks := t' } := by
  obtain ⟨m, ⟨o, es, ep, ho, r⟩, _⟩ := id I.loc
  obtain ⟨sl, hL⟩ := u.any ho I.free (by simp)
  exact I.step (g' := s.gens) (d' := s.drawn) (ch := []) (fun _ z => nomatch z) (fun b o _ hb _ e n => u.keep b o e n hb (by simp)) (fun b o _ hb _ e n => u.slot b o e n hb (by simp)) (fun b o _ e n => u.free b o e n (by simp)) (fun b o _ e => u.there b o e (by simp)) u.tups u.frzs u.tbls (fun m' hm => by
    obtain ⟨o', es', ep', ho', r'⟩ := hm
    rw [ho] at ho'; cases ho'
    exact ⟨_, es', ep', hL, r'⟩) hok I.bare
theorem Inv.call {g' : Array GenState} {t' : Nat} {d' : Drawn} {ch : List Addr} (I : Inv X pins σ H s) (u : Un (frs X.stack) ch H H' s.heap h') (hok : HOk X.prog X.w H' h') (hg : AllBare g')
    (hch : ∀ b ∈ ch, (b ∈ X.ex ∨ X.s₀.heap.objs.size ≤ b) ∧ b ≠ X.env.locals ∧ (∀ x c, X.env.cells.lookup x = some c → c ≠ b) ∧ ∀ p ∈ X.pn ++ pins, p.1 ≠ b) :
    Inv X pins σ H' { s with heap := h', gens := g', drawn := d', toks := t' } := by
  obtain ⟨m, ⟨o, es, ep, ho, r⟩, _⟩ := id I.loc
  obtain ⟨sl, hL⟩ := u.any ho I.free fun z => (hch _ z).2.1 rfl
  exact I.step (ch := ch) hch (fun b o hL hb hc e n => u.keep b o e n (fun z => (List.mem_cons.mp (I.stkSub b z)).elim hL hb) hc) (fun b o _ _ hc e n => u.any e n hc) (fun b o hc e n => u.free b o e n hc) (fun b o hc e => u.there b o e hc) u.tups u.frzs u.tbls (fun m' hm => by
    obtain ⟨o', es', ep', ho', r'⟩ := hm
    rw [ho] at ho'; cases ho'
    exact ⟨_, es', ep', hL, r'⟩) hok hg
theorem Inv.turned {t' : Nat} {it : Addr} (I : Inv X pins σ H s) (k : ∀ b o, b ≠ it → s.heap.get? b = some o → h'.get? b = some o) (hn : H it = none) (hL : it ≠ X.env.locals)
    (h1 : it ∈ X.ex ∨ X.s₀.heap.objs.size ≤ it) (h2 : ∀ x c, X.env.cells.lookup x = some c → c ≠ it) (h3 : ∀ p ∈ X.pn ++ pins, p.1 ≠ it) : Inv X pins σ H { s with heap := h', toks := t' } := by
  have nit : ∀ b u, H b = some u → b ≠ it := fun b u e z => by rw [z, hn] at e; cases e
  refine I.step (g' := s.gens) (d' := s.drawn) (ch := [it]) (fun b hb => ?_) (fun b o _ _ hc e _ => k b o (fun z => hc (by simp [z])) e) (fun b o _ _ hc e _ => ⟨o.slots, k b o (fun z => hc (by simp [z])) e⟩) (fun _ _ _ _ n => n)
    (fun b o hc e => ⟨o, k b o (fun z => hc (by simp [z])) e⟩) (fun _ _ e => e) (fun _ _ _ e => e) (fun b ps e => ⟨#[], by rw [e]; simp⟩) (fun m hm => ?_) (fun b u e => ?_) I.bare
  · have e : b = it := by simpa using hb
    subst e
    exact ⟨h1, hL, h2, h3⟩
  · obtain ⟨o, es, ep, ho, r⟩ := hm
    exact ⟨o, es, ep, k _ o (Ne.symm hL) ho, r⟩
  · refine (I.hok b u e).stay (fun c v hc q => k c v ?_ q) (fun _ q => q) fun _ _ q => q
    rcases hc with z | z
    · rw [z]; exact nit b u e
    · exact nit c _ z
theorem Inv.tok (I : Inv X pins σ H s) (t : Nat) : Inv X pins σ H { s with toks := t } := I.un (h' := s.heap) (t' := t) Un.refl I.hok
theorem Inv.kept {t' : Nat} (I : Inv X pins σ H s) (k : ∀ b u, s.heap.get? b = some u → h'.get? b = some u) : Inv X pins σ H { s with heap := h', toks := t' } := I.un (Un.kept k) (I.hok.kept k)
theorem Inv.laid {a : Addr} {o : HO} {t' : Nat} (I : Inv X pins σ H s) (k : ∀ b u, s.heap.get? b = some u → h'.get? b = some u) (hp : s.heap.objs.size ≤ a) (new : ObjOk X.prog X.w (upd H a o) h' a o) :
    Inv X pins σ (upd H a o) { s with heap := h', toks := t' } := I.un (Un.laid k hp (I.hok.fresh hp)) (I.hok.laid k hp new)
theorem Inv.write {x e : Addr} {o : HO} {t' : Nat} (I : Inv X pins σ H s) (mu : Mut (H x)) (he : e = x ∨ H e = some (.own x)) (k : ∀ b u, b ≠ e → s.heap.get? b = some u → h'.get? b = some u) (heo : ∃ u, h'.get? e = some u)
    (new : ObjOk X.prog X.w (upd H x o) h' x o) : Inv X pins σ (upd H x o) { s with heap := h', toks := t' } := I.un (Un.write mu he k heo) (I.hok.write mu he k heo new)
theorem Inv.pins_of {pins' : List (Addr × Obj)} (I : Inv X pins σ H s) (h : ∀ p ∈ pins', s.heap.get? p.1 = some p.2 ∧ H p.1 = none ∧ p.1 ≠ X.env.locals ∧ p.1 ∉ X.fs ∧ ∀ v, p.2.data ≠ .cell v) : Inv X pins' σ H s :=
  ⟨I.ok, I.os, I.bare, I.base, I.loc, I.cell, I.free, I.freeC, fun p hp => (List.mem_append.mp hp).elim (fun z => I.pin p (List.mem_append_left _ z)) (h p), I.hok, I.len⟩
theorem qv {N : List Str} (hN : N.Nodup) {i j : Nat} {x : Str} (a : N[i]? = some x) (b : N[j]? = some x) : i = j := by
  obtain ⟨h1, e1⟩ := List.getElem?_eq_some_iff.mp a
  obtain ⟨h2, e2⟩ := List.getElem?_eq_some_iff.mp b
  exact (List.getElem_inj hN).mp (e1.trans e2.symm)
theorem tQ {M : Model} {A : Around} {E : Value → Shared → Prop} {i : Nat} {x : Str} {v : V} {u : Value} {Q : Unit → Shared → Prop} (I : Inv X pins σ H s) (hN : X.N.Nodup) (hi : X.N[i]? = some x) (hx : Loc X.env.scope x) (r : RelV v u)
    (h : ∀ s', Inv X pins (σ.set i (some v)) H s' → (∃ a, Heap.SameBut a s.heap s'.heap ∧ (a = X.env.locals ∨ X.env.cells.lookup x = some a)) → Q () s') (hf : X.fn x = true ∨ X.env.scope.names.lookup x = some .local := by first | exact .inl rfl | exact .inr rfl | assumption) : wpAny M A (storeName X.env x u) Q E s := by
  obtain ⟨m, hn, hl⟩ := id I.loc
  have hcls : (X.env.scope.kind == .class || (X.env.scope.kind == .module && X.env.locals != X.env.globals)) = false := by rw [I.ok.kind]; rfl
  have hiσ : i < σ.length := by rw [I.len]; exact (List.getElem?_eq_some_iff.mp hi).1
  have cne := I.cne
  have tracked : ∀ {a : Addr} {h' : Heap}, (∃ o, s.heap.get? a = some o ∧ H a = none) → Heap.SameBut a s.heap h' → HOk X.prog X.w H h' := fun {a h'} ha hs b ob e => by
    obtain ⟨_, _, hfree⟩ := ha
    refine (I.hok b ob e).stay (fun c w' hc q => (hs.2 c ?_).trans q) (fun _ q => q) fun _ _ q => q
    rintro rfl
    rcases hc with rfl | hc
    · rw [hfree] at e; cases e
    · rw [hfree] at hc; cases hc
  rcases hx with hk | hk
  · refine wpAny_storeName_local hk hn (fun h' hn' hs => ?_) hcls
    obtain ⟨oL, _, _, hoL, _⟩ := id hn
    refine h _ ⟨I.ok, I.os, I.bare, ⟨fun b o e n hb hx => ?_, fun b o e n hb hx => ?_, I.base.free, fun b o e hx => ?_, I.base.tups, I.base.frzs, I.base.tbls⟩, ⟨_, hn', fun j y v' e1 e2 e3 => ?_⟩, fun y c e => ?_, I.free, I.freeC, fun p hp => ?_, tracked ⟨oL, hoL, I.free⟩ hs, by simpa using I.len⟩ ⟨_, hs, .inl rfl⟩
    · exact (hs.2 b (Nat.ne_of_lt (Nat.lt_of_lt_of_le (Heap.lt_size e) I.ok.above))).trans (I.base.keep b o e n hb hx)
    · obtain ⟨sl, e1⟩ := I.base.slot b o e n hb hx
      exact ⟨sl, (hs.2 b (Nat.ne_of_lt (Nat.lt_of_lt_of_le (Heap.lt_size e) I.ok.above))).trans e1⟩
    · obtain ⟨o', e1⟩ := I.base.there b o e hx
      exact ⟨o', (hs.2 b (Nat.ne_of_lt (Nat.lt_of_lt_of_le (Heap.lt_size e) I.ok.above))).trans e1⟩
    · by_cases hj : j = i
      · subst hj
        rw [hi] at e1; cases e1
        rw [List.getElem?_set_self hiσ] at e2
        cases e2
        exact ⟨u, r, .inl ⟨hk, by simp⟩⟩
      · rw [List.getElem?_set_ne (Ne.symm hj)] at e2
        obtain ⟨u', r', q⟩ := hl j y v' e1 e2 e3
        refine ⟨u', r', ?_⟩
        rcases q with ⟨k, e⟩ | ⟨k, c, e, z⟩
        · refine .inl ⟨k, ?_⟩
          have : y ≠ x := fun e => hj (qv hN e1 (e ▸ hi))
          simp [this, e]
        · exact .inr ⟨k, c, e, z.sameBut hs (cne y c e)⟩
    · obtain ⟨w', z⟩ := I.cell y c e
      exact ⟨w', z.sameBut hs (cne y c e)⟩
    · obtain ⟨e, n, ne, nf, d⟩ := I.pin p hp
      exact ⟨(hs.2 p.1 ne).trans e, n, ne, nf, d⟩
  · have hfn : X.fn x = true := by
      rcases hf with z | z
      · exact z
      · rw [z] at hk; cases hk
    obtain ⟨c, hc⟩ := I.ok.has x (.inl hk)
    obtain ⟨w', z⟩ := I.cell x c hc
    refine wpAny_storeName_cell I.ok.kind hk hc z (fun h' hc' hs => ?_)
    obtain ⟨oc, hoc, hocd⟩ := id z
    refine h { s with heap := h' } ⟨I.ok, I.os, I.bare, ⟨fun b o e n hb hx => ?_, fun b o e n hb hx => ?_, I.base.free, fun b o e hx => ?_, I.base.tups, I.base.frzs, I.base.tbls⟩, ⟨m, hn.sameBut hs (Ne.symm (cne x c hc)), fun j y v' e1 e2 e3 => ?_⟩, fun y c' e => ?_, I.free, I.freeC, fun p hp => ?_, tracked ⟨oc, hoc, I.freeC x c hc⟩ hs, by simpa using I.len⟩ ⟨c, hs, .inr hc⟩
    · exact (hs.2 b (Nat.ne_of_lt (Nat.lt_of_lt_of_le (Heap.lt_size e) (I.ok.cab x c hfn hc)))).trans (I.base.keep b o e n hb hx)
    · obtain ⟨sl, e1⟩ := I.base.slot b o e n hb hx
      exact ⟨sl, (hs.2 b (Nat.ne_of_lt (Nat.lt_of_lt_of_le (Heap.lt_size e) (I.ok.cab x c hfn hc)))).trans e1⟩
    · obtain ⟨o', e1⟩ := I.base.there b o e hx
      exact ⟨o', (hs.2 b (Nat.ne_of_lt (Nat.lt_of_lt_of_le (Heap.lt_size e) (I.ok.cab x c hfn hc)))).trans e1⟩
    · by_cases hj : j = i
      · subst hj
        rw [hi] at e1; cases e1
        rw [List.getElem?_set_self hiσ] at e2
        cases e2
        exact ⟨u, r, .inr ⟨.inl hk, c, hc, hc'⟩⟩
      · rw [List.getElem?_set_ne (Ne.symm hj)] at e2
        obtain ⟨u', r', q⟩ := hl j y v' e1 e2 e3
        refine ⟨u', r', ?_⟩
        rcases q with q | ⟨k, c', e, z'⟩
        · exact .inl q
        · refine .inr ⟨k, c', e, z'.sameBut hs ?_⟩
          rintro rfl
          exact hj (qv hN e1 (I.ok.inj _ _ _ e hc ▸ hi))
    · by_cases hcc : c' = c
      · subst hcc; exact ⟨_, hc'⟩
      · obtain ⟨w2, z2⟩ := I.cell y c' e
        exact ⟨w2, z2.sameBut hs hcc⟩
    · obtain ⟨e, n, ne, nf, d⟩ := I.pin p hp
      refine ⟨(hs.2 p.1 ?_).trans e, n, ne, nf, d⟩
      intro q
      rw [q, hoc] at e
      have q' : oc = p.2 := Option.some.inj e
      exact d w' (by rw [← q']; exact hocd)
theorem gj {M : Model} {A : Around} {E : Value → Shared → Prop} {i : Nat} {x : Str} {v : V} {u : Value} {Q : Unit → Shared → Prop} (I : Inv X pins σ H s) (hN : X.N.Nodup) (hi : X.N[i]? = some x) (hx : Loc X.env.scope x) (r : RelV v u)
    (h : ∀ s', Inv X pins (σ.set i (some v)) H s' → Q () s') (hf : X.fn x = true ∨ X.env.scope.names.lookup x = some .local := by first | exact .inl rfl | exact .inr rfl | assumption) : wpAny M A (storeName X.env x u) Q E s :=
  tQ I hN hi hx r (fun s' I' _ => h s' I') hf
theorem Inv.call' {s' : Shared} {ch : List Addr} (I : Inv X pins σ H s) (ho : s'.os = s.os) (u : Un (frs X.stack) ch H H' s.heap s'.heap) (hok : HOk X.prog X.w H' s'.heap) (hg : AllBare s'.gens)
    (hch : ∀ b ∈ ch, (b ∈ X.ex ∨ X.s₀.heap.objs.size ≤ b) ∧ b ≠ X.env.locals ∧ (∀ x c, X.env.cells.lookup x = some c → c ≠ b) ∧ ∀ p ∈ X.pn ++ pins, p.1 ≠ b) : Inv X pins σ H' s' := by
  obtain ⟨h', g', d', t', o'⟩ := s'
  have e : o' = s.os := ho
  subst e
  exact I.call (g' := g') (t' := t') (d' := d') u hok hg hch
end
abbrev XK := Value → Option Addr → Hp → Prop
abbrev St := List (Option V)
abbrev VK := V → Hp → Prop
abbrev TE := St → Hp → VK → Prop
abbrev TT := St → Hp → (Bool → Hp → Prop) → Prop
abbrev TA := St → Hp → (List V → Hp → Prop) → Prop
structure gO where
  nx : St → Hp → Prop
  rt : VK
  bk : St → Hp → Prop := fun _ _ => False
  ct : St → Hp → Prop := fun _ _ => False
abbrev TS := gO → St → Hp → Prop
def EP (X : Cx) (pins : List (Addr × Obj)) (σ : St) (Q : VK) (u : Value) (s' : Shared) : Prop := ∃ v H', Inv X pins σ H' s' ∧ RelV v u ∧ Q v H'
def TP (X : Cx) (pins : List (Addr × Obj)) (σ : St) (Q : Bool → Hp → Prop) (b : Bool) (s' : Shared) : Prop := ∃ H', Inv X pins σ H' s' ∧ Q b H'
def AP (X : Cx) (pins : List (Addr × Obj)) (σ : St) (Q : List V → Hp → Prop) (us : List Value) (s' : Shared) : Prop := ∃ vs H', Inv X pins σ H' s' ∧ Vals vs us ∧ Q vs H'
def SP (X : Cx) (pins : List (Addr × Obj)) (D : gO) (f : Flow) (s' : Shared) : Prop :=
  match f with
  | .next => ∃ σ' H', Inv X pins σ' H' s' ∧ D.nx σ' H'
  | .brk => ∃ σ' H', Inv X pins σ' H' s' ∧ D.bk σ' H'
  | .cont => ∃ σ' H', Inv X pins σ' H' s' ∧ D.ct σ' H'
  | .ret u => ∃ v σ' H', Inv X pins σ' H' s' ∧ RelV v u ∧ D.rt v H'
def PE (X : Cx) (e : Expr) (t : TE) : Prop :=
  ∀ (pins : List (Addr × Obj)) (s : Shared) (σ : St) (H : Hp) (Q : VK), Inv X pins σ H s → t σ H Q → wpAny (model X.prog X.w) X.A (eval e X.env) (EP X pins σ Q) X.xe s
def PT (X : Cx) (e : Expr) (t : TT) : Prop :=
  ∀ (pins : List (Addr × Obj)) (s : Shared) (σ : St) (H : Hp) (Q : Bool → Hp → Prop), Inv X pins σ H s → t σ H Q → wpAny (model X.prog X.w) X.A (isTrue e X.env (eval e X.env)) (TP X pins σ Q) X.xe s
def PW (X : Cx) (e : Expr) (t : TT) : Prop :=
  ∀ (whole : Sem Value) (pins : List (Addr × Obj)) (s : Shared) (σ : St) (H : Hp) (Q : Bool → Hp → Prop), Inv X pins σ H s → t σ H Q → wpAny (model X.prog X.w) X.A (isTrue e X.env whole) (TP X pins σ Q) X.xe s
theorem PW.pt {X : Cx} {e : Expr} {t : TT} (h : PW X e t) : PT X e t := h _
def PA (X : Cx) (es : List Expr) (t : TA) : Prop :=
  ∀ (pos : Pos) (pins : List (Addr × Obj)) (s : Shared) (σ : St) (H : Hp) (Q : List V → Hp → Prop), Inv X pins σ H s → t σ H Q → wpAny (model X.prog X.w) X.A (spliced (backTo pos (starEach es X.env))) (AP X pins σ Q) X.xe s
def PS (X : Cx) (st : Stmt) (t : TS) : Prop :=
  ∀ (pins : List (Addr × Obj)) (s : Shared) (σ : St) (H : Hp) (D : gO), Inv X pins σ H s → t D σ H → wpAny (model X.prog X.w) X.A (exec st X.env) (SP X pins D) X.xe s
def PSs (X : Cx) (st : List Stmt) (t : TS) : Prop :=
  ∀ (pins : List (Addr × Obj)) (s : Shared) (σ : St) (H : Hp) (D : gO), Inv X pins σ H s → t D σ H → wpAny (model X.prog X.w) X.A (execs st X.env) (SP X pins D) X.xe s
theorem thn {α : Type} {t : Sem α} {Q Q' : α → Shared → Prop} {M : Model} {A : Around} {E : Value → Shared → Prop} {s : Shared} (h : wpAny M A t Q E s) (hQ : ∀ a s, Q a s → Q' a s) : wpAny M A t Q' E s := wpAny_mono h hQ fun _ _ x => x
end L2
namespace L2
open PySem PySem.Spec PyProof.Rows
section
variable {X : Cx}
theorem bin {a b : Expr} {ta tb : TE} (ha : PE X a ta) (hb : PE X b tb) {pins : List (Addr × Obj)} {s : Shared} {σ : St} {H : Hp} {R : V → V → Hp → Prop} (I : Inv X pins σ H s) (h : ta σ H fun x H1 => tb σ H1 fun y H2 => R x y H2)
    {α : Type} {Q : α → Shared → Prop} {f : Value → Value → Sem α}
    (hf : ∀ v u s2 x y H2, Inv X pins σ H2 s2 → RelV x v → RelV y u → R x y H2 → wpAny (model X.prog X.w) X.A (f v u) Q X.xe s2) :
    wpAny (model X.prog X.w) X.A (eval a X.env) (fun v s₁ => wpAny (model X.prog X.w) X.A (eval b X.env) (fun u s₂ => wpAny (model X.prog X.w) X.A (f v u) Q X.xe s₂) X.xe s₁) X.xe s := by
  refine thn (ha pins s σ H _ I h) fun v s1 ⟨x, H1, I1, r1, q1⟩ => ?_
  refine thn (hb pins s1 σ H1 _ I1 q1) fun u s2 ⟨y, H2, I2, r2, q2⟩ => ?_
  exact hf v u s2 x y H2 I2 r1 r2 q2
def BR (i : Nat) : TE := fun σ H Q => ∃ v, σ[i]? = some (some v) ∧ Q v H
def tC (v : V) : TE := fun _ H Q => Q v H
theorem zH {i : Nat} {x : Str} {pos : Pos} (hN : X.N[i]? = some x) (hv : Vis X.env.scope x) (hd : (x == ("__debug__" : Str)) = false := by decide) (hcd : (x == ("__classdict__" : Str)) = false := by decide) : PE X (.Name x pos) (BR i) := by
  intro pins s σ H Q I h
  obtain ⟨v, e, h⟩ := h
  obtain ⟨m, hn, hl⟩ := I.loc
  obtain ⟨u, r, l⟩ := hl i x v hN e hv
  have fin : EP X pins σ Q u s := ⟨v, H, I, r, h⟩
  rcases l with ⟨hk, hm⟩ | ⟨hk, c, hc, hcell⟩
  · exact wpAny_Name (wpAny_loadName_local I.ok.kind hk hn hm fin) hd
  · rcases hk with hk | hk
    · exact wpAny_Name (wpAny_loadName_cell I.ok.kind hk hc hcell fin) hd
    · exact wpAny_Name (wpAny_loadName_free I.ok.kind hk hc hcell fin hcd) hd
theorem ae {i j pos} : PE X (.Constant (.int i) j pos) (tC (.int i)) := fun _ _ _ H _ I h => wpAny_Constant_int ⟨.int i, H, I.tok _, ⟨_, rfl⟩, h⟩
theorem sZ {b j pos} : PE X (.Constant (.bool b) j pos) (tC (.bl b)) := fun _ _ _ H _ I h => Constant_bool ⟨.bl b, H, I, rfl, h⟩
theorem nD {j pos} : PE X (.Constant .none j pos) (tC .non) := fun _ _ _ H _ I h => Constant_none ⟨.non, H, I, rfl, h⟩
theorem Ah {x j pos} : PE X (.Constant (.str x) j pos) (tC (.str x)) := fun _ _ _ H _ I h => Calls.Constant_str ⟨.str x, H, I.tok _, ⟨_, rfl⟩, h⟩
def Gl (X : Cx) (x : Str) : Prop := X.env.kindOf x = some .globalImplicit
theorem ik {E : Value → Shared → Prop} {pins : List (Addr × Obj)} {s : Shared} {σ : St} {H : Hp} {x : Str} {u : Value} {pos : Pos} {Q : Value → Shared → Prop} (I : Inv X pins σ H s) (hg : Gl X x) (hm : X.mg x = some u) (h : Q u s)
    (hd : (x == ("__debug__" : Str)) = false := by decide) : wpAny (model X.prog X.w) X.A (eval (.Name x pos) X.env) Q E s :=
  Calls.Name_function_global I.ok.kind hg (Calls.loadGlobal_global (by rw [I.ok.glob]; exact I.mod.glob.keeps I.bk) hm h) hd
theorem jj {E : Value → Shared → Prop} {pins : List (Addr × Obj)} {s : Shared} {σ : St} {H : Hp} {x : Str} {u : Value} {pos : Pos} {Q : Value → Shared → Prop} (I : Inv X pins σ H s) (hg : Gl X x) (hm : X.mg x = none) (hv : bootBuiltins x = some u) (h : Q u s)
    (hn : x ≠ "__name__" := by decide) (hd : (x == ("__debug__" : Str)) = false := by decide) : wpAny (model X.prog X.w) X.A (eval (.Name x pos) X.env) Q E s := by
  obtain ⟨mb, h1, h2⟩ := I.mod.blt
  exact Calls.Name_function_global I.ok.kind hg (Calls.loadGlobal_builtin (by rw [I.ok.glob]; exact I.mod.glob.keeps I.bk) hm (by rw [I.ok.blt]; exact h1.keeps I.bk) ((h2 x hn).trans hv) h) hd
theorem xm {x : Str} {v : V} {u : Value} {pos : Pos} (hg : Gl X x) (hm : X.mg x = some u) (r : RelV v u) (hd : (x == ("__debug__" : Str)) = false := by decide) : PE X (.Name x pos) (tC v) :=
  fun _ _ _ H _ I h => ik I hg hm ⟨v, H, I, r, h⟩ hd
theorem dJ {x : Str} {v : V} {u : Value} {pos : Pos} (hg : Gl X x) (hm : X.mg x = none) (hv : bootBuiltins x = some u) (r : RelV v u) (hn : x ≠ "__name__" := by decide) (hd : (x == ("__debug__" : Str)) = false := by decide) : PE X (.Name x pos) (tC v) :=
  fun _ _ _ H _ I h => jj I hg hm hv ⟨v, H, I, r, h⟩ hn hd
variable {a b : Expr} {ta tb : TE} {pos : Pos}
def PC (X : Cx) (op : CmpOp) (a b : Expr) (t : TE) : Prop :=
  ∀ (pins : List (Addr × Obj)) (s : Shared) (σ : St) (H : Hp) (Q : VK), Inv X pins σ H s → t σ H Q →
    wpAny (model X.prog X.w) X.A (eval a X.env) (fun v s₁ => wpAny (model X.prog X.w) X.A (eval b X.env) (fun u s₂ => wpAny (model X.prog X.w) X.A (compareOp op v u) (EP X pins σ Q) X.xe s₂) X.xe s₁) X.xe s
theorem o6 (b : Expr) {op : CmpOp} (h : op ≠ .In) (h2 : op ≠ .NotIn) : behindInMarks op b = false := by
  have e1 : (op == CmpOp.In) = false := by cases op <;> first | rfl | exact absurd rfl h
  have e2 : (op == CmpOp.NotIn) = false := by cases op <;> first | rfl | exact absurd rfl h2
  cases b <;> simp [behindInMarks, e1, e2]
def Bb (ta : TE) : TE := fun σ H Q => ta σ H fun x H1 => Q (.bl (decide (x = .non))) H1
def yM (ta : TE) : TE := fun σ H Q => ta σ H fun x H1 => Q (.bl (!decide (x = .non))) H1
theorem RelV.none_iff {x : V} {v : Value} (r : RelV x v) : (v == Value.none) = decide (x = .non) := by
  cases x with
  | non => cases r; rfl
  | bl _ => cases r; rfl
  | int _ => obtain ⟨t, rfl⟩ := r; rfl
  | str _ => obtain ⟨t, rfl⟩ := r; rfl
  | byt _ => obtain ⟨t, rfl⟩ := r; rfl
  | flt _ => obtain ⟨t, rfl⟩ := r; rfl
  | ref _ => cases r; rfl
  | ty _ => cases r; rfl
theorem Aq {j pos'} (ha : PE X a ta) : PC X .Is a (.Constant .none j pos') (Bb ta) := by
  intro pins s σ H Q I h
  refine thn (ha pins s σ H _ I h) fun v s1 ⟨x, H1, I1, r1, q1⟩ => ?_
  exact Constant_none (is_none_gen ⟨.bl _, H1, I1, by rw [r1.none_iff]; rfl, q1⟩)
theorem ol {j pos'} (ha : PE X a ta) : PC X .IsNot a (.Constant .none j pos') (yM ta) := by
  intro pins s σ H Q I h
  refine thn (ha pins s σ H _ I h) fun v s1 ⟨x, H1, I1, r1, q1⟩ => ?_
  exact Constant_none (isnot_none_gen ⟨.bl _, H1, I1, by rw [r1.none_iff]; rfl, q1⟩)
theorem u5 {op : CmpOp} {t : TE} (h : PC X op a b t) (h1 : behindInMarks op b = false := by first | exact o6 _ (by decide) (by decide) | rfl) : PE X (.Compare a [op] [b] pos) t := fun pins s σ H Q I hw => wpAny_Compare1 (h pins s σ H Q I hw) h1
variable {tA tB' : TT} {rest : List Expr}
def AY (t u : TT) : TT := fun σ H Q => t σ H fun c H1 => if c = true then u σ H1 Q else Q false H1
def tOr (t u : TT) : TT := fun σ H Q => t σ H fun c H1 => if c = true then Q true H1 else u σ H1 Q
def Bq (t : TT) : TT := fun σ H Q => t σ H fun c H1 => Q (!c) H1
theorem oI (ha : PT X a tA) : PW X (.BoolOp .And [a] pos) tA := by
  intro wh pins s σ H Q I h
  refine isTrue_and (thn (ha pins s σ H Q I h) fun c s1 e => ?_)
  cases c with
  | true => exact isTrue_and_nil e
  | false => exact e
theorem rf (ha : PT X a tA) : PW X (.BoolOp .Or [a] pos) tA := by
  intro wh pins s σ H Q I h
  refine isTrue_or (thn (ha pins s σ H Q I h) fun c s1 e => ?_)
  cases c with
  | false => exact isTrue_or_nil e
  | true => exact e
theorem sj (ha : PT X a tA) (hb : PW X (.BoolOp .And (b :: rest) pos) tB') : PW X (.BoolOp .And (a :: b :: rest) pos) (AY tA tB') := by
  intro wh pins s σ H Q I h
  refine isTrue_and (thn (ha pins s σ H _ I h) fun c s1 ⟨H1, I1, q1⟩ => ?_)
  cases c with
  | true => exact hb wh pins s1 σ H1 Q I1 q1
  | false => exact ⟨H1, I1, q1⟩
theorem vQ (ha : PT X a tA) (hb : PW X (.BoolOp .Or (b :: rest) pos) tB') : PW X (.BoolOp .Or (a :: b :: rest) pos) (tOr tA tB') := by
  intro wh pins s σ H Q I h
  refine isTrue_or (thn (ha pins s σ H _ I h) fun c s1 ⟨H1, I1, q1⟩ => ?_)
  cases c with
  | true => exact ⟨H1, I1, q1⟩
  | false => exact hb wh pins s1 σ H1 Q I1 q1
theorem dU (ha : PT X a tA) : PT X (.UnaryOp .Not a pos) (Bq tA) := by
  intro pins s σ H Q I h
  exact isTrue_not (ha pins s σ H (fun c H1 => Q (!c) H1) I h)
theorem dw {op} {t : TE} (h : PE X a t) : PE X (.BoolOp op [a] pos) t := fun pins s σ H Q I hw => BoolOp_one (h pins s σ H Q I hw)
end
end L2
namespace L2
open PySem PySem.Spec PyProof.Rows
def SqL (K : PySem.W.Frag) (H : Hp) (a : Addr) (xs : List V) : Prop :=
  Rd H a (.lst xs) ∨
    ∃ (o : Obj) (its : Array Value) (n : Nat), K.lookup a = some o ∧ o.cls = .type "list" ∧ o.dict = none ∧ o.data = .seq its n ∧ its.size ≤ sizeLine ∧ Vals xs its.toList
def SqT (K : PySem.W.Frag) (H : Hp) (a : Addr) (xs : List V) : Prop :=
  Rd H a (.tup xs) ∨
    ∃ (o : Obj) (its : Array Value) (n : Nat), K.lookup a = some o ∧ o.cls = .type "tuple" ∧ o.data = .seq its n ∧ its.size ≤ sizeLine ∧ Vals xs its.toList
def BD : Value → Option V
  | .none => some .non
  | .bool b => some (.bl b)
  | .int i _ => some (.int i)
  | .str x _ => some (.str x)
  | .bytes b _ => some (.byt b)
  | .float b _ => some (.flt b)
  | .ref a => some (.ref a)
  | .type n => some (.ty n)
  | _ => none
theorem RelV.abs {x : V} {u : Value} (r : RelV x u) : BD u = some x := by
  cases x with
  | non => cases r; rfl
  | bl _ => cases r; rfl
  | int _ => obtain ⟨t, rfl⟩ := r; rfl
  | str _ => obtain ⟨t, rfl⟩ := r; rfl
  | byt _ => obtain ⟨t, rfl⟩ := r; rfl
  | flt _ => obtain ⟨t, rfl⟩ := r; rfl
  | ref _ => cases r; rfl
  | ty _ => cases r; rfl
theorem RelV.inj {x y : V} {u : Value} (r : RelV x u) (q : RelV y u) : x = y := Option.some.inj (r.abs.symm.trans q.abs)
theorem Vals.inj : ∀ {xs ys : List V} {us : List Value}, Vals xs us → Vals ys us → xs = ys
  | _, _, _, .nil, .nil => rfl
  | _, _, _, .cons r t, .cons r' t' => by rw [r.inj r', Vals.inj t t']
section
variable {X : Cx} {pins : List (Addr × Obj)} {σ : St} {H : Hp} {s : Shared} {a : Addr} {xs ys : List V}
theorem SqL.of {K : PySem.W.Frag} (h : H a = some (.lst xs)) : SqL K H a xs := .inl (.inl h)
theorem SqT.of {K : PySem.W.Frag} (h : H a = some (.tup xs)) : SqT K H a xs := .inl (.inl h)
theorem Inv.list (I : Inv X pins σ H s) (h : SqL X.K H a xs) : ∃ its : List Value, Vals xs its ∧ PlainL s.heap a its.toArray ∧ xs.length ≤ sizeLine := by
  rcases h with h | ⟨o, its, n, hk, hc, hd, hs, hz, r⟩
  · obtain ⟨z, its, n, r, e⟩ := h.ok I.hok
    exact ⟨its, r, ⟨_, n, e, rfl, rfl, rfl⟩, z⟩
  · refine ⟨its.toList, r, ⟨o, n, I.kIn a o hk, hc, hd, by simpa using hs⟩, ?_⟩
    have e := r.length
    simp only [Array.length_toList] at e
    omega
theorem Inv.tuple (I : Inv X pins σ H s) (h : SqT X.K H a xs) : ∃ its : List Value, Vals xs its ∧ IsTup s.heap a its.toArray ∧ xs.length ≤ sizeLine := by
  rcases h with h | ⟨o, its, n, hk, hc, hs, hz, r⟩
  · obtain ⟨z, its, r, p⟩ := h.ok I.hok
    exact ⟨its, r, p, z⟩
  · refine ⟨its.toList, r, ⟨o, I.kIn a o hk, hc, n, by simpa using hs⟩, ?_⟩
    have e := r.length
    simp only [Array.length_toList] at e
    omega
theorem Inv.list_inj (I : Inv X pins σ H s) (h : SqL X.K H a xs) (h' : SqL X.K H a ys) : xs = ys := by
  obtain ⟨its, r, ⟨o, n, e, _, _, d⟩, _⟩ := I.list h
  obtain ⟨its', r', ⟨o', n', e', _, _, d'⟩, _⟩ := I.list h'
  rw [e] at e'; cases e'
  rw [d] at d'
  injection d' with d1 _
  have : its = its' := by simpa using congrArg Array.toList d1
  subst this
  exact r.inj r'
theorem Inv.tuple_inj (I : Inv X pins σ H s) (h : SqT X.K H a xs) (h' : SqT X.K H a ys) : xs = ys := by
  obtain ⟨its, r, ⟨o, e, _, n, d⟩, _⟩ := I.tuple h
  obtain ⟨its', r', ⟨o', e', _, n', d'⟩, _⟩ := I.tuple h'
  rw [e] at e'; cases e'
  rw [d] at d'
  injection d' with d1 _
  have : its = its' := by simpa using congrArg Array.toList d1
  subst this
  exact r.inj r'
end
abbrev Cx.wish (X : Cx) (E : Value → Shared → Prop) : Cx := { X with xe := E }
abbrev Cx.nox (X : Cx) : Cx := X.wish fun _ _ => False
section
variable {X : Cx} {pins : List (Addr × Obj)} {σ : St} {H : Hp} {s : Shared} {E : Value → Shared → Prop}
end
section
variable {X : Cx} {st : Stmt} {rest : List Stmt} {t u : TS} {e : Expr} {te : TE} {pos : Pos}
def yD : TS := fun D σ H => D.nx σ H
def AQ (t u : TS) : TS := fun D σ H => t { D with nx := u D } σ H
theorem bi : PSs X [] yD := fun _ _ σ H _ I h => wpAny_execs_nil ⟨σ, H, I, h⟩
theorem ah (h1 : PS X st t) (h2 : PSs X rest u) : PSs X (st :: rest) (AQ t u) := by
  intro pins s σ H D I h
  refine wpAny_execs_cons (thn (h1 pins s σ H { D with nx := u D } I h) fun f s1 q => ?_)
  cases f with
  | next =>
    obtain ⟨σ', H', I', q⟩ := q
    exact h2 pins s1 σ' H' D I' q
  | ret v => exact q
  | brk => exact q
  | cont => exact q
theorem ak (h1 : PS X st t) : PSs X [st] t := by
  intro pins s σ H D I h
  refine wpAny_execs_cons (thn (h1 pins s σ H D I h) fun f s1 q => ?_)
  cases f with
  | next => exact wpAny_execs_nil q
  | ret v => exact q
  | brk => exact q
  | cont => exact q
theorem Inv.quiet {pins : List (Addr × Obj)} {σ : St} {H : Hp} {s : Shared} (I : Inv X pins σ H s) : interactive X.env = false := by simp [interactive, I.ok.kind]
def yu (te : TE) : TS := fun D σ H => te σ H fun _ H1 => D.nx σ H1
theorem cq (he : PE X e te) (hs : swapsWith e none pos.line X.env = pure false := by rfl) : PS X (.Expr e pos) (yu te) := by
  intro pins s σ H D I h
  exact wpAny_Expr_any (thn (he pins s σ H _ I h) fun v s1 ⟨x, H1, I1, r1, q1⟩ => ⟨σ, H1, I1, q1⟩) I.quiet hs
def AO (te : TE) : TS := fun D σ H => te σ H D.rt
theorem aI (he : PE X e te) : PS X (.Return (some e) pos) (AO te) := by
  intro pins s σ H D I h
  exact wpAny_Return_some (thn (he pins s σ H _ I h) fun v s1 ⟨x, H1, I1, r1, q1⟩ => ⟨x, σ, H1, I1, r1, q1⟩)
def By (c : TT) (t u : TS) : TS := fun D σ H => c σ H fun b H1 => if b = true then t D σ H1 else u D σ H1
theorem cf {c : Expr} {a b : List Stmt} {tc : TT} (hc : PT X c tc) (ha : PSs X a t) (hb : PSs X b u) : PS X (.If c a b pos) (By tc t u) := by
  intro pins s σ H D I h
  refine wpAny_If (thn (hc pins s σ H _ I h) fun d s1 ⟨H1, I1, q1⟩ => ?_)
  cases d with
  | true => exact ha pins s1 σ H1 D I1 q1
  | false => exact hb pins s1 σ H1 D I1 q1
end
abbrev TG := V → St → Hp → (St → Hp → Prop) → Prop
abbrev TGs := List V → St → Hp → (St → Hp → Prop) → Prop
def PG (X : Cx) (target : Expr) (t : TG) : Prop :=
  ∀ (pins : List (Addr × Obj)) (s : Shared) (σ : St) (H : Hp) (v : V) (u : Value) (Q : St → Hp → Prop), Inv X pins σ H s → RelV v u → t v σ H Q →
    wpAny (model X.prog X.w) X.A (assign target X.env u) (fun _ s' => ∃ σ' H', Inv X pins σ' H' s' ∧ Q σ' H') X.xe s
def PGs (X : Cx) (ts : List Expr) (t : TGs) : Prop :=
  ∀ (pins : List (Addr × Obj)) (s : Shared) (σ : St) (H : Hp) (vs : List V) (us : List Value) (Q : St → Hp → Prop), Inv X pins σ H s → Vals vs us → t vs σ H Q →
    wpAny (model X.prog X.w) X.A (assignInOrder ((assignEach ts X.env).map (·.2)) us) (fun _ s' => ∃ σ' H', Inv X pins σ' H' s' ∧ Q σ' H') X.xe s
section
variable {X : Cx} {pos : Pos}
def jE (i : Nat) : TG := fun v σ H Q => Q (σ.set i (some v)) H
theorem aL {i : Nat} {x : Str} (hN : X.N.Nodup) (hi : X.N[i]? = some x) (hx : Loc X.env.scope x) (hf : X.fn x = true ∨ X.env.scope.names.lookup x = some .local := by first | exact .inl rfl | exact .inr rfl | assumption) : PG X (.Name x pos) (jE i) := by
  intro pins s σ H v u Q I r h
  exact wpAny_assign_Name (gj I hN hi hx r (fun s' I' => ⟨_, H, I', h⟩) hf)
def AR : TGs := fun vs σ H Q => vs = [] ∧ Q σ H
def yS (t : TG) (u : TGs) : TGs := fun vs σ H Q => ∃ v r, vs = v :: r ∧ t v σ H fun σ' H' => u r σ' H' Q
theorem iT : PGs X [] AR := by
  intro pins s σ H vs us Q I r h
  obtain ⟨e, h⟩ := h
  subst e
  cases r
  exact assignInOrder_nil ⟨σ, H, I, h⟩
theorem b_ {e : Expr} {es : List Expr} {t : TG} {u : TGs} (h1 : PG X e t) (h2 : PGs X es u)
    (hs : (assignEach (e :: es) X.env).map (·.2) = assign e X.env :: (assignEach es X.env).map (·.2) := by rfl) : PGs X (e :: es) (yS t u) := by
  intro pins s σ H vs us Q I r h
  obtain ⟨v, vr, e1, h⟩ := h
  subst e1
  cases r with
  | cons r rr =>
    rw [hs]
    refine assignInOrder_cons (thn (h1 pins s σ H _ _ _ I r h) fun _ s1 ⟨σ1, H1, I1, q1⟩ => ?_)
    exact h2 pins s1 σ1 H1 _ _ Q I1 rr q1
def zn (K : PySem.W.Frag) (n : Nat) (t : TGs) : TG := fun v σ H Q => ∃ a xs, v = .ref a ∧ SqT K H a xs ∧ xs.length = n ∧ t xs σ H Q
theorem AA {es : List Expr} {k : Nat} {t : TGs} {n : Nat} (hc : X.calm = true) (h : PGs X es t)
    (hn : (assignEach es X.env).length = n := by rfl) (hst : (assignEach es X.env).findIdx? (·.1) = none := by rfl) : PG X (.Tuple es k pos) (zn X.K n t) := by
  intro pins s σ H v u Q I r hw
  obtain ⟨a, xs, e1, hq, hl, hw⟩ := hw
  subst e1
  cases r
  obtain ⟨its, rv, ht, hz⟩ := I.tuple hq
  refine assign_Tuple_tuple (I.ok.hd hc) ht (by simp [hn, ← hl, rv.length]) hst fun h' hx => ?_
  have I1 : Inv X pins σ H { s with heap := h' } := I.kept (t' := s.toks) fun b o e => hx b o (Nat.ne_of_lt (Heap.lt_size e)) e
  exact h pins _ σ H xs _ Q I1 (by simpa using rv) hw
def Br (te : TE) (g : TG) : TS := fun D σ H => te σ H fun x H1 => g x σ H1 D.nx
theorem aB {i : Nat} {x : Str} {e : Expr} {te : TE} {pos' : Pos} (hN : X.N.Nodup) (hi : X.N[i]? = some x) (hx : Loc X.env.scope x) (he : PE X e te) (hs : swapsWith e (some (.Name x pos')) pos.line X.env = pure false := by rfl) (hf : X.fn x = true ∨ X.env.scope.names.lookup x = some .local := by first | exact .inl rfl | exact .inr rfl | assumption) :
    PS X (.Assign [.Name x pos'] e pos) (Br te (jE i)) := by
  intro pins s σ H D I h
  refine wpAny_Assign_Name (thn (he pins s σ H _ I h) fun v s1 ⟨y, H1, I1, r1, q1⟩ => ?_) hs
  exact gj I1 hN hi hx r1 (fun s2 I2 => ⟨_, H1, I2, q1⟩) hf
end
section
variable {X : Cx} {pos : Pos}
end
structure It where
  go : Nat → Hp → Prop
  yld : Nat → Hp → V → Hp → Prop
  stop : Nat → Hp → Prop
def lN (X : Cx) (pins : List (Addr × Obj)) (H : Hp) (b : Addr) : Prop :=
  H b = none ∧ b ≠ X.env.locals ∧ b ∉ X.fs ∧ (b ∈ X.ex ∨ X.s₀.heap.objs.size ≤ b) ∧ (∀ x c, X.env.cells.lookup x = some c → c ≠ b) ∧ ∀ p ∈ X.pn ++ pins, p.1 ≠ b
theorem Inv.fpOk {X : Cx} {pins : List (Addr × Obj)} {σ : St} {H H' : Hp} {s : Shared} {b : Addr} (I : Inv X pins σ H s) (hb : s.heap.objs.size ≤ b) (hn : H' b = none) : lN X pins H' b := by
  refine ⟨hn, Nat.ne_of_gt (Nat.lt_of_lt_of_le I.lt hb), I.nofs hb, .inr (Nat.le_trans I.sz hb), fun x c e z => ?_, fun p hp z => ?_⟩
  · obtain ⟨v, q⟩ := I.cell x c e
    exact absurd (Nat.lt_of_lt_of_le q.lt (by rw [z]; exact hb)) (Nat.lt_irrefl _)
  · exact absurd (Nat.lt_of_lt_of_le (Heap.lt_size (I.pin p hp).1) (by rw [z]; exact hb)) (Nat.lt_irrefl _)
structure uh (P : Program) (w : World) (K : PySem.W.Frag) (tg : Expr) (J : It) (fp : List Addr) (it : Addr) (tn : Nat → Heap → Prop) : Prop where
  mem : it ∈ fp
  obj : ∀ i h, tn i h → ∀ b ∈ fp, ∃ o, h.get? b = some o ∧ ∀ v, o.data ≠ .cell v
  keep : ∀ i h h', tn i h → (∀ b ∈ fp, ∀ o, h.get? b = some o → h'.get? b = some o) → tn i h'
  item : ∀ (X : Cx), X.prog = P → X.w = w → X.K = K → X.calm = true → ∀ (i : Nat) (pins : List (Addr × Obj)) (s : Shared) (σ : St) (H : Hp) (E : Value → Shared → Prop), Inv X pins σ H s → (∀ b ∈ fp, lN X pins H b) → tn i s.heap → J.go i H →
    wpAny (model P w) X.A (pyNext (.ref it)) (fun r s1 => ∃ u, r = some u ∧
      wpAny (model P w) X.A (letOwnedTupleGo tg (.ref it) u) (fun _ s2 => ∃ x H', Inv X pins σ H' s2 ∧ RelV x u ∧ J.yld i H x H' ∧ tn (i + 1) s2.heap ∧ ∀ b ∈ fp, H' b = none) E s1) E s
  done : ∀ (X : Cx), X.prog = P → X.w = w → X.K = K → X.calm = true → ∀ (i : Nat) (pins : List (Addr × Obj)) (s : Shared) (σ : St) (H : Hp) (E : Value → Shared → Prop), Inv X pins σ H s → (∀ b ∈ fp, lN X pins H b) → tn i s.heap → J.stop i H →
    wpAny (model P w) X.A (pyNext (.ref it)) (fun r s1 => r = none ∧ Inv X pins σ H s1) E s
  self : ∀ (A : Around) (i : Nat) (s : Shared) (Q : Value → Shared → Prop) (E : Value → Shared → Prop), tn i s.heap → Q (.ref it) s → wpAny (model P w) A (pyIter (.ref it)) Q E s
abbrev TI := St → Hp → (It → Hp → Prop) → Prop
def PIE (X : Cx) (pins : List (Addr × Obj)) (σ : St) (tg : Expr) (R : It → Hp → Prop) (itv : Value) (s2 : Shared) : Prop :=
  ∃ (it : Addr) (fp : List Addr) (tn : Nat → Heap → Prop) (J : It) (H' : Hp), itv = .ref it ∧ Inv X pins σ H' s2 ∧ uh X.prog X.w X.K tg J fp it tn ∧ tn 0 s2.heap ∧ (∀ b ∈ fp, lN X pins H' b) ∧ R J H'
def PI (X : Cx) (tg iter : Expr) (wi : TI) : Prop :=
  ∀ (pins : List (Addr × Obj)) (s : Shared) (σ : St) (H : Hp) (R : It → Hp → Prop), Inv X pins σ H s → wi σ H R →
    wpAny (model X.prog X.w) X.A (eval iter X.env) (fun v s1 => wpAny (model X.prog X.w) X.A (pyIter v) (PIE X pins σ tg R) X.xe s1) X.xe s
theorem mO {M : Model} {A : Around} {E : Value → Shared → Prop} {s : Shared} {tg : Expr} {it : Addr} {u : Value} {o : Obj} {n : String} {vs : Array Value} {Q : Unit → Shared → Prop} (ho : s.heap.get? it = some o) (hc : o.cls = .type n) (hd : o.data = .fields vs)
    (hn : ["enumerate", "zip", "dict_itemiterator", "dict_reverseitemiterator", "odict_iterator", "itertools.zip_longest", "itertools.pairwise"].contains n = false) (hQ : Q () s) : wpAny M A (letOwnedTupleGo tg (.ref it) u) Q E s := by
  unfold letOwnedTupleGo
  cases tg <;> first
    | exact wpAny_pure hQ
    | (cases u <;> first
        | exact wpAny_pure hQ
        | (refine wpAny_bind (wpAny_load ho ?_)
           rw [hc, hd]
           show wpAny M A (if (["enumerate", "zip", "dict_itemiterator", "dict_reverseitemiterator", "odict_iterator", "itertools.zip_longest", "itertools.pairwise"].contains n && vs[0]? == some (rawInt _)) = true then _ else _) Q E s
           rw [if_neg (by intro h; rw [hn, Bool.false_and] at h; cases h)]
           exact wpAny_pure hQ))
def Itl (K : PySem.W.Frag) (a : Addr) : It :=
  ⟨fun i H => ∃ xs x, SqL K H a xs ∧ xs[i]? = some x, fun i H x H' => H' = H ∧ ∀ xs, SqL K H a xs → xs[i]? = some x, fun i H => ∃ xs, SqL K H a xs ∧ xs.length ≤ i⟩
def Itt (K : PySem.W.Frag) (a : Addr) : It :=
  ⟨fun i H => ∃ xs x, SqT K H a xs ∧ xs[i]? = some x, fun i H x H' => H' = H ∧ ∀ xs, SqT K H a xs → xs[i]? = some x, fun i H => ∃ xs, SqT K H a xs ∧ xs.length ≤ i⟩
def Itr (lo : Int) (n : Nat) : It := ⟨fun i _ => i < n, fun i H x H' => H' = H ∧ x = .int (lo + i), fun i _ => n ≤ i⟩
theorem uT {P : Program} {w : World} {K : PySem.W.Frag} {tg : Expr} (a it : Addr) : uh P w K tg (Itl K a) [it] it (fun i h => h.IsListIter it a i) where
  mem := by simp
  obj := fun i h st b hb => by
    have e : b = it := by simpa using hb
    subst e
    obtain ⟨o, e, c, d⟩ := st
    exact ⟨o, e, fun v z => by rw [d] at z; cases z⟩
  keep := fun i h h' st k => st.at fun o e => k it (by simp) o e
  item := by
    intro X hP hw hK hc i pins s σ H E I hf st hg
    subst hP hw hK
    obtain ⟨xs, x, hq, hx⟩ := hg
    obtain ⟨its, rv, p, hz⟩ := I.list hq
    obtain ⟨u, hu, ru⟩ := rv.get hx
    obtain ⟨f0, f1, f2, f3, f4, f5⟩ := hf it (by simp)
    refine wpAny_pyNext_list_item st p.isList (x := u) (by simpa using hu) fun h' st' sb => ?_
    have I1 : Inv X pins σ H { s with heap := h' } := I.turned (t' := s.toks) (fun b o hb e => (sb.2 b hb).trans e) f0 f1 f3 f4 f5
    obtain ⟨o, e, c, d⟩ := id st'
    exact ⟨u, rfl, mO (s := { s with heap := h' }) e c d (by decide) ⟨x, H, I1, ru, ⟨rfl, fun ys hy => by rw [I.list_inj hy hq]; exact hx⟩, st', fun b hb => (hf b hb).1⟩⟩
  done := by
    intro X hP hw hK hc i pins s σ H E I hf st hg
    subst hP hw hK
    obtain ⟨xs, hq, hx⟩ := hg
    obtain ⟨its, rv, p, hz⟩ := I.list hq
    obtain ⟨f0, f1, f2, f3, f4, f5⟩ := hf it (by simp)
    have hl := rv.length
    exact wpAny_pyNext_list_end (I.ok.hd hc) st p.isList (by simp; omega) fun h' eb => ⟨rfl, I.turned (t' := s.toks) (fun b o hb e => eb b o hb e) f0 f1 f3 f4 f5⟩
  self := fun _ _ _ _ _ st h => wpAny_pyIter_listiter st h
theorem sq {P : Program} {w : World} {K : PySem.W.Frag} {tg : Expr} (a it : Addr) : uh P w K tg (Itt K a) [it] it (fun i h => h.IsTupleIter it a i) where
  mem := by simp
  obj := fun i h st b hb => by
    have e : b = it := by simpa using hb
    subst e
    obtain ⟨o, e, c, d⟩ := st
    exact ⟨o, e, fun v z => by rw [d] at z; cases z⟩
  keep := fun i h h' st k => st.at fun o e => k it (by simp) o e
  item := by
    intro X hP hw hK hc i pins s σ H E I hf st hg
    subst hP hw hK
    obtain ⟨xs, x, hq, hx⟩ := hg
    obtain ⟨its, rv, p, hz⟩ := I.tuple hq
    obtain ⟨u, hu, ru⟩ := rv.get hx
    obtain ⟨f0, f1, f2, f3, f4, f5⟩ := hf it (by simp)
    refine wpAny_pyNext_tuple_item st (show s.heap.IsTuple a its.toArray from p) (x := u) (by simpa using hu) fun h' st' sb => ?_
    have I1 : Inv X pins σ H { s with heap := h' } := I.turned (t' := s.toks) (fun b o hb e => (sb.2 b hb).trans e) f0 f1 f3 f4 f5
    obtain ⟨o, e, c, d⟩ := id st'
    exact ⟨u, rfl, mO (s := { s with heap := h' }) e c d (by decide) ⟨x, H, I1, ru, ⟨rfl, fun ys hy => by rw [I.tuple_inj hy hq]; exact hx⟩, st', fun b hb => (hf b hb).1⟩⟩
  done := by
    intro X hP hw hK hc i pins s σ H E I hf st hg
    subst hP hw hK
    obtain ⟨xs, hq, hx⟩ := hg
    obtain ⟨its, rv, p, hz⟩ := I.tuple hq
    obtain ⟨f0, f1, f2, f3, f4, f5⟩ := hf it (by simp)
    have hl := rv.length
    exact wpAny_pyNext_tuple_end (I.ok.hd hc) st (show s.heap.IsTuple a its.toArray from p) (by simp; omega) fun h' eb => ⟨rfl, I.turned (t' := s.toks) (fun b o hb e => eb b o hb e) f0 f1 f3 f4 f5⟩
  self := fun _ _ _ _ _ st h => wpAny_pyIter_tupleiter st h
theorem rP {P : Program} {w : World} {K : PySem.W.Frag} {tg : Expr} (it : Addr) (lo : Int) (n : Nat) : uh P w K tg (Itr lo n) [it] it (fun i h => IsRangeIter h it (lo + (i : Nat) * 1) ((n : Int) - (i : Nat)) 1) where
  mem := by simp
  obj := fun i h st b hb => by
    have e : b = it := by simpa using hb
    subst e
    exact ⟨_, st, fun v z => by
      have z' : Data.fields _ = Data.cell v := z
      cases z'⟩
  keep := fun i h h' st k => k it (by simp) _ st
  item := by
    intro X hP hw hK hc i pins s σ H E I hf st hg
    subst hP hw hK
    obtain ⟨f0, f1, f2, f3, f4, f5⟩ := hf it (by simp)
    have W := Walks.range (prog := X.prog) (w := X.w) (I.ok.hd hc) it lo 1 n
    refine W.item i s _ _ hg st fun v h' tk hv st' kk => ?_
    obtain ⟨t, rfl⟩ := hv
    have I1 : Inv X pins σ H { s with heap := h', toks := tk } := I.turned (fun b o hb e => kk b o (by simpa using hb) e) f0 f1 f3 f4 f5
    refine ⟨_, rfl, mO (s := { s with heap := h', toks := tk }) (n := "range_iterator") st' rfl rfl (by decide) ⟨.int (lo + i), H, I1, ⟨t, ?_⟩, ⟨rfl, rfl⟩, st', fun b hb => (hf b hb).1⟩⟩
    rw [Int.mul_one]
  done := by
    intro X hP hw hK hc i pins s σ H E I hf st hg
    subst hP hw hK
    obtain ⟨f0, f1, f2, f3, f4, f5⟩ := hf it (by simp)
    exact wpAny_pyNext_range_end (I.ok.hd hc) st (by have : n ≤ i := hg; omega) fun h' eb => ⟨rfl, I.turned (t' := s.toks) (fun b o hb e => eb b o hb e) f0 f1 f3 f4 f5⟩
  self := fun _ _ _ _ _ st h => wpAny_pyIter_rangeiter st h
end L2
namespace L2
open PySem PySem.Spec PyProof.Rows
section
variable {X : Cx} {tg : Expr}
def ku (K : PySem.W.Frag) (tl : TE) : TI := fun σ H R => tl σ H fun x H1 => ∃ a, x = .ref a ∧ (∃ xs, SqL K H1 a xs) ∧ R (Itl K a) H1
def wB (K : PySem.W.Frag) (tl : TE) : TI := fun σ H R => tl σ H fun x H1 => ∃ a, x = .ref a ∧ (∃ xs, SqT K H1 a xs) ∧ R (Itt K a) H1
theorem xy {l : Expr} {tl : TE} (hl : PE X l tl) : PI X tg l (ku X.K tl) := by
  intro pins s σ H R I h
  refine thn (hl pins s σ H _ I h) fun v s1 ⟨x, H1, I1, r1, q1⟩ => ?_
  obtain ⟨a, e, ⟨xs, hq⟩, q⟩ := q1
  subst e
  cases r1
  obtain ⟨its, rv, p, hz⟩ := I1.list hq
  refine wpAny_pyIter_list p.isList ?_
  refine ⟨s1.heap.objs.size, [s1.heap.objs.size], _, _, H1, rfl, I1.kept (t' := s1.toks) fun b o e => Heap.get?_push_of_some _ e, uT a _, ⟨_, Heap.get?_push_size _ rfl, rfl, rfl⟩, fun b hb => ?_, q⟩
  have e : b = s1.heap.objs.size := by simpa using hb
  subst e
  exact I1.fpOk (Nat.le_refl _) (I1.hok.fresh (Nat.le_refl _))
theorem Ai {l : Expr} {tl : TE} (hl : PE X l tl) : PI X tg l (wB X.K tl) := by
  intro pins s σ H R I h
  refine thn (hl pins s σ H _ I h) fun v s1 ⟨x, H1, I1, r1, q1⟩ => ?_
  obtain ⟨a, e, ⟨xs, hq⟩, q⟩ := q1
  subst e
  cases r1
  obtain ⟨its, rv, p, hz⟩ := I1.tuple hq
  refine wpAny_pyIter_tuple (show s1.heap.IsTuple a its.toArray from p) ?_
  refine ⟨s1.heap.objs.size, [s1.heap.objs.size], _, _, H1, rfl, I1.kept (t' := s1.toks) fun b o e => Heap.get?_push_of_some _ e, sq a _, ⟨_, Heap.get?_push_size _ rfl, rfl, rfl⟩, fun b hb => ?_, q⟩
  have e : b = s1.heap.objs.size := by simpa using hb
  subst e
  exact I1.fpOk (Nat.le_refl _) (I1.hok.fresh (Nat.le_refl _))
theorem pP {pins : List (Addr × Obj)} {σ : St} {H : Hp} {s : Shared} {R : It → Hp → Prop} {E : Value → Shared → Prop} {lo hi : Int} {t u v : Tok} {tk : Nat} (I : Inv X pins σ H s) (h1 : -(2 ^ 62) ≤ lo) (h2 : lo < 2 ^ 62) (h3 : -(2 ^ 62) ≤ hi) (h4 : hi < 2 ^ 62)
    (q : R (Itr lo (hi - lo).toNat) H) : wpAny (model X.prog X.w) X.A (pyIter (.ref s.heap.objs.size)) (PIE X pins σ tg R) E { s with heap := s.heap.push { cls := .type "range", data := .fields #[.int lo t, .int hi u, .int 1 v] }, toks := tk } := by
  refine wpAny_pyIter_range (IsRange.new ..) (small_one h1 h2 h3 h4) ?_
  have I1 : Inv X pins σ H { s with heap := s.heap.push { cls := .type "range", data := .fields #[.int lo t, .int hi u, .int 1 v] }, toks := tk } := I.kept fun b o e => Heap.get?_push_of_some _ e
  refine ⟨(s.heap.push { cls := .type "range", data := .fields #[.int lo t, .int hi u, .int 1 v] }).objs.size, [(s.heap.push { cls := .type "range", data := .fields #[.int lo t, .int hi u, .int 1 v] }).objs.size], _, _, H, rfl,
    I1.kept (t' := tk) fun b o e => Heap.get?_push_of_some _ e, rP _ lo (hi - lo).toNat, ?_, fun b hb => ?_, q⟩
  · have e1 : lo + ((0 : Nat) : Int) * 1 = lo := by simp
    have e2 : (((hi - lo).toNat : Nat) : Int) - ((0 : Nat) : Int) = Builtin.Range.rangeSize lo hi 1 := by rw [rangeSize_one]; split <;> omega
    show IsRangeIter _ _ (lo + ((0 : Nat) : Int) * 1) ((((hi - lo).toNat : Nat) : Int) - ((0 : Nat) : Int)) 1
    rw [e1, e2]
    exact Heap.get?_push_size _ rfl
  · have e : b = (s.heap.push { cls := .type "range", data := .fields #[.int lo t, .int hi u, .int 1 v] }).objs.size := by simpa using hb
    subst e
    exact I1.fpOk (Nat.le_refl _) (I1.hok.fresh (Nat.le_refl _))
def vj (ta : TA) : TI := fun σ H R => ta σ H fun vs H1 => ∃ j : Int, vs = [.int j] ∧ -(2 ^ 62) ≤ j ∧ j < 2 ^ 62 ∧ R (Itr 0 j.toNat) H1
def wX (ta : TA) : TI := fun σ H R => ta σ H fun vs H1 => ∃ i j : Int, vs = [.int i, .int j] ∧ (-(2 ^ 62) ≤ i ∧ i < 2 ^ 62 ∧ -(2 ^ 62) ≤ j ∧ j < 2 ^ 62) ∧ R (Itr i (j - i).toNat) H1
theorem cY {a : Expr} {ta : TA} {p pos : Pos} (hg : Gl X "range") (hm : X.mg "range" = none) (ha : PA X [a] ta) (hs : starEach [a] X.env = [(false, eval a X.env)] := by rfl) : PI X tg (.Call (.Name "range" p) [a] [] pos) (vj ta) := by
  intro pins s σ H R I h
  refine Call_ (jj I hg hm boot_range (PyProof.Rows.callWith_type1 (thn (ha pos pins s σ H _ I h) fun us s1 ⟨vs, H1, I1, r1, q1⟩ => ?_) hs rfl))
  obtain ⟨j, e, q1, q2, q⟩ := q1
  subst e
  cases r1 with
  | cons r rr =>
    cases rr
    obtain ⟨t, rfl⟩ := r
    exact call_range_1 (pP I1 (by omega) (by omega) q1 q2 (by simpa using q))
theorem mB {a b : Expr} {ta : TA} {p pos : Pos} (hg : Gl X "range") (hm : X.mg "range" = none) (ha : PA X [a, b] ta) (hs : starEach [a, b] X.env = [(false, eval a X.env), (false, eval b X.env)] := by rfl) (hs2 : starEach [b] X.env = [(false, eval b X.env)] := by rfl) :
    PI X tg (.Call (.Name "range" p) [a, b] [] pos) (wX ta) := by
  intro pins s σ H R I h
  refine Call_ (jj I hg hm boot_range (PyProof.Rows.callWith_type1 (thn (ha pos pins s σ H _ I h) fun us s1 ⟨vs, H1, I1, r1, q1⟩ => ?_) (by rw [hs, hs2]) (by rw [hs2]; rfl)))
  obtain ⟨i, j, e, ⟨q1, q2, q3, q4⟩, q⟩ := q1
  subst e
  cases r1 with
  | cons r rr =>
    cases rr with
    | cons r' rr =>
      cases rr
      obtain ⟨t, rfl⟩ := r
      obtain ⟨t', rfl⟩ := r'
      exact call_range_2 (pP I1 q1 q2 q3 q4 q)
def lI (wi : TI) (g : TG) (tb : TS) : TS := fun D σ H => wi σ H fun J H1 => ∃ W : Nat → Nat → St → Hp → Prop, (∃ m, W 0 m σ H1) ∧ ∀ i m σ H, W i m σ H →
  (J.stop i H ∧ D.nx σ H) ∨ (J.go i H ∧ ∃ N : St → Hp → Prop, (∀ σ' H', N σ' H' → ∃ m', m' < m ∧ W (i + 1) m' σ' H') ∧ ∀ x H', J.yld i H x H' → g x σ H' fun σ2 H2 => tb { D with nx := N, ct := N, bk := D.nx } σ2 H2)
def j6 (fp : List Addr) (h : Heap) : List (Addr × Obj) := fp.filterMap fun b => (h.get? b).map fun o => (b, o)
theorem fj {fp : List Addr} {h : Heap} {b : Addr} {o : Obj} (hb : b ∈ fp) (e : h.get? b = some o) : (b, o) ∈ j6 fp h := List.mem_filterMap.mpr ⟨b, hb, by rw [e]; rfl⟩
theorem t8 {fp : List Addr} {h : Heap} {p : Addr × Obj} (hp : p ∈ j6 fp h) : p.1 ∈ fp ∧ h.get? p.1 = some p.2 := by
  obtain ⟨b, hb, e⟩ := List.mem_filterMap.mp hp
  cases q : h.get? b with
  | none => rw [q] at e; cases e
  | some o =>
    rw [q] at e
    have e' : (b, o) = p := Option.some.inj e
    subst e'
    exact ⟨hb, q⟩
theorem Inv.pinned {pins : List (Addr × Obj)} {σ : St} {H : Hp} {s : Shared} {fp : List Addr} (I : Inv X pins σ H s) (hf : ∀ b ∈ fp, lN X pins H b) (ho : ∀ b ∈ fp, ∃ o, s.heap.get? b = some o ∧ ∀ v, o.data ≠ .cell v) : Inv X (pins ++ j6 fp s.heap) σ H s :=
  I.pins_of fun p hp => (List.mem_append.mp hp).elim (fun z => I.pin p (List.mem_append_right _ z)) fun z => by
    obtain ⟨hb, e⟩ := t8 z
    obtain ⟨f0, f1, f2, _⟩ := hf p.1 hb
    obtain ⟨o, e', d⟩ := ho p.1 hb
    rw [e] at e'; cases e'
    exact ⟨e, f0, f1, f2, d⟩
theorem Inv.unpinned {pins pl : List (Addr × Obj)} {σ : St} {H : Hp} {s : Shared} (I : Inv X (pins ++ pl) σ H s) : Inv X pins σ H s := I.pins_of fun p hp => I.pin p (List.mem_append_right _ (List.mem_append_left _ hp))
theorem da {iter : Expr} {body : List Stmt} {wi : TI} {g : TG} {tb : TS} {pos : Pos} (hp : PassesOwn (model X.prog X.w) X.A X.env X.xe) (hc : X.calm = true) (hi : PI X tg iter wi) (hg : PG X tg g) (hb : PSs X body tb)
    (hs : ∀ x, foldedSetIterable iter X.env x = pure x := by intro _; rfl) : PS X (.For tg iter body [] pos) (lI wi g tb) := by
  intro pins s σ H D I h
  refine wpAny_For (thn (hi pins s σ H _ I h) fun v s1 h1 => thn h1 fun itv s2 h2 => ?_) hs
  obtain ⟨it, fp, tn, J, H2, e, I2, T, st2, f2, W, ⟨m0, w0⟩, turn⟩ := h2
  subst e
  have stat : ∀ {H' : Hp}, (∀ b ∈ fp, H' b = none) → ∀ b ∈ fp, lN X pins H' b := fun hn b hb => ⟨hn b hb, (f2 b hb).2⟩
  refine codeAny_forLoop_any (fun n s' => ∃ i σ' H', Inv X pins σ' H' s' ∧ tn i s'.heap ∧ (∀ b ∈ fp, H' b = none) ∧ W i n σ' H') ?_ m0 ⟨0, σ, H2, I2, st2, fun b hb => (f2 b hb).1, w0⟩
  rintro n s3 ⟨i, σ3, H3, I3, st3, fr3, w3⟩
  rcases turn i n σ3 H3 w3 with ⟨stop, qn⟩ | ⟨go, N, hN, step⟩
  · refine wpAny_passesOwn hp (thn (T.done X rfl rfl rfl hc i pins s3 σ3 H3 X.xe I3 (stat fr3) st3 stop) fun r s4 ⟨hr, I4⟩ => ?_)
    subst hr
    exact wpAny_execs_nil ⟨σ3, H3, I4, qn⟩
  · refine wpAny_passesOwn hp (thn (T.item X rfl rfl rfl hc i pins s3 σ3 H3 X.xe I3 (stat fr3) st3 go) fun r s4 ⟨u, hr, h4⟩ => ?_)
    subst hr
    refine wpAny_passesOwn hp (thn h4 fun _ s5 ⟨x, H5, I5, r5, y5, st5, fr5⟩ => ?_)
    have I5' := I5.pinned (stat fr5) (T.obj _ _ st5)
    refine wpAny_passesOwn hp (thn (hg _ s5 σ3 H5 x u _ I5' r5 (step x H5 y5)) fun _ s6 ⟨σ6, H6, I6, q6⟩ => ?_)
    refine wpAny_passesOwn hp (thn (hb _ s6 σ6 H6 _ I6 q6) fun f s7 q7 => ?_)
    have again : ∀ {σ7 : St} {H7 : Hp}, Inv X (pins ++ j6 fp s5.heap) σ7 H7 s7 → N σ7 H7 → ∃ m, m < n ∧ ∃ i σ' H', Inv X pins σ' H' s7 ∧ tn i s7.heap ∧ (∀ b ∈ fp, H' b = none) ∧ W i m σ' H' := fun {σ7 H7} I7 n7 => by
      obtain ⟨m', hm, w7⟩ := hN σ7 H7 n7
      refine ⟨m', hm, i + 1, σ7, H7, I7.unpinned, T.keep _ _ _ st5 fun b hb o e => (I7.pin (b, o) (List.mem_append_right _ (List.mem_append_right _ (fj hb e)))).1, fun b hb => ?_, w7⟩
      obtain ⟨o, e, d⟩ := T.obj _ _ st5 b hb
      exact (I7.pin (b, o) (List.mem_append_right _ (List.mem_append_right _ (fj hb e)))).2.1
    cases f with
    | next => obtain ⟨σ7, H7, I7, n7⟩ := q7; exact again I7 n7
    | cont => obtain ⟨σ7, H7, I7, n7⟩ := q7; exact again I7 n7
    | brk => obtain ⟨σ7, H7, I7, q7⟩ := q7; exact ⟨σ7, H7, I7.unpinned, q7⟩
    | ret v => obtain ⟨x7, σ7, H7, I7, r7, q7⟩ := q7; exact ⟨x7, σ7, H7, I7.unpinned, r7, q7⟩
end
theorem fZ {K : PySem.W.Frag} {a : Addr} {xs : List V} {g : TG} {tb : TS} {D : gO} {σ : St} {H : Hp} (Pv : Nat → St → Hp → Prop) (h0 : Pv 0 σ H) (hl : ∀ i σ H, i ≤ xs.length → Pv i σ H → SqL K H a xs)
    (hs : ∀ i x σ H, xs[i]? = some x → Pv i σ H → g x σ H fun σ2 H2 => tb { D with nx := Pv (i + 1), ct := Pv (i + 1), bk := D.nx } σ2 H2) (hd : ∀ σ H, Pv xs.length σ H → D.nx σ H) :
    ∃ W : Nat → Nat → St → Hp → Prop, (∃ m, W 0 m σ H) ∧ ∀ i m σ H, W i m σ H →
      ((Itl K a).stop i H ∧ D.nx σ H) ∨ ((Itl K a).go i H ∧ ∃ N : St → Hp → Prop, (∀ σ' H', N σ' H' → ∃ m', m' < m ∧ W (i + 1) m' σ' H') ∧ ∀ x H', (Itl K a).yld i H x H' → g x σ H' fun σ2 H2 => tb { D with nx := N, ct := N, bk := D.nx } σ2 H2) := by
  refine ⟨fun i m σ H => m = xs.length - i ∧ i ≤ xs.length ∧ Pv i σ H, ⟨xs.length, by simp, Nat.zero_le _, h0⟩, ?_⟩
  rintro i m σ H ⟨rfl, hi, p⟩
  have q := hl i σ H hi p
  by_cases hlt : i < xs.length
  · refine .inr ⟨⟨xs, xs[i], q, by simp [hlt]⟩, Pv (i + 1), fun σ' H' p' => ⟨xs.length - (i + 1), by omega, rfl, hlt, p'⟩, fun x H' y => ?_⟩
    obtain ⟨e, y⟩ := y
    subst e
    exact hs i x σ _ (y xs q) p
  · have e : i = xs.length := by omega
    subst e
    exact .inl ⟨⟨xs, q, Nat.le_refl _⟩, hd σ H p⟩
theorem xl {K : PySem.W.Frag} {a : Addr} {xs : List V} {g : TG} {tb : TS} {D : gO} {σ : St} {H : Hp} (Pv : Nat → St → Hp → Prop) (h0 : Pv 0 σ H) (hl : ∀ i σ H, i ≤ xs.length → Pv i σ H → SqT K H a xs)
    (hs : ∀ i x σ H, xs[i]? = some x → Pv i σ H → g x σ H fun σ2 H2 => tb { D with nx := Pv (i + 1), ct := Pv (i + 1), bk := D.nx } σ2 H2) (hd : ∀ σ H, Pv xs.length σ H → D.nx σ H) :
    ∃ W : Nat → Nat → St → Hp → Prop, (∃ m, W 0 m σ H) ∧ ∀ i m σ H, W i m σ H →
      ((Itt K a).stop i H ∧ D.nx σ H) ∨ ((Itt K a).go i H ∧ ∃ N : St → Hp → Prop, (∀ σ' H', N σ' H' → ∃ m', m' < m ∧ W (i + 1) m' σ' H') ∧ ∀ x H', (Itt K a).yld i H x H' → g x σ H' fun σ2 H2 => tb { D with nx := N, ct := N, bk := D.nx } σ2 H2) := by
  refine ⟨fun i m σ H => m = xs.length - i ∧ i ≤ xs.length ∧ Pv i σ H, ⟨xs.length, by simp, Nat.zero_le _, h0⟩, ?_⟩
  rintro i m σ H ⟨rfl, hi, p⟩
  have q := hl i σ H hi p
  by_cases hlt : i < xs.length
  · refine .inr ⟨⟨xs, xs[i], q, by simp [hlt]⟩, Pv (i + 1), fun σ' H' p' => ⟨xs.length - (i + 1), by omega, rfl, hlt, p'⟩, fun x H' y => ?_⟩
    obtain ⟨e, y⟩ := y
    subst e
    exact hs i x σ _ (y xs q) p
  · have e : i = xs.length := by omega
    subst e
    exact .inl ⟨⟨xs, q, Nat.le_refl _⟩, hd σ H p⟩
theorem dQ {lo : Int} {n : Nat} {g : TG} {tb : TS} {D : gO} {σ : St} {H : Hp} (Pv : Nat → St → Hp → Prop) (h0 : Pv 0 σ H)
    (hs : ∀ i σ H, i < n → Pv i σ H → g (.int (lo + i)) σ H fun σ2 H2 => tb { D with nx := Pv (i + 1), ct := Pv (i + 1), bk := D.nx } σ2 H2) (hd : ∀ σ H, Pv n σ H → D.nx σ H) :
    ∃ W : Nat → Nat → St → Hp → Prop, (∃ m, W 0 m σ H) ∧ ∀ i m σ H, W i m σ H →
      ((Itr lo n).stop i H ∧ D.nx σ H) ∨ ((Itr lo n).go i H ∧ ∃ N : St → Hp → Prop, (∀ σ' H', N σ' H' → ∃ m', m' < m ∧ W (i + 1) m' σ' H') ∧ ∀ x H', (Itr lo n).yld i H x H' → g x σ H' fun σ2 H2 => tb { D with nx := N, ct := N, bk := D.nx } σ2 H2) := by
  refine ⟨fun i m σ H => m = n - i ∧ i ≤ n ∧ Pv i σ H, ⟨n, by simp, Nat.zero_le _, h0⟩, ?_⟩
  rintro i m σ H ⟨rfl, hi, p⟩
  by_cases hlt : i < n
  · refine .inr ⟨hlt, Pv (i + 1), fun σ' H' p' => ⟨n - (i + 1), by omega, rfl, hlt, p'⟩, fun x H' y => ?_⟩
    obtain ⟨e, y⟩ := y
    subst e y
    exact hs i σ _ hlt p
  · have e : i = n := by omega
    subst e
    exact .inl ⟨Nat.le_refl _, hd σ H p⟩
end L2
namespace L2
open PySem PySem.Spec PyProof.Rows
abbrev R2 := V → V → Hp → VK → Prop
def OpR (X : Cx) (f : Value → Value → Sem Value) (r : R2) : Prop :=
  ∀ (pins : List (Addr × Obj)) (s : Shared) (σ : St) (H : Hp) (x y : V) (v u : Value) (Q : VK), Inv X pins σ H s → RelV x v → RelV y u → r x y H Q →
    wpAny (model X.prog X.w) X.A (f v u) (EP X pins σ Q) X.xe s
def UnR (X : Cx) (f : Value → Sem Value) (r : V → Hp → VK → Prop) : Prop :=
  ∀ (pins : List (Addr × Obj)) (s : Shared) (σ : St) (H : Hp) (x : V) (v : Value) (Q : VK), Inv X pins σ H s → RelV x v → r x H Q →
    wpAny (model X.prog X.w) X.A (f v) (EP X pins σ Q) X.xe s
def CallR (X : Cx) (f : Value) (r : List V → Hp → VK → Prop) : Prop :=
  ∀ (pins : List (Addr × Obj)) (s : Shared) (σ : St) (H : Hp) (xs : List V) (us : List Value) (Q : VK), Inv X pins σ H s → Vals xs us → r xs H Q →
    wpAny (model X.prog X.w) X.A (call f us) (EP X pins σ Q) X.xe s
def BF (X : Cx) (r : V → Hp → (Bool → Hp → Prop) → Prop) : Prop :=
  ∀ (pins : List (Addr × Obj)) (s : Shared) (σ : St) (H : Hp) (x : V) (v : Value) (Q : Bool → Hp → Prop), Inv X pins σ H s → RelV x v → r x H Q →
    wpAny (model X.prog X.w) X.A (truthy v) (TP X pins σ Q) X.xe s
def tOp (r : R2) (ta tb : TE) : TE := fun σ H Q => ta σ H fun x H1 => tb σ H1 fun y H2 => r x y H2 Q
def tUn (r : V → Hp → VK → Prop) (ta : TE) : TE := fun σ H Q => ta σ H fun x H1 => r x H1 Q
def rI (C : Int → Int → Prop) (g : Int → Int → V) : R2 := fun x y H Q => ∃ i j, x = .int i ∧ y = .int j ∧ C i j ∧ Q (g i j) H
def rI0 (g : Int → Int → V) : R2 := fun x y H Q => ∃ i j, x = .int i ∧ y = .int j ∧ Q (g i j) H
def rU (g : Int → V) : V → Hp → VK → Prop := fun x H Q => ∃ i, x = .int i ∧ Q (g i) H
section
variable {X : Cx} {a b c : Expr} {ta tb tc : TE} {pos : Pos}
theorem yT (ha : PE X a ta) (hb : PE X b tb) {pins : List (Addr × Obj)} {s : Shared} {σ : St} {H : Hp} {R : V → V → Hp → Prop} (I : Inv X pins σ H s)
    (h : ta σ H fun x H1 => tb σ H1 fun y H2 => R x y H2) {Q : Value → Shared → Prop} {f : Value → Value → Sem Value}
    (hf : ∀ v u s2 x y H2, Inv X pins σ H2 s2 → RelV x v → RelV y u → R x y H2 → wpAny (model X.prog X.w) X.A (f v u) Q X.xe s2) :
    wpAny (model X.prog X.w) X.A (eval a X.env) (fun v s₁ => wpAny (model X.prog X.w) X.A (eval b X.env) (fun u s₂ => wpAny (model X.prog X.w) X.A (f v u) Q X.xe s₂) X.xe s₁) X.xe s := by
  refine thn (ha pins s σ H _ I h) fun v s1 ⟨x, H1, I1, r1, q1⟩ => ?_
  refine thn (hb pins s1 σ H1 _ I1 q1) fun u s2 ⟨y, H2, I2, r2, q2⟩ => ?_
  exact hf v u s2 x y H2 I2 r1 r2 q2
theorem al {op : Operator} {r : R2} (ho : OpR X (binaryOp op) r) (ha : PE X a ta) (hb : PE X b tb) : PE X (.BinOp a op b pos) (tOp r ta tb) := by
  intro pins s σ H Q I h
  exact wpAny_BinOp (yT ha hb I h fun v u s2 x y H2 I2 rx ry q => ho pins s2 σ H2 x y v u Q I2 rx ry q)
theorem qP {op : UnaryOp} {r : V → Hp → VK → Prop} (ho : UnR X (unaryOp op) r) (ha : PE X a ta) : PE X (.UnaryOp op a pos) (tUn r ta) := by
  intro pins s σ H Q I h
  exact UnaryOp_ (thn (ha pins s σ H _ I h) fun v s1 ⟨x, H1, I1, r1, q1⟩ => ho pins s1 σ H1 x v Q I1 r1 q1)
theorem opI {f : Value → Value → Sem Value} {C : Int → Int → Prop} {g : Int → Int → Int}
    (rule : ∀ (i j : Int) (t u : Tok) (s : Shared) (Q : Value → Shared → Prop) (E : Value → Shared → Prop), C i j → Q (.int (g i j) s.toks) { s with toks := s.toks + 1 } → wpAny (model X.prog X.w) X.A (f (.int i t) (.int j u)) Q E s) :
    OpR X f (rI C fun i j => .int (g i j)) := by
  intro pins s σ H x y v u Q I rx ry h
  obtain ⟨i, j, rfl, rfl, hc, q⟩ := h
  obtain ⟨t, rfl⟩ := rx
  obtain ⟨t', rfl⟩ := ry
  exact rule i j t t' s _ _ hc ⟨.int (g i j), H, I.tok _, ⟨_, rfl⟩, q⟩
theorem Bu {f : Value → Value → Sem Value} {g : Int → Int → Int}
    (rule : ∀ (i j : Int) (t u : Tok) (s : Shared) (Q : Value → Shared → Prop) (E : Value → Shared → Prop), Q (.int (g i j) s.toks) { s with toks := s.toks + 1 } → wpAny (model X.prog X.w) X.A (f (.int i t) (.int j u)) Q E s) :
    OpR X f (rI0 fun i j => .int (g i j)) := by
  intro pins s σ H x y v u Q I rx ry h
  obtain ⟨i, j, rfl, rfl, q⟩ := h
  obtain ⟨t, rfl⟩ := rx
  obtain ⟨t', rfl⟩ := ry
  exact rule i j t t' s _ _ ⟨.int (g i j), H, I.tok _, ⟨_, rfl⟩, q⟩
theorem y8 {f : Value → Value → Sem Value} {g : Int → Int → Bool}
    (rule : ∀ (i j : Int) (t u : Tok) (s : Shared) (Q : Value → Shared → Prop) (E : Value → Shared → Prop), Q (.bool (g i j)) s → wpAny (model X.prog X.w) X.A (f (.int i t) (.int j u)) Q E s) :
    OpR X f (rI0 fun i j => .bl (g i j)) := by
  intro pins s σ H x y v u Q I rx ry h
  obtain ⟨i, j, rfl, rfl, q⟩ := h
  obtain ⟨t, rfl⟩ := rx
  obtain ⟨t', rfl⟩ := ry
  exact rule i j t t' s _ _ ⟨.bl (g i j), H, I, rfl, q⟩
def zL (i j : Int) : Prop := 0 < j ∧ j < 1073741824
def zA (i j : Int) : Prop := 0 ≤ j ∧ j ≤ 1000000 ∧ i.natAbs < 2 ^ 64
def CMul (i j : Int) : Prop := (-(2 ^ 64) < i ∧ i < 2 ^ 64) ∨ (-(2 ^ 64) < j ∧ j < 2 ^ 64)
theorem CMul.ok {i j : Int} (h : CMul i j) : IntMulOk i j := by
  rcases h with ⟨h1, h2⟩ | ⟨h1, h2⟩
  · exact .of_left (intBits_le_64 h1 h2)
  · exact .of_right (intBits_le_64 h1 h2)
theorem zB : OpR X (binaryOp .Add) (rI0 fun i j => .int (i + j)) := Bu fun _ _ _ _ _ _ _ q => add_int q
theorem zd : OpR X (binaryOp .Sub) (rI0 fun i j => .int (i - j)) := Bu fun _ _ _ _ _ _ _ q => sub_int q
theorem zR : OpR X (binaryOp .Mult) (rI CMul fun i j => .int (i * j)) := opI fun _ _ _ _ _ _ _ hc q => mul_int q hc.ok
theorem xw : OpR X (binaryOp .FloorDiv) (rI zL fun i j => .int (i / j)) := opI fun i j _ _ _ _ _ hc q => by
  have h1 : (0 : Int) < j := hc.1
  have h2 : j < 1073741824 := hc.2
  exact floordiv_int (by omega) (by rw [Int.fdiv_eq_ediv_of_nonneg i (by omega)]; exact q) (.inl (PyProof.noPylong_small (by omega)))
theorem y3 : OpR X (binaryOp .Mod) (rI (fun _ j => 0 < j) fun i j => .int (i % j)) := opI fun i j _ _ _ _ _ hc q => by
  have h1 : (0 : Int) < j := hc
  exact mod_int' (by omega) (by rw [Int.fmod_eq_emod_of_nonneg i (by omega)]; exact q)
theorem zE : OpR X (binaryOp .Pow) (rI zA fun i j => .int (i ^ j.toNat)) := opI fun _ _ _ _ _ _ _ hc q => pow_int_small hc.1 hc.2.1 hc.2.2 q
theorem unI {f : Value → Sem Value} {g : Int → Int}
    (rule : ∀ (i : Int) (t : Tok) (s : Shared) (Q : Value → Shared → Prop) (E : Value → Shared → Prop), Q (.int (g i) s.toks) { s with toks := s.toks + 1 } → wpAny (model X.prog X.w) X.A (f (.int i t)) Q E s) :
    UnR X f (rU fun i => .int (g i)) := by
  intro pins s σ H x v Q I rx h
  obtain ⟨i, rfl, q⟩ := h
  obtain ⟨t, rfl⟩ := rx
  exact rule i t s _ _ ⟨.int (g i), H, I.tok _, ⟨_, rfl⟩, q⟩
theorem zW : UnR X (unaryOp .USub) (rU fun i => .int (-i)) := unI fun _ _ _ _ _ q => neg_int q
end
def y0 : V → V → Bool
  | .non, .non => true | .non, .int _ => true | .int _, .non => true | .non, .bl _ => true | .bl _, .non => true | .non, .str _ => true | .str _, .non => true
  | .int _, .int _ => true | .bl _, .bl _ => true | .str _, .str _ => true | .byt _, .byt _ => true
  | .int _, .str _ => true | .str _, .int _ => true | .bl _, .str _ => true | .str _, .bl _ => true
  | _, _ => false
def rEq : R2 := fun x y H Q => y0 x y = true ∧ Q (.bl (decide (x = y))) H
def rNe : R2 := fun x y H Q => y0 x y = true ∧ Q (.bl (!decide (x = y))) H
theorem sx {i j : Int} : decide (V.int i = V.int j) = (i == j) := by
  rw [Bool.eq_iff_iff]
  simp
theorem v9 {i j : Bool} : decide (V.bl i = V.bl j) = (i == j) := by
  rw [Bool.eq_iff_iff]
  simp
theorem sX {i j : Str} : decide (V.str i = V.str j) = (i == j) := by
  rw [Bool.eq_iff_iff]
  simp
theorem sP {i j : Array UInt8} : decide (V.byt i = V.byt j) = (i.toList == j.toList) := by
  rw [Bool.eq_iff_iff]
  cases i
  cases j
  simp
section
variable {X : Cx} {a b c : Expr} {ta tb tc : TE} {pos : Pos}
theorem aX {pins : List (Addr × Obj)} {σ : St} {H : Hp} {s : Shared} {Q : VK} {k k' : Bool} (I : Inv X pins σ H s) (q : Q (.bl k) H) (e : k = k') : EP X pins σ Q (.bool k') s := by
  subst e
  exact ⟨.bl k, H, I, rfl, q⟩
theorem Bd : OpR X (compareOp .Eq) rEq := by
  intro pins s σ H x y v u Q I rx ry h
  obtain ⟨hs, q⟩ := h
  cases x with
  | non =>
    cases rx
    cases y with
    | non => cases ry; exact PySem.EqNone.eq_none_none (aX I q (by simp))
    | bl j => cases ry; exact PySem.EqNone.eq_none_bool (aX I q (by simp))
    | int j => obtain ⟨t', rfl⟩ := ry; exact PySem.EqNone.eq_none_int (aX I q (by simp))
    | str j => obtain ⟨t', rfl⟩ := ry; exact PySem.EqNone.eq_none_str (aX I q (by simp))
    | _ => exact absurd (show false = true from hs) Bool.false_ne_true
  | bl i =>
    cases rx
    cases y with
    | non => cases ry; exact PySem.EqNone.eq_bool_none (aX I q (by simp))
    | bl j => cases ry; exact eq_bool (aX I q v9)
    | str j => obtain ⟨t', rfl⟩ := ry; exact PySem.EqMixed.eq_bool_str (aX I q (by simp))
    | _ => exact absurd (show false = true from hs) Bool.false_ne_true
  | int i =>
    obtain ⟨t, rfl⟩ := rx
    cases y with
    | non => cases ry; exact PySem.EqNone.eq_int_none (aX I q (by simp))
    | int j => obtain ⟨t', rfl⟩ := ry; exact eq_int (aX I q sx)
    | str j => obtain ⟨t', rfl⟩ := ry; exact PySem.EqMixed.eq_int_str (aX I q (by simp))
    | _ => exact absurd (show false = true from hs) Bool.false_ne_true
  | str i =>
    obtain ⟨t, rfl⟩ := rx
    cases y with
    | non => cases ry; exact PySem.EqNone.eq_str_none (aX I q (by simp))
    | bl j => cases ry; exact PySem.EqMixed.eq_str_bool (aX I q (by simp))
    | int j => obtain ⟨t', rfl⟩ := ry; exact PySem.EqMixed.eq_str_int (aX I q (by simp))
    | str j => obtain ⟨t', rfl⟩ := ry; exact eq_str (aX I q sX)
    | _ => exact absurd (show false = true from hs) Bool.false_ne_true
  | byt i =>
    obtain ⟨t, rfl⟩ := rx
    cases y with
    | byt j => obtain ⟨t', rfl⟩ := ry; exact PySem.W.eq_bytes (aX I q sP)
    | _ => exact absurd (show false = true from hs) Bool.false_ne_true
  | _ => cases y <;> exact absurd (show false = true from hs) Bool.false_ne_true
theorem Bv : OpR X (compareOp .NotEq) rNe := by
  intro pins s σ H x y v u Q I rx ry h
  obtain ⟨hs, q⟩ := h
  cases x with
  | non =>
    cases rx
    cases y with
    | non => cases ry; exact PySem.EqNone.ne_none_none (aX I q (by simp))
    | bl j => cases ry; exact PySem.EqNone.ne_none_bool (aX I q (by simp))
    | int j => obtain ⟨t', rfl⟩ := ry; exact PySem.EqNone.ne_none_int (aX I q (by simp))
    | str j => obtain ⟨t', rfl⟩ := ry; exact PySem.EqNone.ne_none_str (aX I q (by simp))
    | _ => exact absurd (show false = true from hs) Bool.false_ne_true
  | bl i =>
    cases rx
    cases y with
    | non => cases ry; exact PySem.EqNone.ne_bool_none (aX I q (by simp))
    | bl j => cases ry; exact ne_bool (aX I q (congrArg not v9))
    | str j => obtain ⟨t', rfl⟩ := ry; exact PySem.EqMixed.ne_bool_str (aX I q (by simp))
    | _ => exact absurd (show false = true from hs) Bool.false_ne_true
  | int i =>
    obtain ⟨t, rfl⟩ := rx
    cases y with
    | non => cases ry; exact PySem.EqNone.ne_int_none (aX I q (by simp))
    | int j => obtain ⟨t', rfl⟩ := ry; exact ne_int (aX I q (congrArg not sx))
    | str j => obtain ⟨t', rfl⟩ := ry; exact PySem.EqMixed.ne_int_str (aX I q (by simp))
    | _ => exact absurd (show false = true from hs) Bool.false_ne_true
  | str i =>
    obtain ⟨t, rfl⟩ := rx
    cases y with
    | non => cases ry; exact PySem.EqNone.ne_str_none (aX I q (by simp))
    | bl j => cases ry; exact PySem.EqMixed.ne_str_bool (aX I q (by simp))
    | int j => obtain ⟨t', rfl⟩ := ry; exact PySem.EqMixed.ne_str_int (aX I q (by simp))
    | str j => obtain ⟨t', rfl⟩ := ry; exact ne_str (aX I q (congrArg not sX))
    | _ => exact absurd (show false = true from hs) Bool.false_ne_true
  | byt i =>
    obtain ⟨t, rfl⟩ := rx
    cases y with
    | byt j => obtain ⟨t', rfl⟩ := ry; exact PySem.W.ne_bytes (aX I q (congrArg not sP))
    | _ => exact absurd (show false = true from hs) Bool.false_ne_true
  | _ => cases y <;> exact absurd (show false = true from hs) Bool.false_ne_true
theorem Bh : OpR X (compareOp .Lt) (rI0 fun i j => .bl (decide (i < j))) := y8 fun _ _ _ _ _ _ _ q => lt_int q
theorem A1 : OpR X (compareOp .LtE) (rI0 fun i j => .bl (decide (i ≤ j))) := y8 fun _ _ _ _ _ _ _ q => le_int q
theorem AS : OpR X (compareOp .Gt) (rI0 fun i j => .bl (decide (j < i))) := y8 fun _ _ _ _ _ _ _ q => gt_int q
theorem ue : OpR X (compareOp .Lt) (fun x y H Q => ∃ i j, x = .str i ∧ y = .str j ∧ Q (.bl (decide (i.cps.toList < j.cps.toList))) H) := by
  intro pins s σ H x y v u Q I rx ry h
  obtain ⟨i, j, rfl, rfl, q⟩ := h
  obtain ⟨t, rfl⟩ := rx
  obtain ⟨t', rfl⟩ := ry
  exact lt_str (aX I q rfl)
theorem tZ : OpR X (compareOp .In) (fun x y H Q => ∃ i j, x = .str i ∧ y = .str j ∧ Q (.bl (!(Builtin.Str.occurrences j i 0 j.length 1).isEmpty)) H) := by
  intro pins s σ H x y v u Q I rx ry h
  obtain ⟨i, j, rfl, rfl, q⟩ := h
  obtain ⟨t, rfl⟩ := rx
  obtain ⟨t', rfl⟩ := ry
  exact in_str (aX I q rfl)
theorem OpR.or {f : Value → Value → Sem Value} {r r' : R2} (h : OpR X f r) (h' : OpR X f r') : OpR X f (fun x y H Q => r x y H Q ∨ r' x y H Q) := by
  intro pins s σ H x y v u Q I rx ry q
  rcases q with q | q
  · exact h pins s σ H x y v u Q I rx ry q
  · exact h' pins s σ H x y v u Q I rx ry q
theorem bN (b : Expr) {op : CmpOp} (h : op ≠ .In := by decide) (h2 : op ≠ .NotIn := by decide) : behindInMarks op b = false := by
  have e1 : (op == CmpOp.In) = false := by cases op <;> first | rfl | exact absurd rfl h
  have e2 : (op == CmpOp.NotIn) = false := by cases op <;> first | rfl | exact absurd rfl h2
  cases b <;> simp [behindInMarks, e1, e2]
theorem ei {op : CmpOp} {r : R2} (ho : OpR X (compareOp op) r) (ha : PE X a ta) (hb : PE X b tb) (hm : behindInMarks op b = false) : PE X (.Compare a [op] [b] pos) (tOp r ta tb) := by
  intro pins s σ H Q I h
  exact wpAny_Compare1 (yT ha hb I h fun v u s2 x y H2 I2 rx ry q => ho pins s2 σ H2 x y v u Q I2 rx ry q) hm
def BQ (K : PySem.W.Frag) (x : V) (H : Hp) (k : Bool) : Prop :=
  match x with
  | .non => k = false
  | .bl b => k = b
  | .int i => k = (i != 0)
  | .str y => y.length ≤ sizeLine ∧ k = ((y.length : Int) != 0)
  | .byt y => y.size ≤ sizeLine ∧ k = ((y.size : Int) != 0)
  | .ref p => (∃ xs, SqL K H p xs ∧ k = !xs.isEmpty) ∨ (∃ xs, SqT K H p xs ∧ k = !xs.isEmpty) ∨ ∃ kvs, H p = some (.dK kvs) ∧ k = !kvs.isEmpty
  | _ => False
theorem rE {κ : Type} {kvs : List (κ × V)} {vs : List (κ × Value)} (r : KV kvs vs) : (!vs.isEmpty) = !kvs.isEmpty := by
  cases r <;> rfl
theorem lx {xs : List V} {its : List Value} (r : Vals xs its) : (!its.toArray.isEmpty) = !xs.isEmpty := by
  cases r <;> simp
theorem jZ : (sizeLine : Nat) < 2 ^ 63 := by rw [sizeLine_eq]; decide
theorem BM : BF X (fun x H Q => ∃ k, BQ X.K x H k ∧ Q k H) := by
  intro pins s σ H x v Q I rx h
  obtain ⟨k, e, q⟩ := h
  have hl := jZ
  have hs : sizeLine = 16777216 := sizeLine_eq
  cases x with
  | non =>
    cases rx
    have e' : k = false := e
    subst e'
    exact truthy_none ⟨H, I, q⟩
  | bl b =>
    cases rx
    have e' : k = b := e
    subst e'
    exact wpAny_truthy_bool ⟨H, I, q⟩
  | int i =>
    obtain ⟨t, rfl⟩ := rx
    have e' : k = (i != 0) := e
    subst e'
    exact PySem.P.truthy_int ⟨H, I, q⟩
  | str y =>
    obtain ⟨t, rfl⟩ := rx
    obtain ⟨hy, e'⟩ : y.length ≤ sizeLine ∧ k = ((y.length : Int) != 0) := e
    subst e'
    exact PySem.P.truthy_str (by omega) ⟨H, I.tok _, q⟩
  | byt y =>
    obtain ⟨t, rfl⟩ := rx
    obtain ⟨hy, e'⟩ : y.size ≤ sizeLine ∧ k = ((y.size : Int) != 0) := e
    subst e'
    exact PySem.W.truthy_bytes (by omega) ⟨H, I.tok _, q⟩
  | ref p =>
    cases rx
    have e' : (∃ xs, SqL X.K H p xs ∧ k = !xs.isEmpty) ∨ (∃ xs, SqT X.K H p xs ∧ k = !xs.isEmpty) ∨ ∃ kvs, H p = some (.dK kvs) ∧ k = !kvs.isEmpty := e
    rcases e' with ⟨xs, hx, e'⟩ | ⟨xs, hx, e'⟩ | ⟨kvs, hx, e'⟩
    · subst e'
      obtain ⟨its, r, pl, hz⟩ := I.list hx
      have hlen := r.length
      exact wpAny_truthy_list pl.isList (by simp only [List.size_toArray]; omega) ⟨H, I.tok _, by rw [lx r]; exact q⟩
    · subst e'
      obtain ⟨its, r, pl, hz⟩ := I.tuple hx
      have hlen := r.length
      exact truthy_tuple pl (by simp only [List.size_toArray]; omega) ⟨H, I.tok _, by rw [lx r]; exact q⟩
    · subst e'
      obtain ⟨hz, hS, vs, r, m⟩ : kvs.length ≤ sizeLine ∧ (p == sysModules) = false ∧ ∃ vs, KV kvs vs ∧ s.heap.DictOf (bW X.prog X.w) p vs := I.hok p _ hx
      have hlen : kvs.length = vs.length := Paired.length r
      exact wpAny_truthy_dict hS m (by omega) ⟨H, I.tok _, by rw [rE r]; exact q⟩
  | _ => exact (show False from e).elim
theorem sv : OpR X (binaryOp .Add) (fun x y H Q => ∃ i j, x = .str i ∧ y = .str j ∧ i.length + j.length ≤ sizeLine ∧ Q (.str (i ++ j)) H) := by
  intro pins s σ H x y v u Q I rx ry h
  obtain ⟨i, j, rfl, rfl, hz, q⟩ := h
  obtain ⟨t, rfl⟩ := rx
  obtain ⟨t', rfl⟩ := ry
  exact add_str (fun t' tk => ⟨.str (i ++ j), H, I.tok _, ⟨_, rfl⟩, q⟩) hz
theorem fG {x : V} {us : List Value} (r : Vals [x] us) : ∃ u, us = [u] ∧ RelV x u := by
  cases r with
  | cons r1 r2 => cases r2; exact ⟨_, rfl, r1⟩
theorem tF {x y : V} {us : List Value} (r : Vals [x, y] us) : ∃ u w', us = [u, w'] ∧ RelV x u ∧ RelV y w' := by
  cases r with
  | cons r1 r2 =>
    cases r2 with
    | cons r3 r4 => cases r4; exact ⟨_, _, rfl, r1, r3⟩
theorem ul (hc : X.calm = true) : CallR X (.builtin "max") (fun xs H Q => ∃ i j, xs = [.int i, .int j] ∧ Q (.int (if j > i then j else i)) H) := by
  intro pins s σ H xs us Q I r h
  obtain ⟨i, j, rfl, q⟩ := h
  obtain ⟨u, w', rfl, ⟨t, rfl⟩, ⟨t', rfl⟩⟩ := tF r
  refine max_two_ints (I.ok.hd hc) fun h' tk k => ⟨_, H, I.kept k, ?_, q⟩
  by_cases hj : j > i
  · rw [if_pos hj, if_pos hj]; exact ⟨_, rfl⟩
  · rw [if_neg hj, if_neg hj]; exact ⟨_, rfl⟩
theorem uu (hc : X.calm = true) : CallR X (.builtin "min") (fun xs H Q => ∃ i j, xs = [.int i, .int j] ∧ Q (.int (if j < i then j else i)) H) := by
  intro pins s σ H xs us Q I r h
  obtain ⟨i, j, rfl, q⟩ := h
  obtain ⟨u, w', rfl, ⟨t, rfl⟩, ⟨t', rfl⟩⟩ := tF r
  refine min_two_ints (I.ok.hd hc) fun h' tk k => ⟨_, H, I.kept k, ?_, q⟩
  by_cases hj : j < i
  · rw [if_pos hj, if_pos hj]; exact ⟨_, rfl⟩
  · rw [if_neg hj, if_neg hj]; exact ⟨_, rfl⟩
theorem ug : CallR X (.type "int") (fun xs H Q => (∃ i, xs = [.int i] ∧ Q (.int i) H) ∨ ∃ k, xs = [.bl k] ∧ Q (.int (if k then 1 else 0)) H) := by
  intro pins s σ H xs us Q I r h
  rcases h with ⟨i, rfl, q⟩ | ⟨k, rfl, q⟩
  · obtain ⟨u, rfl, t, rfl⟩ := fG r
    exact call_int_int ⟨.int i, H, I, ⟨_, rfl⟩, q⟩
  · obtain ⟨u, rfl, r1⟩ := fG r
    cases r1
    exact call_int_bool ⟨.int (if k then 1 else 0), H, I.tok _, ⟨_, rfl⟩, q⟩
def BB (K : PySem.W.Frag) (x : V) (H : Hp) (n : Nat) : Prop :=
  match x with
  | .str y => y.length ≤ sizeLine ∧ n = y.length
  | .byt y => y.size ≤ sizeLine ∧ n = y.size
  | .ref p => (∃ xs, SqL K H p xs ∧ n = xs.length) ∨ ∃ xs, SqT K H p xs ∧ n = xs.length
  | _ => False
theorem wT : CallR X (.builtin "len") (fun xs H Q => ∃ x n, xs = [x] ∧ BB X.K x H n ∧ Q (.int n) H) := by
  intro pins s σ H xs us Q I r h
  obtain ⟨x, n, rfl, e, q⟩ := h
  obtain ⟨u, rfl, rx⟩ := fG r
  have hl := jZ
  have hs : sizeLine = 16777216 := sizeLine_eq
  cases x with
  | str y =>
    obtain ⟨t, rfl⟩ := rx
    obtain ⟨hy, e'⟩ : y.length ≤ sizeLine ∧ n = y.length := e
    subst e'
    exact len_str (by omega) ⟨.int _, H, I.tok _, ⟨_, rfl⟩, q⟩
  | byt y =>
    obtain ⟨t, rfl⟩ := rx
    obtain ⟨hy, e'⟩ : y.size ≤ sizeLine ∧ n = y.size := e
    subst e'
    exact PySem.W.len_bytes (by omega) ⟨.int _, H, I.tok _, ⟨_, rfl⟩, q⟩
  | ref p =>
    cases rx
    have e' : (∃ xs, SqL X.K H p xs ∧ n = xs.length) ∨ ∃ xs, SqT X.K H p xs ∧ n = xs.length := e
    rcases e' with ⟨xs, hx, e'⟩ | ⟨xs, hx, e'⟩
    · subst e'
      obtain ⟨its, r', pl, hz⟩ := I.list hx
      have hlen := r'.length
      exact Calls.call_len_list pl.isList (by simp only [List.size_toArray]; omega) ⟨.int xs.length, H, I.tok _, ⟨_, by simp only [List.size_toArray]; rw [hlen]⟩, q⟩
    · subst e'
      obtain ⟨its, r', pl, hz⟩ := I.tuple hx
      have hlen := r'.length
      exact len_tuple pl (by simp only [List.size_toArray]; omega) ⟨.int xs.length, H, I.tok _, ⟨_, by simp only [List.size_toArray]; rw [hlen]⟩, q⟩
  | _ => exact (show False from e).elim
end
end L2
namespace L2
open PySem PySem.Spec PyProof.Rows
structure ObjM (h : Heap) (x dx C : Addr) (mA : Str → Option Value) : Prop where
  obj : h.get? x = some (PySem.W.instObj C dx)
  ns : h.Ns1 dx mA
  ne : dx ≠ x
theorem uK {h : Heap} {dx : Addr} {mA : Str → Option Value} (n : h.Ns1 dx mA) : ∃ od, h.get? dx = some od ∧ ∀ name, PySem.W.lookIn name od = some (mA name) := by
  obtain ⟨o, es, ep, ho, hd, hk, _, hm⟩ := n
  refine ⟨o, ho, fun name => ?_⟩
  have e := hm name
  unfold nsFind findBy at e
  rw [← Array.find?_toList] at e
  unfold PySem.W.lookIn
  rw [hd]
  dsimp only
  split
  · rename_i y q
    rw [q] at e
    exact congrArg some e
  · rename_i q
    rw [q] at e
    have a : es.toList.any (·.refKey) = false := by
      rw [List.any_eq_false]
      intro y hy
      obtain ⟨z, t, hkey⟩ := hk y (Array.mem_toList_iff.mp hy)
      simp [DictEntry.refKey, hkey]
    have a' : ¬ es.toList.any (·.refKey) = true := by rw [a]; exact Bool.false_ne_true
    rw [if_neg a']
    exact congrArg some e
theorem ObjM.look {h : Heap} {x dx C : Addr} {mA : Str → Option Value} (I : ObjM h x dx C mA) : ∃ od, PySem.W.InstAt h x (PySem.W.instObj C dx) C (some od) ∧ ∀ name, PySem.W.lookIn name od = some (mA name) :=
  let ⟨od, ho, hl⟩ := uK I.ns
  ⟨od, ⟨I.obj, rfl, rfl, ho⟩, hl⟩
section
variable {prog : Program} {w : World} {A : Around} {E : Value → Shared → Prop} {s : Shared} {K : PySem.W.Frag} {x dx C f : Addr} {mA : Str → Option Value} {name : Str} {v : Value}
theorem xB {expr : Bool} {Q : Value → Shared → Prop} (X : K.In s.heap) (I : ObjM s.heap x dx C mA) (hg : PySem.W.plainGet K C name = true) (hh : PySem.W.hasDictIn K C = true)
    (ha : PySem.W.findIn K (.ref C) name = some none) (hv : mA name = some v) (hv' : PySem.W.handedIn v = true) (h : Q v { s with toks := s.toks + 1 }) :
    wpAny (model prog w) A (getAttr (.ref x) name expr) Q E s := by
  obtain ⟨od, J, hl⟩ := I.look
  exact PySem.W.get_value X J (PySem.W.plainGet_of hg).1 (PySem.W.findObj_own hh ha rfl (by rw [hl, hv])) hv' h
theorem vd {pl : Sem Bool} {Q : Value × List Value → Shared → Prop} (X : K.In s.heap) (I : ObjM s.heap x dx C mA) (hg : PySem.W.plainGet K C name = true)
    (hf : PySem.W.findIn K (.ref C) name = some (some (.ref f))) (ht : PySem.W.isFn K (.ref f) = true) (hv : mA name = none) (h : Q (.ref f, [.ref x]) s) :
    wpAny (model prog w) A (getMethod (.ref x) name pl) Q E s := by
  obtain ⟨od, J, hl⟩ := I.look
  exact PySem.W.method_fn X J (PySem.W.plainGet_of hg).1 (PySem.W.plainGet_of hg).2 hf (beq_iff_eq.mp ht) (by show (PySem.W.lookIn name od).map (·.isSome) = some false; rw [hl, hv]; rfl) h
theorem yc {ns : List Str} {Q : Unit → Shared → Prop} (X : K.In s.heap) (I : ObjM s.heap x dx C mA)
    (hs : PySem.W.findIn K (.ref C) "__setattr__" = some (some (.builtin "object.__setattr__"))) (hp : PySem.W.plainOver K C = true) (ht : PySem.W.takerIn K C name = some none) (hh : PySem.W.hasDictIn K C = true)
    (hw : PySem.Within mA ns) (hsz : ns.length ≤ sizeLine)
    (h : ∀ h', ObjM h' x dx C (fun y => if y = name then some v else mA y) → Heap.SameBut dx s.heap h' → Q () { s with heap := h', toks := s.toks + 2 }) :
    wpAny (model prog w) A (setAttr (.ref x) name v) Q E s := by
  obtain ⟨od, J, hl⟩ := I.look
  refine PySem.W.set_plain X J hs (PySem.W.osa_open (s := { s with toks := s.toks + 1 }) (r := none) X J hp ht fun b => ?_)
  obtain ⟨cd, hc, hd'⟩ := PySem.W.any_some hh
  have hx : s.heap.get? x = some ⟨.ref C, some dx, .plain, #[]⟩ := I.obj
  refine wpAny_bind (wpAny_pure (wpAny_bind (wpAny_bind (wpAny_loadPart hx (wpAny_bind (PySem.W.Looks.here (s := { s with toks := s.toks + 1 }) (PySem.W.looks_clsIn X hc) ?_))))))
  rw [hd']
  refine wpAny_pure (a := some dx) (wpAny_bind (wpAny_pure (wpAny_bind ?_)))
  refine wpAny_nsSet1 (s := { s with toks := s.toks + 1 }) I.ns fun h' hn2 hs2 => ?_
  obtain ⟨oD, esD, epD, hoD, hdD, hcD⟩ := hn2.count (PySem.Within.cons name v hw)
  refine wpAny_bind (wpAny_lookBehind hoD (by rw [hdD]; exact pastItsLine_dict (Nat.le_trans hcD (by rw [List.length_cons]; omega))) ?_)
  exact wpAny_pure (h _ ⟨(hs2.2 _ (Ne.symm I.ne)).trans I.obj, hn2, I.ne⟩ hs2)
theorem wG {R : Result → Shared → Prop} {vs : List Value} {kw : List (Str × Value)} (X : K.In s.heap) (hm : PySem.W.makesIn K C = true)
    (hi : PySem.W.findIn K (.ref C) "__init__" = some (some (.ref f))) (hf : PySem.W.typeIn K (.ref f) = some (.type "function"))
    (h : codeAny (model prog w) (A.under (.builtin "type.__call__" ⟨.ref C :: vs, kw⟩)) (.call (.ref f) ⟨.ref (s.heap.objs.size + 1) :: vs, kw⟩) (PySem.W.InitBack (s.heap.objs.size + 1) R)
      { s with heap := (s.heap.push PySem.W.emptyDict).push (PySem.W.instObj C s.heap.objs.size) }) :
    codeAny (model prog w) A (.call (.ref C) ⟨vs, kw⟩) R s := by
  obtain ⟨hh, g, d, t, os⟩ := s
  exact PySem.W.make_core (PySem.W.makes_of X hm) (PySem.W.looks_findIn X hi) (fun self => PySem.W.bind_fn X self hf) (.inl rfl) h
end
def cW (f : Str) (v : V) : List (Str × V) → List (Str × V)
  | [] => [(f, v)]
  | (g, x) :: r => if g = f then (g, v) :: r else (g, x) :: cW f v r
theorem jH (f g : Str) (v : V) : ∀ fs : List (Str × V), (cW f v fs).lookup g = if g = f then some v else fs.lookup g
  | [] => by
    show List.lookup g [(f, v)] = _
    by_cases h : g = f
    · have hb : (g == f) = true := beq_iff_eq.mpr h
      simp only [List.lookup, hb, if_pos h]
    · have hb : (g == f) = false := beq_eq_false_iff_ne.mpr h
      simp only [List.lookup, hb, if_neg h]
  | (k, x) :: r => by
    have ih := jH f g v r
    rw [show cW f v ((k, x) :: r) = (if k = f then (k, v) :: r else (k, x) :: cW f v r) from rfl]
    by_cases hk : k = f
    · rw [if_pos hk]
      by_cases h : g = k
      · have hb : (g == k) = true := beq_iff_eq.mpr h
        simp only [List.lookup, hb, if_pos (h.trans hk)]
      · have hb : (g == k) = false := beq_eq_false_iff_ne.mpr h
        simp only [List.lookup, hb, if_neg (fun e : g = f => h (e.trans hk.symm))]
    · rw [if_neg hk]
      by_cases h : g = k
      · have hb : (g == k) = true := beq_iff_eq.mpr h
        simp only [List.lookup, hb, if_neg (fun e : g = f => hk (h.symm.trans e))]
      · have hb : (g == k) = false := beq_eq_false_iff_ne.mpr h
        simp only [List.lookup, hb]
        exact ih
theorem i9 (f : Str) (v : V) : ∀ fs : List (Str × V), f ∈ (cW f v fs).map (·.1) ∧ ∀ g, g ∈ fs.map (·.1) → g ∈ (cW f v fs).map (·.1)
  | [] => ⟨by simp [cW], fun g h => by simp at h⟩
  | (k, x) :: r => by
    obtain ⟨i1, i2⟩ := i9 f v r
    rw [show cW f v ((k, x) :: r) = (if k = f then (k, v) :: r else (k, x) :: cW f v r) from rfl]
    by_cases hk : k = f
    · rw [if_pos hk]
      subst hk
      exact ⟨by simp, fun g h => by simpa using h⟩
    · rw [if_neg hk]
      refine ⟨?_, fun g h => ?_⟩
      · rw [List.map_cons]
        exact List.mem_cons_of_mem _ i1
      · rw [List.map_cons] at h ⊢
        rcases List.mem_cons.mp h with e | e
        · exact List.mem_cons.mpr (.inl e)
        · exact List.mem_cons_of_mem _ (i2 g e)
theorem jF (f : Str) (v : V) : ∀ fs : List (Str × V), (cW f v fs).length ≤ fs.length + 1
  | [] => by simp [cW]
  | (k, x) :: r => by
    have ih := jF f v r
    rw [show cW f v ((k, x) :: r) = (if k = f then (k, v) :: r else (k, x) :: cW f v r) from rfl]
    by_cases hk : k = f
    · rw [if_pos hk, List.length_cons, List.length_cons]; omega
    · rw [if_neg hk, List.length_cons, List.length_cons]; omega
theorem RelO.some_of {v : V} {o : Option Value} (r : RelO (some v) o) : ∃ u, o = some u ∧ RelV v u := by
  cases o with
  | none => exact (show False from r).elim
  | some u => exact ⟨u, rfl, r⟩
theorem RelO.none_of {o : Option Value} (r : RelO none o) : o = none := by
  cases o with
  | none => rfl
  | some u => exact (show False from r).elim
theorem uR {v : V} {u : Value} (r : RelV v u) : PySem.W.handedIn u = true := by
  cases v with
  | non => cases (show u = Value.none from r); rfl
  | bl b => cases (show u = Value.bool b from r); rfl
  | int i => obtain ⟨t, e⟩ := (show ∃ t, u = Value.int i t from r); cases e; rfl
  | str x => obtain ⟨t, e⟩ := (show ∃ t, u = Value.str x t from r); cases e; rfl
  | byt b => obtain ⟨t, e⟩ := (show ∃ t, u = Value.bytes b t from r); cases e; rfl
  | flt b => obtain ⟨t, e⟩ := (show ∃ t, u = Value.float b t from r); cases e; rfl
  | ref a => cases (show u = Value.ref a from r); rfl
  | ty n => cases (show u = Value.type n from r); rfl
section
variable {P : Program} {w : World} {H H' : Hp} {h h' : Heap} {a C dx : Addr} {fs fs' : List (Str × V)}
theorem jS (hok : HOk P w H h) (e : H a = some (.ins C dx fs)) : ∃ mA, ObjM h a dx C mA ∧ (∀ f, RelO (fs.lookup f) (mA f)) ∧ PySem.Within mA (fs.map (·.1)) ∧ fs.length ≤ 1000 ∧ H dx = some (.own a) := by
  obtain ⟨d, z, ne, ob, mA, n, r, q⟩ := (show ObjOk P w H h a (.ins C dx fs) from hok a _ e)
  exact ⟨mA, ⟨ob, n, ne⟩, r, q, z, d⟩
end
structure Cls (K : PySem.W.Frag) (C : Addr) : Prop where
  pg : PySem.W.plainGet K C Str.empty = true
  hd : PySem.W.hasDictIn K C = true
  po : PySem.W.plainOver K C = true
  sa : PySem.W.findIn K (.ref C) "__setattr__" = some (some (.builtin "object.__setattr__"))
theorem Cls.get {K : PySem.W.Frag} {C : Addr} (c : Cls K C) (f : Str) : PySem.W.plainGet K C f = true := c.pg
def NoAttr (K : PySem.W.Frag) (C : Addr) (f : Str) : Prop := PySem.W.findIn K (.ref C) f = some none
theorem NoAttr.taker {K : PySem.W.Frag} {C : Addr} {f : Str} (n : NoAttr K C f) : PySem.W.takerIn K C f = some none := by
  unfold PySem.W.takerIn
  rw [show PySem.W.findIn K (.ref C) f = some none from n]
  rfl
structure h7 (K : PySem.W.Frag) (C : Addr) (m : Str) (f : Addr) : Prop where
  at_ : PySem.W.findIn K (.ref C) m = some (some (.ref f))
  fn : PySem.W.isFn K (.ref f) = true
  kp : PySem.W.keepIn K (.ref f) = true
section
variable {X : Cx} {pins : List (Addr × Obj)} {σ : St} {H : Hp} {s : Shared} {a C dx : Addr} {fs : List (Str × V)} {f : Str} {v : V} {A : Around} {E : Value → Shared → Prop}
theorem ra {b : Bool} {Q : Value → Shared → Prop} (I : Inv X pins σ H s) (e : H a = some (.ins C dx fs)) (c : Cls X.K C) (n : NoAttr X.K C f) (l : fs.lookup f = some v)
    (h : ∀ u s', Inv X pins σ H s' → RelV v u → Q u s') : wpAny (model X.prog X.w) A (getAttr (.ref a) f b) Q E s := by
  obtain ⟨mA, O, r, _, _, _⟩ := jS I.hok e
  obtain ⟨u, hu, ru⟩ := RelO.some_of (v := v) (o := mA f) (by rw [← l]; exact r f)
  exact xB I.kIn O (c.get f) c.hd n hu (uR ru) (h u _ (I.tok _) ru)
theorem kJ {m : Str} {g : Addr} {pl : Sem Bool} {Q : Value × List Value → Shared → Prop} (I : Inv X pins σ H s) (e : H a = some (.ins C dx fs)) (c : Cls X.K C) (k : h7 X.K C m g) (l : fs.lookup m = none)
    (h : Q (.ref g, [.ref a]) s) : wpAny (model X.prog X.w) A (getMethod (.ref a) m pl) Q E s := by
  obtain ⟨mA, O, r, _, _, _⟩ := jS I.hok e
  have hn : mA m = none := RelO.none_of (by rw [← l]; exact r m)
  exact vd I.kIn O (c.get m) k.at_ k.fn hn h
theorem rG {y : V} {u : Value} {Q : Unit → Shared → Prop} (I : Inv X pins σ H s) (e : H a = some (.ins C dx fs)) (c : Cls X.K C) (n : NoAttr X.K C f) (hl : fs.length < 1000) (ry : RelV y u)
    (h : ∀ s', Inv X pins σ (upd H a (.ins C dx (cW f y fs))) s' → Q () s') : wpAny (model X.prog X.w) A (setAttr (.ref a) f u) Q E s := by
  obtain ⟨mA, O, r, wi, _, ho⟩ := jS I.hok e
  have hz : (fs.map (·.1)).length ≤ sizeLine := by rw [List.length_map, sizeLine_eq]; omega
  refine yc I.kIn O c.sa c.po n.taker c.hd wi hz fun h' O' sb => h _ ?_
  have hd : ∃ o, h'.get? dx = some o := let ⟨o, _, _, e', _⟩ := O'.ns; ⟨o, e'⟩
  refine I.write (x := a) (e := dx) (by rw [e]; exact True.intro) (.inr ho) (fun b q hb z => (sb.2 b hb).trans z) hd ?_
  refine ⟨by rw [ap O.ne]; exact ho, ?_, O.ne, O'.obj, _, O'.ns, fun g => ?_, fun g hg => ?_⟩
  · have := jF f y fs; omega
  · show RelO ((cW f y fs).lookup g) (if g = f then some u else mA g)
    rw [jH]
    by_cases q : g = f
    · rw [if_pos q, if_pos q]; exact ry
    · rw [if_neg q, if_neg q]; exact r g
  · by_cases q : g = f
    · rw [q]; exact (i9 f y fs).1
    · refine (i9 f y fs).2 g (wi g fun z => hg ?_)
      show (if g = f then some u else mA g) = none
      rw [if_neg q]; exact z
theorem Inv.made (I : Inv X pins σ H s) : Inv X pins σ (upd (upd H s.heap.objs.size (.own (s.heap.objs.size + 1))) (s.heap.objs.size + 1) (.ins C s.heap.objs.size []))
    { s with heap := (s.heap.push PySem.W.emptyDict).push (PySem.W.instObj C s.heap.objs.size) } := by
  have e1 : (s.heap.push PySem.W.emptyDict).get? s.heap.objs.size = some PySem.W.emptyDict := Heap.get?_push_size s.heap rfl
  have e2 : ((s.heap.push PySem.W.emptyDict).push (PySem.W.instObj C s.heap.objs.size)).get? (s.heap.objs.size + 1) = some (PySem.W.instObj C s.heap.objs.size) := by
    have := Heap.get?_push_size (s.heap.push PySem.W.emptyDict) (o := PySem.W.instObj C s.heap.objs.size) rfl
    rwa [Heap.size_push] at this
  have e3 : (s.heap.push PySem.W.emptyDict).Ns s.heap.objs.size (fun _ => none) := ⟨PySem.W.emptyDict, #[], _, e1, rfl, (fun e he => absurd he (by simp)), fun _ => rfl⟩
  have I1 := I.laid (a := s.heap.objs.size) (o := .own (s.heap.objs.size + 1)) (h' := s.heap.push PySem.W.emptyDict) (t' := s.toks) (fun b u q => Heap.get?_push_of_some _ q) (Nat.le_refl _) ⟨_, e1⟩
  refine I1.laid (a := s.heap.objs.size + 1) (o := .ins C s.heap.objs.size []) (t' := s.toks) (fun b u q => Heap.get?_push_of_some _ q) (Nat.le_of_eq (Heap.size_push _ _)) ?_
  have ne : s.heap.objs.size ≠ s.heap.objs.size + 1 := Nat.ne_of_lt (Nat.lt_succ_self _)
  refine ⟨by rw [ap ne, ad], Nat.zero_le _, ne, e2, fun _ => none, (Heap.Ns1.of_empty e3).at fun o q => Heap.get?_push_of_some _ q, fun _ => True.intro, fun y hy => absurd rfl hy⟩
theorem xt {prog : Program} {w : World} {env : Env} {e : Expr} {f : Str} {pos : Pos} {s : Shared} {Q : Value → Shared → Prop} (hb : attributeBase e f env (eval e env) = eval e env)
    (h : wpAny (model prog w) A (eval e env) (fun o s₁ => wpAny (model prog w) A (getAttr o f true) Q E s₁) E s) : wpAny (model prog w) A (eval (.Attribute e f pos) env) Q E s :=
  Attribute_any_ h (by rw [arm_eval_Attribute, hb])
end
section
variable {X : Cx} {o e value : Expr} {f : Str} {pos pos' tpos : Pos} {ta tv : TE}
end
section
variable {X : Cx} {pins : List (Addr × Obj)} {σ : St} {H : Hp} {s : Shared} {A : Around} {E : Value → Shared → Prop} {Q : Value → Shared → Prop} {c : Value} {b : Bool}
inductive hE (K : PySem.W.Frag) (H : Hp) : V → Value → Prop where
  | non : hE K H .non (.type "NoneType")
  | bl (x : Bool) : hE K H (.bl x) (.type "bool")
  | int (i : Int) : hE K H (.int i) (.type "int")
  | str (x : Str) : hE K H (.str x) (.type "str")
  | flt (x : UInt64) : hE K H (.flt x) (.type "float")
  | lst {a : Addr} {xs : List V} (e : H a = some (.lst xs)) : hE K H (.ref a) (.type "list")
  | frz {a : Addr} {o : Obj} {xs : List V} (e : H a = some (.frz o (.lst xs))) : hE K H (.ref a) (.type "list")
  | tup {a : Addr} {xs : List V} (e : H a = some (.tup xs)) : hE K H (.ref a) (.type "tuple")
  | dK {a : Addr} {kvs : List (Key × V)} (e : H a = some (.dK kvs)) : hE K H (.ref a) (.type "dict")
  | dT {a : Addr} {kvs : List (List Key × V)} (e : H a = some (.dT kvs)) : hE K H (.ref a) (.type "dict")
  | ins {a C dx : Addr} {fs : List (Str × V)} (e : H a = some (.ins C dx fs)) (cl : Cls K C) (ha : PySem.W.findIn K (.ref C) "__class__" = some (some (.builtin "object.__class__")))
      (hn : PySem.W.specialIn K (.builtin "object.__class__") "__get__" = some (some (.builtin "getset_descriptor.__get__"))) (htk : PySem.W.takesIn K (.builtin "object.__class__") = some true)
      (hm : PySem.W.mroIn K C (.type "object") = some true) : hE K H (.ref a) (.ref C)
theorem uH {x : V} {u t : Value} (I : Inv X pins σ H s) (rx : RelV x u) (ty : hE X.K H x t) (e : PySem.W.kitOne X.K t c = some b) (h : ∀ tk, Q (.bool b) { s with toks := tk }) :
    wpAny (model X.prog X.w) A (call (.builtin "isinstance") [u, c]) Q E s := by
  cases ty with
  | non => cases (show u = Value.none from rx); exact PySem.W.kia_one PySem.W.kitx_none I.kIn True.intro e (fun z => nomatch z) h
  | bl y => cases (show u = Value.bool y from rx); exact PySem.W.kia_one PySem.W.kitx_bool I.kIn True.intro e (fun z => nomatch z) h
  | int i => obtain ⟨t, q⟩ := (show ∃ t, u = Value.int i t from rx); cases q; exact PySem.W.kia_one PySem.W.kitx_int I.kIn True.intro e (fun z => nomatch z) h
  | str y => obtain ⟨t, q⟩ := (show ∃ t, u = Value.str y t from rx); cases q; exact PySem.W.kia_one PySem.W.kitx_str I.kIn True.intro e (fun z => nomatch z) h
  | flt y => obtain ⟨t, q⟩ := (show ∃ t, u = Value.float y t from rx); cases q; exact PySem.W.kia_one PySem.W.kitx_float I.kIn True.intro e (fun z => nomatch z) h
  | @lst a xs ea =>
    cases (show u = Value.ref a from rx)
    obtain ⟨_, _, n, _, h1⟩ := (show ObjOk X.prog X.w H s.heap a (.lst xs) from I.hok a _ ea)
    exact PySem.W.kia_one PySem.W.kitx_list I.kIn ⟨_, h1, rfl⟩ e (fun z => nomatch z) h
  | @frz a ob xs ea =>
    cases (show u = Value.ref a from rx)
    obtain ⟨_, _, _, n, _, h1⟩ := (show ObjOk X.prog X.w H s.heap a (.frz ob (.lst xs)) from I.hok a _ ea)
    exact PySem.W.kia_one PySem.W.kitx_list I.kIn ⟨_, h1, rfl⟩ e (fun z => nomatch z) h
  | @tup a xs ea =>
    cases (show u = Value.ref a from rx)
    obtain ⟨_, _, _, p⟩ := (show ObjOk X.prog X.w H s.heap a (.tup xs) from I.hok a _ ea)
    obtain ⟨o, h1, h2, _⟩ := p
    exact PySem.W.kia_one PySem.W.kitx_tuple I.kIn ⟨o, h1, h2⟩ e (fun z => nomatch z) h
  | @dK a kvs ea =>
    cases (show u = Value.ref a from rx)
    obtain ⟨_, _, vs, _, p⟩ := (show ObjOk X.prog X.w H s.heap a (.dK kvs) from I.hok a _ ea)
    obtain ⟨o, es, ep, h1, h2, _⟩ := p
    exact PySem.W.kia_one PySem.W.kitx_dict I.kIn ⟨o, h1, h2.1⟩ e (fun z => nomatch z) h
  | @dT a kvs ea =>
    cases (show u = Value.ref a from rx)
    obtain ⟨_, _, xs, _, o, es, ep, h1, h2, _⟩ := (show ObjOk X.prog X.w H s.heap a (.dT kvs) from I.hok a _ ea)
    exact PySem.W.kia_one PySem.W.kitx_dict I.kIn ⟨o, h1, h2.1⟩ e (fun z => nomatch z) h
  | @ins a C dx fs ea cl ha hn htk hm =>
    cases (show u = Value.ref a from rx)
    obtain ⟨mA, O, _⟩ := jS I.hok ea
    obtain ⟨od, J, _⟩ := O.look
    exact PySem.W.kia_one (PySem.W.kitx_own (cl.get _) cl.hd ha hn htk hm) I.kIn J e (fun z => nomatch z) h
end
end L2
namespace L2
open PySem PySem.Spec PyProof.Rows
structure Room (k : Nat) (A : Around) : Prop where
  hd : A.handled = none
  dp : A.depth + 3 * k + 5 < recursionLimit
  un : A.units + 16 * k + 200 < cLine
theorem Room.mono {j k : Nat} {A : Around} (r : Room k A) (h : j ≤ k) : Room j A := ⟨r.hd, by have := r.dp; omega, by have := r.un; omega⟩
theorem Room.deeper {k : Nat} {A : Around} (r : Room (k + 1) A) (env : Env) : Room k (A.deeper env) :=
  ⟨r.hd, by have := r.dp; show A.depth + 1 + 3 * k + 5 < _; omega, by have := r.un; show A.units + 3 + 16 * k + 200 < _; omega⟩
theorem ri {A : Around} {C : Addr} {us : List Value} {kw : List (Str × Value)} : (A.under (.builtin "type.__call__" ⟨.ref C :: us, kw⟩)).depth = A.depth + 1 := by
  first | rfl | simp [Around.under, Code.weight, Code.isCreation, Code.isGuard, Code.isCaller, Code.frames, Code.isFrame, guardIds]
theorem rM {A : Around} {C : Addr} {us : List Value} {kw : List (Str × Value)} : (A.under (.builtin "type.__call__" ⟨.ref C :: us, kw⟩)).units = A.units + 1 := by
  first | rfl | simp [Around.under, Code.cUnits, Code.frames, Code.isFrame]
theorem Room.make {k : Nat} {A : Around} (r : Room (k + 1) A) (C : Addr) (us : List Value) (kw : List (Str × Value)) : Room k (A.under (.builtin "type.__call__" ⟨.ref C :: us, kw⟩)) :=
  ⟨r.hd, by have := r.dp; rw [ri]; omega, by have := r.un; rw [rM]; omega⟩
theorem Room.depth {k : Nat} {A : Around} (r : Room k A) : A.depth < recursionLimit := by have := r.dp; omega
def vU : TA := fun _ H Q => Q [] H
def vI (ta : TE) (tr : TA) : TA := fun σ H Q => ta σ H fun x H1 => tr σ H1 fun xs H2 => Q (x :: xs) H2
section
variable {X : Cx} {e : Expr} {es : List Expr} {te : TE} {t : TA} {pos : Pos}
theorem zl : PA X [] vU := fun _ _ _ _ H Q I h => Calls.spliced_nil ⟨[], H, I, .nil, h⟩
theorem yh (ha : PE X e te) (hr : PA X es t) (hs : starEach (e :: es) X.env = (false, eval e X.env) :: starEach es X.env := by rfl) : PA X (e :: es) (vI te t) := by
  intro pos pins s σ H Q I h
  rw [hs]
  show wpAny _ _ (spliced ((false, eval e X.env) :: backTo pos (starEach es X.env))) _ _ s
  refine Calls.spliced_cons (thn (ha pins s σ H _ I h) fun u s1 ⟨x, H1, I1, r1, q1⟩ => ?_)
  exact thn (hr pos pins s1 σ H1 _ I1 q1) fun us s2 ⟨xs, H2, I2, r2, q2⟩ => ⟨x :: xs, H2, I2, .cons r1 r2, q2⟩
def A3 (t : TA) : TE := fun σ H Q => t σ H fun xs H1 => xs.length ≤ sizeLine ∧ ∀ p, H1 p = none → Q (.ref p) (upd H1 p (.tup xs))
def A_ (t : TA) : TE := fun σ H Q => t σ H fun xs H1 => xs.length ≤ sizeLine ∧ ∀ p, H1 p = none → Q (.ref p) (upd H1 p (.lst xs))
theorem cV {x1} (h : PA X es t) : PE X (.Tuple es x1 pos) (A3 t) := by
  intro pins s σ H Q I hq
  refine wpAny_Tuple_spliced (thn (h pos pins s σ H _ I hq) fun us s1 ⟨xs, H1, I1, r, z, q⟩ => ⟨by rw [← r.length]; exact z, ?_⟩)
  have hf : H1 s1.heap.objs.size = none := I1.hok.fresh (Nat.le_refl _)
  refine ⟨.ref s1.heap.objs.size, upd H1 s1.heap.objs.size (.tup xs), I1.laid (t' := s1.toks) (fun b u e => Heap.get?_push_of_some _ e) (Nat.le_refl _) ?_, rfl, q _ hf⟩
  exact ⟨z, us, r, ⟨_, Heap.get?_push_size _ rfl, rfl, _, rfl⟩⟩
theorem cS (h : PA X es t) : PE X (.List es pos) (A_ t) := by
  intro pins s σ H Q I hq
  refine wpAny_List_spliced (thn (h pos pins s σ H _ I hq) fun us s1 ⟨xs, H1, I1, r, z, q⟩ => ⟨by rw [← r.length]; exact z, ?_⟩)
  have hf : H1 s1.heap.objs.size = none := I1.hok.fresh (Nat.le_refl _)
  refine ⟨.ref s1.heap.objs.size, upd H1 s1.heap.objs.size (.lst xs), I1.laid (t' := s1.toks) (fun b u e => Heap.get?_push_of_some _ e) (Nat.le_refl _) ?_, rfl, q _ hf⟩
  exact ⟨z, us, 0, r, Heap.get?_push_size _ rfl⟩
end
abbrev Sp := List V → Hp → VK → XK → Prop
abbrev CXT := List Env → Hp → Shared → XK → Value → Shared → Prop
structure Env0 (P : Program) (w : World) (K : PySem.W.Frag) (mg : Str → Option Value) (base : Heap) (A : Around) (outer : List Env) (s : Shared) (H : Hp) : Prop where
  frames : A.frames = some outer
  mod : Mod K mg base
  bs : ∀ b o, base.get? b = some o → s.heap.get? b = some o ∧ H b = none
  bsz : base.objs.size ≤ s.heap.objs.size
  funs : s.heap.FunFrames base outer
  frf : ∀ b ∈ frs outer, H b = none
  hok : HOk P w H s.heap
  bare : AllBare s.gens
def CE (outer : List Env) (P : Program) (w : World) (H : Hp) (s : Shared) (Q : VK) (u : Value) (s' : Shared) : Prop :=
  ∃ v H', s'.os = s.os ∧ AllBare s'.gens ∧ Un (frs outer) [] H H' s.heap s'.heap ∧ HOk P w H' s'.heap ∧ RelV v u ∧ Q v H'
def CR (CX : CXT) (outer : List Env) (P : Program) (w : World) (H : Hp) (s : Shared) (Q : VK) (E : XK) (r : Result) (s' : Shared) : Prop :=
  match r with
  | .ok (.ret u) => CE outer P w H s Q u s'
  | .ok _ => False
  | .error e => CX outer H s E e s'
structure bt (P : Program) (w : World) (K : PySem.W.Frag) (mg : Str → Option Value) (base : Heap) (CX : CXT) (k : Nat) (f : Addr) (fd : FuncData) (ps : List Str) (sp : Sp) : Prop where
  len : ∀ vs H Q E, sp vs H Q E → vs.length = ps.length
  run : ∀ (A : Around) (outer : List Env) (s : Shared) (H : Hp) (args : Args) (us : List Value) (vs : List V) (Q : VK) (E : XK), Room k A → Env0 P w K mg base A outer s H → BindsTo s fd args (ps.zip us) → Vals vs us → sp vs H Q E →
    codeAny (model P w) A (.call (.ref f) args) (CR CX outer P w H s Q E) s
theorem Env0.make {P : Program} {w : World} {K : PySem.W.Frag} {mg : Str → Option Value} {base : Heap} {A : Around} {outer : List Env} {s : Shared} {H : Hp} (e : Env0 P w K mg base A outer s H) (C : Addr) (us : List Value) (kw : List (Str × Value)) :
    Env0 P w K mg base (A.under (.builtin "type.__call__" ⟨.ref C :: us, kw⟩)) outer s H := ⟨by first | exact e.frames | (simpa [Around.under, Code.envs, Code.isFrame, pushEnvs] using e.frames), e.mod, e.bs, e.bsz, e.funs, e.frf, e.hok, e.bare⟩
section
variable {X : Cx} {pins : List (Addr × Obj)} {σ : St} {H : Hp} {s s' : Shared}
theorem Inv.env0 (I : Inv X pins σ H s) : Env0 X.prog X.w X.K X.mg X.base X.A X.stack s H :=
  ⟨I.ok.frames, I.ok.mod, I.bs, Nat.le_trans I.ok.bsz I.sz, I.stack, I.stkFree, I.hok, I.bare⟩
theorem Inv.after {Q : VK} {u : Value} (I : Inv X pins σ H s) (h : CE X.stack X.prog X.w H s Q u s') : EP X pins σ Q u s' := by
  obtain ⟨v, H', os, bare, un, hok, r, q⟩ := h
  obtain ⟨hh, g, d, t, os'⟩ := s'
  obtain rfl : os' = s.os := os
  exact ⟨v, H', I.call (h' := hh) (g' := g) (d' := d) (t' := t) (ch := []) un hok bare (fun b z => absurd z (by simp)), r, q⟩
end
def Binds (K : PySem.W.Frag) (fd : FuncData) (ps : List Str) (ds : List Value) : Prop :=
  ∀ (s : Shared) (us : List Value), K.In s.heap → (us ++ ds).length = ps.length → BindsTo s fd ⟨us, []⟩ (ps.zip (us ++ ds))
theorem Binds.all {K : PySem.W.Frag} {fd : FuncData} {ps : List Str} (h : ∀ us : List Value, us.length = ps.length → bindArgs fd ⟨us, []⟩ = pure (ps.zip us)) : Binds K fd ps [] := fun s us _ hl => by
  rw [List.append_nil] at hl ⊢
  exact .of_eq (h us hl)
section
variable {X : Cx} {CX : CXT} {k : Nat} {f C : Addr} {fd : FuncData} {ps : List Str} {sp : Sp} {dvs : List V} {ds : List Value} {E : XK} {x m : Str} {p pos apos : Pos} {e o : Expr} {es : List Expr} {ta : TE} {t : TA}
structure Mk (K : PySem.W.Frag) (C f : Addr) : Prop where
  makes : PySem.W.makesIn K C = true
  init : PySem.W.findIn K (.ref C) "__init__" = some (some (.ref f))
  fn : PySem.W.isFn K (.ref f) = true
  kp : PySem.W.keepIn K (.ref C) = true
end
section
variable {X : Cx} {CX : CXT} {k : Nat} {f C : Addr} {fd : FuncData} {ps ks : List Str} {sp : Sp} {E : XK} {x m : Str} {p pos apos kpos : Pos} {e o : Expr} {es : List Expr} {kws : List Keyword} {te ta : TE} {t tk : TA} {nm : Option Str}
variable {g : List Value → List Value → List Value} {gV : List V → List V → List V}
end
structure az (N P : List Str) (sc : Scope) : Prop where
  kind : sc.kind = .function
  co : sc.isCoroutine = false
  gen : sc.isGenerator = false
  nd : N.Nodup
  pre : N.take P.length = P
  par : ∀ x ∈ P, sc.names.lookup x = some .local ∨ sc.names.lookup x = some .cell
  nofree : ∀ y ∈ sc.names, y.2 ≠ .free
theorem mX {kindOf : Str → Option NameKind} {x : Str} : ∀ {binds : List (Str × Value)} {m : Str → Option Value}, (∀ v, (x, v) ∉ binds) → bindL kindOf binds m x = m x
  | [], _, _ => rfl
  | (n, v) :: r, m, h => by
    unfold bindL
    rw [mX fun w hw => h w (List.mem_cons_of_mem _ hw)]
    split
    · have : x ≠ n := by rintro rfl; exact h v List.mem_cons_self
      simp [this]
    · rfl
theorem m8 {kindOf : Str → Option NameKind} {x : Str} : ∀ {binds : List (Str × Value)} {m : Str → Option Value}, (∀ v, (x, v) ∉ binds) → bindC kindOf binds m x = m x
  | [], _, _ => rfl
  | (n, v) :: r, m, h => by
    unfold bindC
    rw [m8 fun w hw => h w (List.mem_cons_of_mem _ hw)]
    split
    · rfl
    · have : x ≠ n := by rintro rfl; exact h v List.mem_cons_self
      simp [this]
theorem mo {kindOf : Str → Option NameKind} {x : Str} {v : Value} : ∀ {P : List Str} {vs : List Value} {i : Nat} {m : Str → Option Value}, P.Nodup → P[i]? = some x → vs[i]? = some v → kindOf x = some .local →
    bindL kindOf (P.zip vs) m x = some v
  | [], _, _, _, _, h, _, _ => by simp at h
  | _ :: _, [], _, _, _, _, h, _ => by simp at h
  | p :: P, w :: vs, 0, m, nd, h1, h2, hk => by
    simp at h1 h2; subst h1; subst h2
    show bindL kindOf ((p, w) :: P.zip vs) m p = _
    unfold bindL
    rw [mX fun v hv => (List.nodup_cons.mp nd).1 (List.of_mem_zip hv).1, if_pos hk]
    simp
  | p :: P, w :: vs, i + 1, m, nd, h1, h2, hk => by
    show bindL kindOf ((p, w) :: P.zip vs) m x = _
    unfold bindL
    exact mo (i := i) (List.nodup_cons.mp nd).2 (by simpa using h1) (by simpa using h2) hk
theorem mU {kindOf : Str → Option NameKind} {x : Str} {v : Value} : ∀ {P : List Str} {vs : List Value} {i : Nat} {m : Str → Option Value}, P.Nodup → P[i]? = some x → vs[i]? = some v → kindOf x ≠ some .local →
    bindC kindOf (P.zip vs) m x = some v
  | [], _, _, _, _, h, _, _ => by simp at h
  | _ :: _, [], _, _, _, _, h, _ => by simp at h
  | p :: P, w :: vs, 0, m, nd, h1, h2, hk => by
    simp at h1 h2; subst h1; subst h2
    show bindC kindOf ((p, w) :: P.zip vs) m p = _
    unfold bindC
    rw [m8 fun v hv => (List.nodup_cons.mp nd).1 (List.of_mem_zip hv).1, if_neg hk]
    simp
  | p :: P, w :: vs, i + 1, m, nd, h1, h2, hk => by
    show bindC kindOf ((p, w) :: P.zip vs) m x = _
    unfold bindC
    exact mU (i := i) (List.nodup_cons.mp nd).2 (by simpa using h1) (by simpa using h2) hk
def fL (N : List Str) (vs : List V) : St := vs.map some ++ List.replicate (N.length - vs.length) none
def cL (CX : CXT) (P : Program) (w : World) (K : PySem.W.Frag) (mg : Str → Option Value) (base : Heap) (N : List Str) (qual : Str) (scope : Scope) (f : Addr) (cd : Value) (A : Around) (outer : List Env) (s : Shared) (H : Hp) (E : XK) : Cx where
  prog := P
  w := w
  K := K
  mg := mg
  base := base
  A := A.deeper (envOfC qual scope s.heap.objs.size f cd)
  N := N
  s₀ := s
  H₀ := H
  env := envOfC qual scope s.heap.objs.size f cd
  outer := outer
  stack := envOfC qual scope s.heap.objs.size f cd :: outer
  ex := []
  calm := true
  fn := fun _ => true
  pn := []
  xe := fun e s' => wpAny (model P w) (A.deeper (envOfC qual scope s.heap.objs.size f cd)) (leaving (envOfC qual scope s.heap.objs.size f cd) e) (fun _ s'' => CX outer H s E e s'') (fun e' s'' => CX outer H s E e' s'') s'
theorem qz {sc : Scope} {n : Nat} {x : Str} (h : sc.names.lookup x = some .cell) : ∃ c, (cellsFrom n sc.names []).lookup x = some c := by
  have q := PySem.W.cellsFrom_some sc.names n [] (.inl h)
  exact Option.isSome_iff_exists.mp q
theorem uU {CX : CXT} {P : Program} {w : World} {K : PySem.W.Frag} {mg : Str → Option Value} {base : Heap} {N ps : List Str} {qual : Str} {scope : Scope} {f : Addr} {cd : Value} {A : Around} {outer : List Env} {s s1 : Shared} {H : Hp} {E : XK} {us : List Value} {vs : List V}
    (S : az N ps scope) (hd : A.handled = none) (e0 : Env0 P w K mg base A outer s H) (hl : vs.length = ps.length) (r : Vals vs us)
    (x : InCallC s s.heap.objs.size (bindL (envOfC qual scope s.heap.objs.size f cd).kindOf (ps.zip us) fun _ => none) (cellsFrom (s.heap.objs.size + 1) scope.names []) (bindC (envOfC qual scope s.heap.objs.size f cd).kindOf (ps.zip us) fun _ => none) s1) :
    Inv (cL CX P w K mg base N qual scope f cd A outer s H E) [] (fL N vs) H s1 := by
  have hpl : ps.length ≤ N.length := by have := congrArg List.length S.pre; rw [List.length_take] at this; omega
  obtain ⟨h1, tk, rfl, hk⟩ := x.done
  have noA : ∀ b : Addr, b ∉ (cL CX P w K mg base N qual scope f cd A outer s H E).ex := fun b z => absurd (show b ∈ ([] : List Addr) from z) (by simp)
  refine ⟨⟨e0.mod, S.kind, rfl, rfl, Nat.le_refl _, fun y z c h1 h2 => ?_, fun y hy => ?_, fun y c _ h => ?_, fun _ => hd, Around.frames_deeper e0.frames, .inr ⟨rfl, rfl⟩, fun b z => absurd z (noA b), e0.bs, e0.bsz, fun b _ _ => noA b, fun b z => absurd z (noA b), e0.funs, e0.frf⟩,
    rfl, e0.bare, Un.kept hk, ⟨_, x.toInCall.ns, fun i y v h1 h2 h3 => ?_⟩, fun y c h => ⟨_, x.cell y c h⟩, e0.hok.fresh (Nat.le_refl _), fun y c h => ?_, fun p hp => absurd (show p ∈ ([] : List (Addr × Obj)) from hp) (by simp), e0.hok.kept hk, ?_⟩
  · exact name_of_addr x.apart (PySem.mem_of_lookup h1) (PySem.mem_of_lookup h2)
  · have hy : scope.names.lookup y = some .cell ∨ scope.names.lookup y = some .free := hy
    rcases hy with hy | hy
    · exact qz hy
    · exact absurd rfl (S.nofree _ (PySem.mem_of_lookup hy))
  · exact Nat.le_of_lt (x.above y c (PySem.mem_of_lookup h))
  · have hi : i < vs.length := by
      unfold fL at h2
      by_cases hi : i < vs.length
      · exact hi
      · rw [List.getElem?_append_right (by simpa using hi)] at h2
        rw [List.getElem?_replicate] at h2
        split at h2 <;> cases h2
    have ha : vs[i]? = some v := by
      unfold fL at h2
      rw [List.getElem?_append_left (by simpa using hi), List.getElem?_map] at h2
      cases e : vs[i]? with
      | none => rw [e] at h2; cases h2
      | some a => rw [e] at h2; cases h2; rfl
    obtain ⟨u, hu, rv⟩ := r.get ha
    have hp : ps[i]? = some y := by
      rw [← S.pre, List.getElem?_take_of_lt (by omega)]; exact h1
    have ndP : ps.Nodup := by rw [← S.pre]; exact S.nd.sublist (List.take_sublist _ _)
    refine ⟨u, rv, ?_⟩
    rcases S.par y (List.mem_of_getElem? hp) with k | k
    · exact .inl ⟨k, mo ndP hp hu k⟩
    · obtain ⟨c, e⟩ := qz (n := s.heap.objs.size + 1) k
      refine .inr ⟨.inl k, c, e, ?_⟩
      have q := x.cell y c e
      rw [mU ndP hp hu (by show scope.names.lookup y ≠ _; rw [k]; decide)] at q
      exact q
  · exact e0.hok.fresh (Nat.le_of_lt (x.above y c (PySem.mem_of_lookup h)))
  · unfold fL
    show _ = N.length
    rw [List.length_append, List.length_map, List.length_replicate]
    omega
theorem Bl {CX : CXT} {P : Program} {w : World} {K : PySem.W.Frag} {mg : Str → Option Value} {base : Heap} {k : Nat} {f : Addr} {name qual : Str} {params : Arguments} {body : List Stmt} {scope : Scope} {dV kV doc pm cdv ct oc : Value} {an od : Option Addr}
    {osl : Array (Option Value)} {N ps : List Str} {sp : Sp} (lk : K.lookup f = some ⟨oc, od, .func (PySem.W.fnOf name qual params body scope dV kV doc pm an cdv ct), osl⟩) (hcd : PySem.W.codeIn K cdv qual = true) (S : az N ps scope)
    (len : ∀ vs H Q E, sp vs H Q E → vs.length = ps.length)
    (hbody : ∀ (A : Around) (outer : List Env) (s : Shared) (H : Hp) (vs : List V) (Q : VK) (E : XK), Room k (A.deeper (envOfC qual scope s.heap.objs.size f cdv)) → sp vs H Q E →
      ∃ t, PSs (cL CX P w K mg base N qual scope f cdv A outer s H E) body t ∧ t { nx := fun _ H' => Q .non H', rt := Q } (fL N vs) H) :
    bt P w K mg base CX (k + 1) f (PySem.W.fnOf name qual params body scope dV kV doc pm an cdv ct) ps sp := by
  refine ⟨len, fun A outer s H args us vs Q E hr e0 hb r hsp => ?_⟩
  have hl := len _ _ _ _ hsp
  have KX : K.In s.heap := e0.mod.kin.keeps fun b o e => (e0.bs b o e).1
  have lim : s.heap.NoLimit := e0.mod.nolimit.keeps fun b o e => (e0.bs b o e).1
  have hkind : ∀ y ∈ ps.zip us, scope.names.lookup y.1 = some .local ∨ (scope.names.lookup y.1 = some .cell ∧ ((cellsFrom (s.heap.objs.size + 1) scope.names []).lookup y.1).isSome = true) := fun ⟨n, v⟩ hy => by
    rcases S.par n (List.of_mem_zip hy).1 with q | q
    · exact .inl q
    · exact .inr ⟨q, PySem.W.cellsFrom_some _ _ _ (.inl q)⟩
  refine codeAny_call_function hr.depth (KX _ _ lk) rfl S.co S.gen rfl (PySem.W.codeRec_of KX hcd) (hb _ _ _ _ ?_)
  refine wpAny_newFunctionEnv_cells S.kind hkind fun env he s1 x => ?_
  subst he
  refine ⟨lim.keeps x.toInCall.keep, codeAny_func ?_⟩
  obtain ⟨t, ht, hq⟩ := hbody A outer s H vs Q E (hr.deeper _) hsp
  have I : Inv (cL CX P w K mg base N qual scope f cdv A outer s H E) [] (fL N vs) H s1 := uU S hr.hd e0 hl r x
  refine wpAny_mono (ht [] s1 (fL N vs) H _ I hq) (fun fl s' hs => ?_) fun e s' hs => hs
  have fin : ∀ {σ' : St} {H' : Hp} {v : V} {u : Value}, Inv (cL CX P w K mg base N qual scope f cdv A outer s H E) [] σ' H' s' → RelV v u → Q v H' → CE outer P w H s Q u s' :=
    fun {σ' H' v u} J rv q => ⟨v, H', J.os, J.bare, J.base, J.hok, rv, q⟩
  cases fl with
  | ret u =>
    obtain ⟨v, σ', H', J, rv, q⟩ := hs
    exact fin J rv q
  | next =>
    obtain ⟨σ', H', J, q⟩ := hs
    exact fin (v := V.non) (u := Value.none) J rfl q
  | brk =>
    obtain ⟨_, _, _, q⟩ := hs
    exact False.elim q
  | cont =>
    obtain ⟨_, _, _, q⟩ := hs
    exact False.elim q
end L2
namespace L2
open PySem PySem.Spec PyProof.Rows
section
variable {X : Cx} {x : Str} {p pos : Pos} {e : Expr} {es : List Expr} {t : TA} {id T : String} {r : List V → Hp → VK → Prop}
def tCB (r : List V → Hp → VK → Prop) (t : TA) : TE := fun σ H Q => t σ H fun vs H1 => r vs H1 Q
theorem aJ (hc : CallR X (.builtin id) r) (hg : Gl X x) (hm : X.mg x = none) (hv : bootBuiltins x = some (.builtin id)) (ha : PA X (e :: es) t) (hn : x ≠ "__name__" := by decide) (hdb : (x == ("__debug__" : Str)) = false := by decide)
    (he : starEach (e :: es) X.env = (false, eval e X.env) :: starEach es X.env := by rfl) (hpl : (backTo pos (starEach es X.env)).any (·.1) = false := by rfl) : PE X (.Call (.Name x p) (e :: es) [] pos) (tCB r t) := by
  intro pins s σ H Q I h
  refine wpAny_Call_Name_kw (jj I hg hm hv ?_ hn hdb)
  exact PyProof.Rows.callWith_builtin1 (thn (ha pos pins s σ H _ I h) fun us s1 ⟨vs, H1, I1, r1, q1⟩ => hc pins s1 σ H1 vs us Q I1 r1 q1) he hpl
theorem gG (hc : CallR X (.type T) r) (hg : Gl X x) (hm : X.mg x = none) (hv : bootBuiltins x = some (.type T)) (ha : PA X (e :: es) t) (hn : x ≠ "__name__" := by decide) (hdb : (x == ("__debug__" : Str)) = false := by decide)
    (he : starEach (e :: es) X.env = (false, eval e X.env) :: starEach es X.env := by rfl) (hpl : (backTo pos (starEach es X.env)).any (·.1) = false := by rfl) : PE X (.Call (.Name x p) (e :: es) [] pos) (tCB r t) := by
  intro pins s σ H Q I h
  refine wpAny_Call_Name_kw (jj I hg hm hv ?_ hn hdb)
  exact PyProof.Rows.callWith_type1 (thn (ha pos pins s σ H _ I h) fun us s1 ⟨vs, H1, I1, r1, q1⟩ => hc pins s1 σ H1 vs us Q I1 r1 q1) he hpl
end
end L2
namespace HT
open PySem PyProof.Rows
section
open PySem.SeqAt
open PySem.AutoSeq1 (wpAny_loadPart')
open PySem.MeetsSeq PySem.MeetsSeq2 PySem.MeetsSeq3
end
section
variable {prog : Program} {w : World} {A : Around} {E : Value → Shared → Prop} {s : Shared}
def sIx (n d : Nat) : Option Int → Nat
  | none => d
  | some v => if v < 0 then (v + (n : Int)).toNat else min v.toNat n
theorem sIx_none (n d : Nat) : sIx n d none = d := rfl
theorem sIx_nat (n d k : Nat) : sIx n d (some (k : Int)) = min k n := by
  show (if (k : Int) < 0 then ((k : Int) + (n : Int)).toNat else min (k : Int).toNat n) = min k n
  rw [if_neg (by omega), Int.toNat_natCast]
theorem sIx_le (n d : Nat) (hd : d ≤ n) (o : Option Int) : sIx n d o ≤ n := by
  cases o with
  | none => exact hd
  | some v =>
    show (if v < 0 then (v + (n : Int)).toNat else min v.toNat n) ≤ n
    by_cases hv : v < 0
    · rw [if_pos hv]; omega
    · rw [if_neg hv]; exact Nat.min_le_right _ _
end
end HT
namespace L2
open PySem PySem.Spec PyProof.Rows
abbrev TO := St → Hp → (Option Int → Hp → Prop) → Prop
def PO (X : Cx) (e : Option Expr) (t : TO) : Prop :=
  ∀ (pins : List (Addr × Obj)) (s : Shared) (σ : St) (H : Hp) (Q : Option Int → Hp → Prop), Inv X pins σ H s → t σ H Q →
    wpAny (model X.prog X.w) X.A (evalPart e X.env) (fun u s' => ∃ o H', Inv X pins σ H' s' ∧ IsPart u o ∧ Q o H') X.xe s
def tI : TO := fun _ H Q => Q none H
def yG (t : TE) : TO := fun σ H Q => t σ H fun x H1 => ∃ i, x = .int i ∧ Q (some i) H1
section
variable {X : Cx} {e : Expr} {te : TE} {lo hi : Option Expr} {tl th : TO} {pos p2 : Pos}
theorem iB : PO X none tI := by
  intro pins s σ H Q I h
  rw [evalPart_none]
  exact wpAny_pure ⟨none, H, I, .none, h⟩
theorem iN (h : PE X e te) : PO X (some e) (yG te) := by
  intro pins s σ H Q I hw
  rw [evalPart_some]
  refine thn (h pins s σ H _ I hw) fun u s1 ⟨x, H1, I1, r1, q1⟩ => ?_
  obtain ⟨i, rfl, q⟩ := q1
  obtain ⟨t, rfl⟩ := r1
  exact ⟨some i, H1, I1, .int i t, q⟩
def SlR (X : Cx) (r : V → Option Int → Option Int → Hp → VK → Prop) : Prop :=
  ∀ (pins : List (Addr × Obj)) (s : Shared) (σ : St) (H : Hp) (x : V) (v vl vu : Value) (lo hi : Option Int) (sl : Addr) (Q : VK), Inv X pins σ H s → RelV x v → s.heap.IsSliceOf sl vl vu .none → IsPart vl lo → IsPart vu hi → r x lo hi H Q →
    ∃ T id, typeLookup (.type T) "__getitem__" = pure (some (.builtin id)) ∧ s.TypeIs v T ∧ wpAny (model X.prog X.w) X.A (getItem v (.ref sl)) (EP X pins σ Q) X.xe s
def tSl (r : V → Option Int → Option Int → Hp → VK → Prop) (te : TE) (tl th : TO) : TE := fun σ H Q => te σ H fun x H1 => tl σ H1 fun l H2 => th σ H2 fun u H3 => r x l u H3 Q
theorem fR {r : V → Option Int → Option Int → Hp → VK → Prop} (hr : SlR X r) (he : PE X e te) (hl : PO X lo tl) (hu : PO X hi th) : PE X (.Subscript e (.Slice lo hi none p2) pos) (tSl r te tl th) := by
  intro pins s σ H Q I h
  refine Subscript_ (thn (he pins s σ H _ I h) fun v s1 ⟨x, H1, I1, r1, q1⟩ => ?_)
  refine wpAny_Slice (thn (hl pins s1 σ H1 _ I1 q1) fun vl s2 ⟨l, H2, I2, pl, q2⟩ => thn (hu pins s2 σ H2 _ I2 q2) fun vu s3 ⟨u, H3, I3, pu, q3⟩ => ?_)
  rw [evalPart_none]
  refine wpAny_pure ?_
  have I4 : Inv X pins σ H3 { s3 with heap := s3.heap.push { cls := .type "slice", data := .fields #[vl, vu, .none] } } := I3.kept (t' := s3.toks) fun b ob q => Heap.get?_push_of_some _ q
  obtain ⟨T, id, hT, ht, hg⟩ := hr pins { s3 with heap := s3.heap.push { cls := .type "slice", data := .fields #[vl, vu, .none] } } σ H3 x v vl vu l u s3.heap.objs.size Q I4 r1 (Heap.IsSliceOf.new ..) pl pu q3
  show wpAny (model X.prog X.w) X.A (subscriptTail e (.Slice lo hi none p2) v (.ref s3.heap.objs.size)) (EP X pins σ Q) X.xe { s3 with heap := s3.heap.push { cls := .type "slice", data := .fields #[vl, vu, .none] } }
  exact tail_any (ops := [.ref s3.heap.objs.size, v]) ht hT hg (by with_unfolding_all rfl)
def uI (xs : List V) (lo hi : Option Int) : List V := (xs.drop (HT.sIx xs.length 0 lo)).take (HT.sIx xs.length xs.length hi - HT.sIx xs.length 0 lo)
theorem qw (xs : List V) (lo hi : Option Int) : (uI xs lo hi).length ≤ xs.length := by
  unfold uI
  rw [List.length_take, List.length_drop]
  omega
end
end L2
namespace L2
open PySem PySem.Spec PyProof.Rows
def ixN (n : Nat) (i : Int) : Option Nat := if 0 ≤ i then (if i < n then some i.toNat else none) else if -(n : Int) ≤ i then some (i + n).toNat else none
def atI {α : Type} (xs : List α) (i : Int) : Option α := (ixN xs.length i).bind fun j => xs[j]?
theorem xA {n : Nat} {i : Int} {j : Nat} (h : ixN n i = some j) : seqIndex? i n = some j ∧ j < n ∧ -(n : Int) ≤ i ∧ i < n := by
  unfold ixN at h
  by_cases h0 : 0 ≤ i
  · rw [if_pos h0] at h
    by_cases h1 : i < n
    · rw [if_pos h1] at h
      have e : i.toNat = j := Option.some.inj h
      exact ⟨by rw [seqIndex_of h0 h1, e], by omega, by omega, h1⟩
    · rw [if_neg h1] at h; cases h
  · rw [if_neg h0] at h
    by_cases h1 : -(n : Int) ≤ i
    · rw [if_pos h1] at h
      have e : (i + n).toNat = j := Option.some.inj h
      exact ⟨by rw [seqIndex_neg (by omega) h1, e], by omega, h1, by omega⟩
    · rw [if_neg h1] at h; cases h
theorem oS {α : Type} {xs : List α} {i : Int} {v : α} (h : atI xs i = some v) : ∃ j, seqIndex? i xs.length = some j ∧ xs[j]? = some v ∧ j < xs.length ∧ -(xs.length : Int) ≤ i ∧ i < xs.length := by
  unfold atI at h
  cases e : ixN xs.length i with
  | none => rw [e] at h; cases h
  | some j =>
    rw [e] at h
    obtain ⟨h1, h2, h3, h4⟩ := xA e
    exact ⟨j, h1, h, h2, h3, h4⟩
theorem bL {α : Type} {xs : List α} {j : Nat} {v : α} (h : xs[j]? = some v) : atI xs (j : Int) = some v := by
  have hj : j < xs.length := (List.getElem?_eq_some_iff.mp h).1
  have e : ixN xs.length (j : Int) = some j := by
    unfold ixN
    rw [if_pos (by omega), if_pos (by omega)]; simp
  unfold atI; rw [e]; exact h
theorem qQ {α : Type} (xs : List α) (v : α) : atI (xs ++ [v]) (-1) = some v := by
  have hl : (xs ++ [v]).length = xs.length + 1 := by simp
  have e : ixN (xs ++ [v]).length (-1) = some xs.length := by
    unfold ixN
    rw [hl, if_neg (by decide), if_pos (by omega)]
    congr 1
    omega
  unfold atI
  rw [e]
  show (xs ++ [v])[xs.length]? = some v
  simp
def tH (b : Expr) : Prop := ∀ o i, subscripted b false o i = operate [o, i] (getItem o i)
def IxR (X : Cx) (r : R2) : Prop :=
  ∀ (value slice : Expr) (pins : List (Addr × Obj)) (s : Shared) (σ : St) (H : Hp) (x y : V) (v u : Value) (Q : VK), Inv X pins σ H s → RelV x v → RelV y u → r x y H Q →
    subscripted slice false v u = operate [v, u] (getItem v u) → wpAny (model X.prog X.w) X.A (subscriptTail value slice v u) (EP X pins σ Q) X.xe s
def MtR (X : Cx) (id : String) (r : V → List V → Hp → VK → Prop) : Prop :=
  ∀ (pins : List (Addr × Obj)) (s : Shared) (σ : St) (H : Hp) (x : V) (xs : List V) (v : Value) (us : List Value) (Q : VK), Inv X pins σ H s → RelV x v → Vals xs us → r x xs H Q →
    wpAny (model X.prog X.w) X.A (call (.builtin id) (v :: us)) (EP X pins σ Q) X.xe s
section
variable {X : Cx} {a b : Expr} {ta tb : TE} {pos : Pos}
theorem IxR.or {r r' : R2} (h : IxR X r) (h' : IxR X r') : IxR X (fun x y H Q => r x y H Q ∨ r' x y H Q) := by
  intro value slice pins s σ H x y v u Q I rx ry q hs
  rcases q with q | q
  · exact h value slice pins s σ H x y v u Q I rx ry q hs
  · exact h' value slice pins s σ H x y v u Q I rx ry q hs
theorem bd {r : R2} (hr : IxR X r) (ha : PE X a ta) (hb : PE X b tb) (hs : tH b) : PE X (.Subscript a b pos) (tOp r ta tb) := by
  intro pins s σ H Q I h
  exact Subscript_ (yT ha hb I h fun v u s2 x y H2 I2 rx ry q => hr a b pins s2 σ H2 x y v u Q I2 rx ry q (hs _ _))
def A8 (K : PySem.W.Frag) : R2 := fun x y H Q => ∃ p xs i v, x = .ref p ∧ y = .int i ∧ SqL K H p xs ∧ atI xs i = some v ∧ Q v H
def Bp (K : PySem.W.Frag) : R2 := fun x y H Q => ∃ p xs i v, x = .ref p ∧ y = .int i ∧ SqT K H p xs ∧ atI xs i = some v ∧ Q v H
def AT : R2 := fun x y H Q => ∃ z i c, x = .str z ∧ y = .int i ∧ z.length ≤ sizeLine ∧ atI z.cps.toList i = some c ∧ Q (.str ⟨#[c]⟩) H
theorem sJ : IxR X (A8 X.K) := by
  intro value slice pins s σ H x y v u Q I rx ry h hs
  obtain ⟨p, xs, i, z, rfl, rfl, hq, he, q⟩ := h
  cases rx
  obtain ⟨t, rfl⟩ := ry
  obtain ⟨its, r, pl, hz⟩ := I.list hq
  obtain ⟨j, h1, h2, h3, h4, h5⟩ := oS he
  obtain ⟨w, ew, rw'⟩ := r.get h2
  have hl := r.length
  have hn := jZ
  have fin : EP X pins σ Q w s := ⟨z, H, I, rw', q⟩
  by_cases h0 : 0 ≤ i
  · have hj : i.toNat = j := by
      rw [seqIndex_of h0 h5] at h1
      exact Option.some.inj h1
    exact item_listR pl.isList h0 (by omega) (by rw [hj]; simpa using ew) fin hs
  · have hj : (i + (its.toArray.size : Int)).toNat = j := by
      rw [seqIndex_neg (by omega) h4] at h1
      rw [List.size_toArray, ← hl]
      exact Option.some.inj h1
    exact subscriptTail_builtinR (x := w) pl.isList.typeIs slot_list_getitem.lookup
      (wpAny_getItem_list_neg (Q := fun r s' => r = w ∧ EP X pins σ Q r s') pl.isList (by omega) (by rw [List.size_toArray] <;> omega) (by omega) (by rw [hj]; simpa using ew) ⟨rfl, fin⟩) hs
theorem Ac : IxR X (Bp X.K) := by
  intro value slice pins s σ H x y v u Q I rx ry h hs
  obtain ⟨p, xs, i, z, rfl, rfl, hq, he, q⟩ := h
  cases rx
  obtain ⟨t, rfl⟩ := ry
  obtain ⟨its, r, pl, hz⟩ := I.tuple hq
  obtain ⟨j, h1, h2, h3, h4, h5⟩ := oS he
  obtain ⟨w, ew, rw'⟩ := r.get h2
  have hl := r.length
  have hn := jZ
  have fin : EP X pins σ Q w s := ⟨z, H, I, rw', q⟩
  exact subscriptTail_builtinR (x := w) pl.typeIs slot_tuple_getitem.lookup
    (getItem_tuple (j := j) (Q := fun r s' => r = w ∧ EP X pins σ Q r s') pl (by omega) (by omega) (by rw [List.size_toArray, ← hl]; exact h1) (by simpa using ew) ⟨rfl, fin⟩) hs
theorem Aw : IxR X AT := by
  intro value slice pins s σ H x y v u Q I rx ry h hs
  obtain ⟨z, i, c, rfl, rfl, hz, he, q⟩ := h
  obtain ⟨t, rfl⟩ := rx
  obtain ⟨t', rfl⟩ := ry
  obtain ⟨j, h1, h2, h3, h4, h5⟩ := oS he
  have hl : z.cps.toList.length = z.length := by simp [Str.length]
  rw [hl] at h1 h4 h5
  have hn := jZ
  exact tail_any (typeIs_str s z t) slot_str_getitem.lookup (getItem_str (c := c) (by
    have e1 : decide (i < -(2 ^ 63 : Int)) = false := decide_eq_false (by omega)
    have e2 : decide (i ≥ 2 ^ 63) = false := decide_eq_false (by omega)
    rw [e1, e2, Bool.or_false]) (by rw [h1]; simpa using h2) ⟨.str ⟨#[c]⟩, H, I.tok _, ⟨_, rfl⟩, q⟩) hs
def rIx (K : PySem.W.Frag) : R2 := fun x y H Q => A8 K x y H Q ∨ Bp K x y H Q ∨ AT x y H Q
theorem zQ : IxR X (rIx X.K) := sJ.or (Ac.or Aw)
theorem im (lo hi : Option Int) (n : Nat) : (sliceBounds lo hi none n).1 = ((HT.sIx n 0 lo : Nat) : Int) ∧ (sliceBounds lo hi none n).2.1 = ((HT.sIx n n hi : Nat) : Int) ∧ (sliceBounds lo hi none n).2.2 = 1 := by
  refine ⟨?_, ?_, rfl⟩
  · cases lo with
    | none => simp [sliceBounds, HT.sIx]
    | some i =>
      simp only [sliceBounds, HT.sIx, Option.getD_none, show (1 : Int) > 0 by decide, if_true]
      by_cases h : i < 0
      · simp only [h, if_true] <;> omega
      · simp only [h, if_false] <;> omega
  · cases hi with
    | none => simp [sliceBounds, HT.sIx]
    | some i =>
      simp only [sliceBounds, HT.sIx, Option.getD_none, show (1 : Int) > 0 by decide, if_true]
      by_cases h : i < 0
      · simp only [h, if_true] <;> omega
      · simp only [h, if_false] <;> omega
theorem mi (its : List Value) (lo hi : Option Int) : slicePick its.toArray lo hi none = ((its.drop (HT.sIx its.length 0 lo)).take (HT.sIx its.length its.length hi - HT.sIx its.length 0 lo)).toArray := by
  obtain ⟨h1, h2, h3⟩ := im lo hi its.toArray.size
  unfold slicePick
  rw [h1, h2, h3]
  simp only [sliceRange_one, pick_run, List.size_toArray] <;> rfl
def A7 (K : PySem.W.Frag) : V → Option Int → Option Int → Hp → VK → Prop := fun x lo hi H Q => ∃ a xs, x = .ref a ∧ SqL K H a xs ∧ ∀ p, H p = none → Q (.ref p) (upd H p (.lst (uI xs lo hi)))
theorem xr : SlR X (A7 X.K) := by
  intro pins s σ H x v vl vu lo hi sl Q I rx hs pl pu h
  obtain ⟨a, xs, rfl, hx, q⟩ := h
  cases rx
  obtain ⟨its, r, ht, hz⟩ := I.list hx
  have hlen := r.length
  refine ⟨"list", _, slot_list_getitem.lookup, ht.isList.typeIs, ?_⟩
  refine wpAny_getItem_list_slice ht.isList hs pl pu .none (by simp) ?_ (by rw [List.size_toArray] <;> omega)
  rw [mi, ← hlen]
  refine ⟨.ref s.heap.objs.size, _, I.laid (t' := s.toks) (o := .lst (uI xs lo hi)) (fun b ob q => Heap.get?_push_of_some _ q) (Nat.le_refl _) ?_, rfl, q _ (I.hok.fresh (Nat.le_refl _))⟩
  exact ⟨Nat.le_trans (qw xs lo hi) hz, _, 0, (r.drop (HT.sIx xs.length 0 lo)).take (HT.sIx xs.length xs.length hi - HT.sIx xs.length 0 lo), Heap.get?_push_size _ rfl⟩
def dt : V → Bool
  | .non => true
  | .bl _ => true
  | .int _ => true
  | .str _ => true
  | _ => false
def eqV : V → V → Bool
  | .non, .non => true
  | .bl a, .bl b => a == b
  | .bl a, .int b => (if a then 1 else 0) == b
  | .int a, .bl b => a == (if b then 1 else 0)
  | .int a, .int b => a == b
  | .str a, .str b => a == b
  | _, _ => false
theorem rV {A : Around} {s : Shared} {y x : V} {u v : Value} (ry : RelV y u) (rx : RelV x v) (fy : dt y = true) (fx : dt x = true) : SeqAt.EqAt A s u v (eqV y x) := by
  cases y with
  | non =>
    cases ry
    cases x with
    | non => cases rx; exact SeqAt.EqAt.same _
    | bl b => cases rx; exact SeqAt.EqAt.none_bool b
    | int b => obtain ⟨t, rfl⟩ := rx; exact SeqAt.EqAt.none_int b t
    | str b => obtain ⟨t, rfl⟩ := rx; exact SeqAt.EqAt.none_str b t
    | _ => exact absurd (show false = true from fx) Bool.false_ne_true
  | bl a =>
    cases ry
    cases x with
    | non => cases rx; exact SeqAt.EqAt.bool_none a
    | bl b => cases rx; exact SeqAt.EqAt.bool_bool a b
    | int b => obtain ⟨t, rfl⟩ := rx; exact SeqAt.EqAt.bool_int a b t
    | str b => obtain ⟨t, rfl⟩ := rx; exact SeqAt.EqAt.bool_str a b t
    | _ => exact absurd (show false = true from fx) Bool.false_ne_true
  | int a =>
    obtain ⟨t', rfl⟩ := ry
    cases x with
    | non => cases rx; exact SeqAt.EqAt.int_none a t'
    | bl b => cases rx; exact SeqAt.EqAt.int_bool a t' b
    | int b => obtain ⟨t, rfl⟩ := rx; exact SeqAt.EqAt.int_int a t' b t
    | str b => obtain ⟨t, rfl⟩ := rx; exact SeqAt.EqAt.int_str a t' b t
    | _ => exact absurd (show false = true from fx) Bool.false_ne_true
  | str a =>
    obtain ⟨t', rfl⟩ := ry
    cases x with
    | non => cases rx; exact SeqAt.EqAt.str_none a t'
    | bl b => cases rx; exact SeqAt.EqAt.str_bool a t' b
    | int b => obtain ⟨t, rfl⟩ := rx; exact SeqAt.EqAt.str_int a t' b t
    | str b => obtain ⟨t, rfl⟩ := rx; exact SeqAt.EqAt.str_str a t' b t
    | _ => exact absurd (show false = true from fx) Bool.false_ne_true
  | _ => exact absurd (show false = true from fy) Bool.false_ne_true
def eqU (x : V) (u : Value) : Bool := match u with
  | .none => eqV .non x
  | .bool b => eqV (.bl b) x
  | .int i _ => eqV (.int i) x
  | .str z _ => eqV (.str z) x
  | _ => false
theorem wo {x y : V} {u : Value} (r : RelV y u) (f : dt y = true) : eqU x u = eqV y x := by
  cases y with
  | non => cases r; rfl
  | bl b => cases r; rfl
  | int i => obtain ⟨t, rfl⟩ := r; rfl
  | str z => obtain ⟨t, rfl⟩ := r; rfl
  | _ => exact absurd (show false = true from f) Bool.false_ne_true
theorem nP {x : V} : ∀ {xs : List V} {us : List Value}, Vals xs us → xs.all dt = true → us.any (eqU x) = xs.any fun y => eqV y x
  | _, _, .nil, _ => rfl
  | y :: xs, u :: us, .cons r t, f => by
    rw [List.all_cons, Bool.and_eq_true] at f
    rw [List.any_cons, List.any_cons, wo r f.1, nP t f.2]
theorem kC {A : Around} {s : Shared} {x : V} {v : Value} (rx : RelV x v) (fx : dt x = true) : ∀ {xs : List V} {us : List Value}, Vals xs us → xs.all dt = true → ∀ u ∈ us, SeqAt.EqAt A s u v (eqU x u)
  | _, _, .nil, _ => fun u hu => by cases hu
  | y :: xs, u :: us, .cons r t, f => fun u' hu => by
    rw [List.all_cons, Bool.and_eq_true] at f
    rcases List.mem_cons.mp hu with rfl | hu
    · rw [wo r f.1]; exact rV r rx f.1 fx
    · exact kC rx fx t f.2 u' hu
def inV (x : V) (xs : List V) : Bool := xs.any fun y => eqV y x
def rIn (K : PySem.W.Frag) (neg : Bool) : R2 := fun x y H Q => ∃ p xs, y = .ref p ∧ (SqL K H p xs ∨ SqT K H p xs) ∧ dt x = true ∧ xs.all dt = true ∧ Q (.bl (if neg then !inV x xs else inV x xs)) H
theorem ny : OpR X (compareOp .NotIn) (rIn X.K true) := by
  intro pins s σ H x y v u Q I rx ry h
  obtain ⟨p, xs, rfl, hq, fx, fs, q⟩ := h
  cases ry
  rcases hq with hq | hq
  · obtain ⟨its, r, pl, hz⟩ := I.list hq
    refine SeqAt.notIn_listAt (eqU x) pl.isList (fun w hw => kC rx fx r fs w (by simpa using hw)) ⟨.bl _, H, I, rfl, ?_⟩
    rw [show its.toArray.any (eqU x) = its.any (eqU x) by simp, nP r fs]
    exact q
  · obtain ⟨its, r, pl, hz⟩ := I.tuple hq
    refine SeqAt.notIn_tupleAt (eqU x) pl (fun w hw => kC rx fx r fs w (by simpa using hw)) ⟨.bl _, H, I, rfl, ?_⟩
    rw [show its.toArray.any (eqU x) = its.any (eqU x) by simp, nP r fs]
    exact q
theorem CallR.or {f : Value} {r r' : List V → Hp → VK → Prop} (h : CallR X f r) (h' : CallR X f r') : CallR X f (fun xs H Q => r xs H Q ∨ r' xs H Q) := by
  intro pins s σ H xs us Q I rs q
  rcases q with q | q
  · exact h pins s σ H xs us Q I rs q
  · exact h' pins s σ H xs us Q I rs q
theorem nC : CallR X (.type "list") (fun xs H Q => ∃ p ys, xs = [.ref p] ∧ (SqL X.K H p ys ∨ SqT X.K H p ys) ∧ ∀ l, H l = none → Q (.ref l) (upd H l (.lst ys))) := by
  intro pins s σ H xs us Q I r h
  obtain ⟨p, ys, rfl, hq, q⟩ := h
  obtain ⟨u, rfl, rx⟩ := fG r
  cases rx
  have fin : ∀ (its : List Value), Vals ys its → ys.length ≤ sizeLine → ∀ (h' : Heap) (c' : Nat), (∀ b o', s.heap.get? b = some o' → h'.get? b = some o') →
      h'.get? s.heap.objs.size = some { cls := .type "list", dict := none, data := .seq its.toArray c', slots := #[] } → EP X pins σ Q (.ref s.heap.objs.size) { s with heap := h' } := fun its r' hz h' c' kp e =>
    ⟨.ref s.heap.objs.size, _, I.laid (t' := s.toks) kp (Nat.le_refl _) (show ObjOk X.prog X.w _ h' _ (.lst ys) from ⟨hz, its, c', r', e⟩), rfl, q _ (I.hok.fresh (Nat.le_refl _))⟩
  rcases hq with hq | hq
  · obtain ⟨its, r', pl, hz⟩ := I.list hq
    have hlen := r'.length
    obtain ⟨o, ho, hc, n, hd⟩ := pl.isList
    exact call_list_seq p (.inl rfl) ho hc hd (fun h' c' kp e => fin its r' hz h' c' kp e) (by simp only [List.size_toArray] <;> omega)
  · obtain ⟨its, r', pl, hz⟩ := I.tuple hq
    have hlen := r'.length
    obtain ⟨o, ho, hc, n, hd⟩ := pl
    exact call_list_seq p (.inr rfl) ho hc hd (fun h' c' kp e => fin its r' hz h' c' kp e) (by simp only [List.size_toArray] <;> omega)
theorem lY : CallR X (.type "tuple") (fun xs H Q => ∃ p ys, xs = [.ref p] ∧ ((SqL X.K H p ys ∧ ∀ l, H l = none → Q (.ref l) (upd H l (.tup ys))) ∨ (SqT X.K H p ys ∧ Q (.ref p) H))) := by
  intro pins s σ H xs us Q I r h
  obtain ⟨p, ys, rfl, h⟩ := h
  obtain ⟨u, rfl, rx⟩ := fG r
  cases rx
  rcases h with ⟨hq, q⟩ | ⟨hq, q⟩
  · obtain ⟨its, r', pl, hz⟩ := I.list hq
    have hlen := r'.length
    refine call_tuple_list pl.isList (fun h' kp => ?_) (by simp only [List.size_toArray] <;> omega)
    have I1 : Inv X pins σ H { s with heap := h' } := I.kept (t' := s.toks) kp
    have I2 : Inv X pins σ (upd H h'.objs.size (.tup ys)) { s with heap := h'.push { cls := .type "tuple", data := .seq its.toArray } } :=
      I1.laid (t' := s.toks) (fun b o e => Heap.get?_push_of_some _ e) (Nat.le_refl _) (show ObjOk X.prog X.w _ _ _ (.tup ys) from ⟨hz, its, r', IsTup.new _ _⟩)
    exact ⟨.ref h'.objs.size, _, I2, rfl, q _ (I1.hok.fresh (Nat.le_refl _))⟩
  · obtain ⟨its, r', pl, hz⟩ := I.tuple hq
    exact call_tuple_same pl ⟨.ref p, H, I, rfl, q⟩
def tyV (K : PySem.W.Frag) (T : String) (x : V) (H : Hp) : Prop := match x with
  | .str _ => T = "str"
  | .int _ => T = "int"
  | .ref p => (T = "list" ∧ ∃ xs, SqL K H p xs) ∨ (T = "tuple" ∧ ∃ o, K.lookup p = some o ∧ o.cls = .type "tuple" ∧ o.dict = none) ∨
      (T = "dict" ∧ ((∃ kvs, H p = some (.dK kvs)) ∨ ∃ kvs, H p = some (.dT kvs))) ∨ (T = "set" ∧ ∃ S n, H p = some (.set S n))
  | _ => False
theorem vm {pins : List (Addr × Obj)} {σ : St} {H : Hp} {s : Shared} {T : String} {x : V} {v : Value} (I : Inv X pins σ H s) (r : RelV x v) (ty : tyV X.K T x H) :
    s.TypeIs v T ∧ ∀ a, v = .ref a → ∃ ob, s.heap.get? a = some ob ∧ ob.dict = none := by
  cases x with
  | str z =>
    obtain ⟨t, rfl⟩ := r
    cases (show T = "str" from ty)
    exact ⟨typeIs_str s z t, fun _ e => nomatch e⟩
  | int i =>
    obtain ⟨t, rfl⟩ := r
    cases (show T = "int" from ty)
    exact ⟨typeIs_int s i t, fun _ e => nomatch e⟩
  | ref p =>
    cases r
    rcases ty with ⟨rfl, xs, hq⟩ | ⟨rfl, o, hk, hc, hd⟩ | ⟨rfl, hk⟩ | ⟨rfl, S, n, hk⟩
    · obtain ⟨its, _, pl, _⟩ := I.list hq
      refine ⟨pl.isList.typeIs, fun a e => ?_⟩
      cases e
      obtain ⟨o, n, e, c, hd, _⟩ := pl
      exact ⟨o, e, hd⟩
    · refine ⟨⟨o, I.kIn p o hk, hc⟩, fun a e => ?_⟩
      cases e
      exact ⟨o, I.kIn _ o hk, hd⟩
    · have z : ∃ o, s.heap.get? p = some o ∧ o.ExactDict := by
        rcases hk with ⟨kvs, hk⟩ | ⟨kvs, hk⟩
        · obtain ⟨_, _, _, _, o, _, _, e, ex, _⟩ := I.hok p _ hk
          exact ⟨o, e, ex⟩
        · obtain ⟨_, _, _, _, o, _, _, e, ex, _⟩ := I.hok p _ hk
          exact ⟨o, e, ex⟩
      obtain ⟨o, e, ex⟩ := z
      refine ⟨⟨o, e, ex.1⟩, fun a e2 => ?_⟩
      cases e2
      exact ⟨o, e, ex.2.1⟩
    · obtain ⟨o, _, _, _, e, ex, _⟩ := I.hok p _ hk
      refine ⟨⟨o, e, ex.1⟩, fun a e2 => ?_⟩
      cases e2
      exact ⟨o, e, ex.2.1⟩
  | _ => exact False.elim ty
def zI (K : PySem.W.Frag) (T : String) (r : V → List V → Hp → VK → Prop) (to : TE) : TE := fun σ H Q => to σ H fun x H1 => tyV K T x H1 ∧ r x [] H1 Q
def tBM (K : PySem.W.Frag) (T : String) (r : V → List V → Hp → VK → Prop) (to : TE) (t : TA) : TE := fun σ H Q => to σ H fun x H1 => tyV K T x H1 ∧ t σ H1 fun xs H2 => r x xs H2 Q
variable {o e : Expr} {es : List Expr} {to : TE} {t : TA} {name : Str} {apos cpos : Pos} {T id : String} {r : V → List V → Hp → VK → Prop}
theorem zc (pa : PlainAttrs T) (slot : Slot T name id) (hty : typeOf (.builtin id) = pure (.type "method_descriptor")) (hm : MtR X id r) (ho : PE X o to)
    (hbase : attributeBase o name X.env (eval o X.env) = eval o X.env := by rfl) (hline : (apos.endLine == cpos.line) = true := by rfl) : PE X (.Call (.Attribute o name apos) [] [] cpos) (zI X.K T r to) := by
  intro pins s σ H Q I h
  refine wpAny_Call_method0_late hbase hline (thn (ho pins s σ H _ I h) fun v s1 ⟨x, H1, I1, r1, ty, q1⟩ => ?_)
  obtain ⟨h1, h2⟩ := vm I1 r1 ty
  exact ⟨T, id, pa, slot, hty, h1, h2, Calls.callWith_builtin rfl (PySem.evalArgs_none (hm pins s1 σ H1 x [] v [] Q I1 r1 .nil q1))⟩
theorem Be (pa : PlainAttrs T) (slot : Slot T name id) (hty : typeOf (.builtin id) = pure (.type "method_descriptor")) (hm : MtR X id r) (ho : PE X o to) (ha : PA X (e :: es) t)
    (hbase : attributeBase o name X.env (eval o X.env) = eval o X.env := by rfl)
    (hfew : ((backTo cpos (starEach (e :: es) X.env)).all (fun x => !x.1) && (backToKw cpos (keywordEach [] X.env)).all (fun x => x.1.isSome)
      && decide ((e :: es).length + ([] : List Keyword).length + (if ([] : List Keyword).isEmpty then 0 else 1) < 30)) = true := by rfl)
    (hline : (apos.endLine == cpos.line) = true := by rfl) (hs : starEach (e :: es) X.env = (false, eval e X.env) :: starEach es X.env := by rfl) (hplain : (backTo cpos (starEach es X.env)).any (·.1) = false := by rfl) :
    PE X (.Call (.Attribute o name apos) (e :: es) [] cpos) (tBM X.K T r to t) := by
  intro pins s σ H Q I h
  refine wpAny_Call_method_late hbase hfew hline rfl (thn (ho pins s σ H _ I h) fun v s1 ⟨x, H1, I1, r1, ty, q1⟩ => ?_)
  obtain ⟨h1, h2⟩ := vm I1 r1 ty
  refine ⟨T, id, pa, slot, hty, h1, h2, ?_⟩
  have hA := ha cpos pins s1 σ H1 _ I1 q1
  rw [hs] at hA ⊢
  refine Calls.callWith_builtin (by show (false || (backTo cpos (starEach es X.env)).any (·.1)) = false; rw [hplain] <;> rfl) (Calls.evalArgs_plain ?_)
  exact thn hA fun us s2 ⟨vs, H2, I2, r2, q2⟩ => hm pins s2 σ H2 x vs v us Q I2 r1 r2 q2
end
end L2
namespace L2
open PySem PySem.Spec PyProof.Rows
def MtM (X : Cx) (id : String) (r : V → List V → Hp → VK → Prop) : Prop :=
  ∀ (pins : List (Addr × Obj)) (s : Shared) (σ : St) (H : Hp) (x : V) (xs : List V) (v : Value) (us : List Value) (Q : VK), Inv X pins σ H s → RelV x v → Vals xs us → r x xs H Q →
    wpAny (model X.prog X.w) X.A (call (.builtin id) (v :: us)) (EP X pins σ Q) X.xe s
theorem Vals.one : ∀ {x : V} {us : List Value}, Vals [x] us → ∃ u, us = [u] ∧ RelV x u
  | _, _, .cons r .nil => ⟨_, rfl, r⟩
theorem Vals.zero : ∀ {us : List Value}, Vals [] us → us = []
  | _, .nil => rfl
theorem Vals.dropLast {xs : List V} {us : List Value} (h : Vals xs us) : Vals xs.dropLast us.dropLast := by
  induction h with
  | nil => exact .nil
  | cons r t ih =>
    cases t with
    | nil => exact .nil
    | cons q t' => exact .cons r ih
theorem qZ {α : Type} (l : List α) : l.eraseIdx (l.length - 1) = l.dropLast := by
  induction l with
  | nil => rfl
  | cons a r ih =>
    cases r with
    | nil => rfl
    | cons b r =>
      have e : (a :: b :: r).length - 1 = ((b :: r).length - 1) + 1 := by
        have h1 : (a :: b :: r).length = r.length + 2 := rfl
        have h2 : (b :: r).length = r.length + 1 := rfl
        omega
      rw [e, List.eraseIdx_cons_succ, ih]
      all_goals rfl
section
variable {X : Cx} {pins : List (Addr × Obj)} {σ : St} {H : Hp} {s : Shared} {l b : Addr} {xs ys zs : List V}
theorem Inv.lset {its its' : List Value} {n : Nat} {f : Array Value → Array Value} {t' : Nat} (I : Inv X pins σ H s) (hH : H l = some (.lst xs))
    (e : s.heap.get? l = some { cls := .type "list", data := .seq its.toArray n }) (hf : f its.toArray = its'.toArray) (hv : Vals ys its') (hz : ys.length ≤ sizeLine) :
    Inv X pins σ (upd H l (.lst ys)) { s with heap := s.heap.update l (Obj.mapSeq f), toks := t' } := by
  have q := PySem.IsL.update e f
  rw [hf] at q
  refine I.write (x := l) (e := l) (by rw [hH]; exact trivial) (.inl rfl) (fun b' u hb hu => (Heap.get?_update_other s.heap (Obj.mapSeq f) (Ne.symm hb)).trans hu) ⟨_, q⟩ ?_
  exact ⟨hz, its', _, hv, q⟩
theorem Inv.lnew {its : List Value} {t' : Nat} (I : Inv X pins σ H s) (hv : Vals ys its) (hz : ys.length ≤ sizeLine) :
    Inv X pins σ (upd H s.heap.objs.size (.lst ys)) { s with heap := s.heap.push { cls := .type "list", data := .seq its.toArray }, toks := t' } :=
  I.laid (fun _ _ q => Heap.get?_push_of_some _ q) (Nat.le_refl _) ⟨hz, its, 0, hv, Heap.get?_push_size _ rfl⟩
theorem Inv.fresh (I : Inv X pins σ H s) : H s.heap.objs.size = none := I.hok.fresh (Nat.le_refl _)
theorem Inv.lstM (I : Inv X pins σ H s) (hH : H l = some (.lst xs)) : xs.length ≤ sizeLine ∧ ∃ (its : List Value) (n : Nat), Vals xs its ∧ xs.length = its.length ∧ s.heap.get? l = some { cls := .type "list", data := .seq its.toArray n } := by
  obtain ⟨z, its, n, r, e⟩ := I.hok l _ hH
  exact ⟨z, its, n, r, r.length, e⟩
theorem pC {n : Nat} (h : n ≤ sizeLine) : Builtin.List.listTooLong n = false := by
  unfold Builtin.List.listTooLong
  exact decide_eq_false (by omega)
end
section
variable {X : Cx}
def s_ : V → List V → Hp → VK → Prop := fun x vs H Q => ∃ l xs y, x = .ref l ∧ vs = [y] ∧ H l = some (.lst xs) ∧ xs.length < sizeLine ∧ Q .non (upd H l (.lst (xs ++ [y])))
theorem cv : MtM X "list.append" s_ := by
  intro pins s σ H x vs v us Q I rx rv h
  obtain ⟨l, xs, y, rfl, rfl, hH, hz, q⟩ := h
  cases rx
  obtain ⟨u, rfl, ru⟩ := rv.one
  obtain ⟨z, its, n, r, hl, e⟩ := I.lstM hH
  refine call_meets F.slot_list_append ⟨_, e, rfl⟩ F.entry_list_append (F.args_list_append_2 _ _) (PySem.list_append l its.toArray n u (by rw [List.size_toArray]; omega)) ⟨e, ?_⟩
  refine ⟨.non, _, I.lset (its' := its ++ [u]) hH e (by simp) (r.append (.cons ru .nil)) ?_, rfl, q⟩
  rw [List.length_append, List.length_singleton]
  omega
def xh : V → List V → Hp → VK → Prop := fun x vs H Q => ∃ l b xs zs, x = .ref l ∧ vs = [.ref b] ∧ H l = some (.lst xs) ∧ H b = some (.lst zs) ∧ xs.length + zs.length ≤ sizeLine ∧ Q .non (upd H l (.lst (xs ++ zs)))
theorem AL : MtM X "list.extend" xh := by
  intro pins s σ H x vs v us Q I rx rv h
  obtain ⟨l, b, xs, zs, rfl, rfl, hH, hB, hz, q⟩ := h
  cases rx
  obtain ⟨u, rfl, ru⟩ := rv.one
  cases ru
  obtain ⟨z, its, n, r, hl, e⟩ := I.lstM hH
  obtain ⟨z2, its2, n2, r2, hl2, e2⟩ := I.lstM hB
  have hsz : its.toArray.size + its2.toArray.size ≤ sizeLine := by rw [List.size_toArray, List.size_toArray]; omega
  have hlong : ¬ (!its.toArray.isEmpty && Builtin.List.listTooLong (its.toArray.size + its2.toArray.size)) = true := by
    rw [pC hsz, Bool.and_false]
    exact Bool.false_ne_true
  refine call_meets F.slot_list_extend ⟨_, e, rfl⟩ F.entry_list_extend (F.args_list_extend_2 _ _)
    (AutoSeq1.list_extend_list_list_0 l its.toArray n b its2.toArray n2 hlong (by rw [List.size_toArray]; omega) (by omega)) ⟨e, e2, ?_⟩
  refine ⟨.non, _, I.lset (its' := its ++ its2) hH e (by simp) (r.append r2) ?_, rfl, q⟩
  rw [List.length_append]
  omega
def BN : V → List V → Hp → VK → Prop := fun x vs H Q => ∃ l xs y, x = .ref l ∧ vs = [] ∧ H l = some (.lst xs) ∧ xs[xs.length - 1]? = some y ∧ Q y (upd H l (.lst xs.dropLast))
theorem BX : MtM X "list.pop" BN := by
  intro pins s σ H x vs v us Q I rx rv h
  obtain ⟨l, xs, y, rfl, rfl, hH, hy, q⟩ := h
  cases rx
  have hus := rv.zero
  subst hus
  obtain ⟨z, its, n, r, hl, e⟩ := I.lstM hH
  obtain ⟨u, hu, ru⟩ := r.get hy
  have hy' : its.toArray[its.toArray.size - 1]? = some u := by
    show its.toArray[its.length - 1]? = some u
    rw [← Array.getElem?_toList, ← hl]
    exact hu
  refine call_meets F.slot_list_pop ⟨_, e, rfl⟩ F.entry_list_pop (F.args_list_pop_1 _) (MeetsSeq.list_pop_last l its.toArray n u hy' (by rw [List.size_toArray]; omega)) ⟨e, ?_⟩
  refine ⟨y, _, I.lset (its' := its.dropLast) hH e ?_ r.dropLast ?_, ru, q⟩
  · show its.toArray.eraseIdxIfInBounds (its.toArray.size - 1) = its.dropLast.toArray
    rw [List.size_toArray, List.eraseIdxIfInBounds_toArray, qZ]
  · rw [List.length_dropLast]
    omega
def vn : V → List V → Hp → VK → Prop := fun x vs H Q => ∃ l xs, x = .ref l ∧ vs = [] ∧ H l = some (.lst xs) ∧ Q .non (upd H l (.lst []))
theorem vS : MtM X "list.clear" vn := by
  intro pins s σ H x vs v us Q I rx rv h
  obtain ⟨l, xs, rfl, rfl, hH, q⟩ := h
  cases rx
  have hus := rv.zero
  subst hus
  obtain ⟨z, its, n, r, hl, e⟩ := I.lstM hH
  refine call_meets F.slot_list_clear ⟨_, e, rfl⟩ F.entry_list_clear (F.args_list_clear_1 _) (AutoSeq1.list_clear_list_0 l its.toArray n (by rw [List.size_toArray]; omega)) ⟨e, ?_⟩
  exact ⟨.non, _, I.lset (its' := []) (ys := []) hH e rfl .nil (Nat.zero_le _), rfl, q⟩
def BV : R2 := fun x y H Q => ∃ l b xs zs, x = .ref l ∧ y = .ref b ∧ H l = some (.lst xs) ∧ H b = some (.lst zs) ∧ xs.length + zs.length ≤ sizeLine ∧ ∀ p, H p = none → Q (.ref p) (upd H p (.lst (xs ++ zs)))
theorem yY : OpR X (binaryOp .Add) BV := by
  intro pins s σ H x y v u Q I rx ry h
  obtain ⟨l, b, xs, zs, rfl, rfl, hH, hB, hz, q⟩ := h
  cases rx
  cases ry
  obtain ⟨z, its, n, r, hl, e⟩ := I.lstM hH
  obtain ⟨z2, its2, n2, r2, hl2, e2⟩ := I.lstM hB
  refine PySem.P.add_list e e2 ?_ (by rw [List.size_toArray, List.size_toArray]; omega)
  have ea : its.toArray ++ its2.toArray = (its ++ its2).toArray := by simp
  rw [ea]
  exact ⟨.ref _, _, I.lnew (t' := s.toks) (r.append r2) (by rw [List.length_append]; omega), rfl, q _ I.fresh⟩
end
section
variable {prog : Program} {w : World} {A : Around} {E : Value → Shared → Prop} {s : Shared}
end
section
variable {X : Cx}
end
end L2
namespace Att
open PySem PySem.W PySem.Calls PyProof.Rows
theorem jK {P : Params} {h : Heap} : ∀ (ns : List Int) (vs : List Value), WellAll P h vs (ns.map WData.int) → IntsAre vs ns := by
  intro ns
  induction ns with
  | nil =>
    intro vs w
    rw [List.map_nil] at w
    cases w
    exact .nil
  | cons n ns ih =>
    intro vs w
    rw [List.map_cons] at w
    cases w with
    | cons a b =>
      cases a
      exact .cons _ _ (ih _ b)
theorem uv {l : OpenLaw} {n : Nat} (hn : l.most = some n) {P : Params} {h : Heap} {args : List WData} {vals : List Value}
    (hpre : l.row.toRowW.claim.pre args = true) (hwl : WellAll P h vals args) :
    ∃ a vs ns, vals = [Value.ref a] ∧ args = [WData.list (ns.map WData.int)] ∧ h.get? a = some { cls := .type "list", data := .seq vs.toArray } ∧ IntsAre vs ns ∧ ns.length ≤ n := by
  have hsh : WShape.hasAll [] args [.list .int] = true := (pre_splitW hpre).1
  have hc : l.pre.holds [] { args := args } = true := (pre_splitW hpre).2
  obtain ⟨d, r, rfl, h1, h2⟩ := hasAllW_cons hsh
  obtain rfl := hasAllW_nil h2
  obtain ⟨xs, rfl, h3⟩ := hasW_list h1
  obtain ⟨ns, rfl⟩ := items_int h3
  have hlen : ns.length ≤ n := by
    unfold OpenLaw.pre at hc
    have h4 : (WTm.not (.lt (.lit (.int (n : Int))) (.len (.arg 0)))).holds [] { args := [.list (ns.map .int)] } = true := by
      have h4 := (holds_andW hc).1
      rw [hn] at h4
      exact h4
    have h5 := condW_of h4 (w_not (w_lt w_lit (w_len_list (w_arg rfl))))
    rw [List.length_map] at h5
    refine Nat.le_of_not_lt fun q => ?_
    have q' : (n : Int) < ((ns.length : Nat) : Int) := by omega
    first
      | (rw [decide_eq_true q'] at h5; exact absurd h5 (by decide))
      | (simp at h5; omega)
  cases hwl with
  | cons w1 w2 =>
    cases w2
    cases w1 with
    | list ho hall => exact ⟨_, _, ns, rfl, rfl, ho, jK ns _ hall, hlen⟩
theorem tR (l : OpenLaw) (args : List WData) : l.row.toRowW.claim.post args (.bool true) args = true :=
  postW_of (r := l.row.toRowW) (X := (true == true))
    (show WShape.has [] (.bool true) .bool = true by first | rfl | decide | simp [WShape.has, WShape.arms, WShape.armsAll])
    (show (WTm.eq .res (.lit (.bool true))).value [] { args := args, res := some (.bool true), after := args } = some (.bool (true == true)) from w_eq_bool (w_res rfl) w_lit) rfl
theorem attach_call {l : OpenLaw} {n : Nat} {q : Program} {loose : List Str} {XP : (Str → Option Value) → Heap → Prop} {YP : World → Heap → Prop} {d : DefRec}
    (hn : l.most = some n) (hdf : d.params.defaults = [])
    (call : ∀ (w : World) (s₀ s₁ : Shared) (mg mb : Str → Option Value) (fa : Addr) (o : Obj) (pm cd doc : Value) (a : Addr) (vs : List Value) (ns : List Int),
      Ground q loose [] XP w s₀ mg mb s₁.heap → YP w s₁.heap →
      s₁.heap.get? fa = some o → o.data = .func (docDef d.name d.params d.body d.scope pm cd doc) → s₁.heap.CodeRec cd d.name → mg d.name = some (.ref fa) →
      s₁.heap.get? a = some { cls := .type "list", data := .seq vs.toArray } → IntsAre vs ns → ns.length ≤ n → s₁.gens = #[] →
      codeAny (model l.prog w) callerA (.call (.ref fa) ⟨[.ref a], []⟩) (fun r s' => r = .ok (.ret (.bool true)) ∧ OldK s₁.heap s'.heap ∧ s'.os = s₁.os ∧ AllBare s'.gens) s₁) :
    WalkO q loose XP YP l.row.toRowW d [] (fun f vs => PySem.call f vs) := by
  intro w s₀ s₁ mg mb G Y fa o pm cd doc dV kV ho hd hcd hD hmg hg args vals as hpre hlay hrd hwl hlo
  obtain rfl : dV = .none := Dflts.none hD hdf
  obtain rfl : kV = .none := Dflts.noKw hD
  obtain ⟨a, vs, ns, rfl, rfl, hobj, hints, hlen⟩ := uv hn hpre hwl
  refine enter_call (codeAny_mono (call w s₀ s₁ mg mb fa o pm cd doc a vs ns G Y ho (fd_plain hd) hcd hmg hobj hints hlen hg) fun r s' hq => ?_)
  obtain ⟨rfl, h2, h3, h4⟩ := hq
  exact ⟨.inl ⟨.bool true, .bool true, [], rfl, fun _ => rfl, .bool true, tR l _, fun _ => ⟨List.Pairwise.nil, fun _ hm => (nomatch hm)⟩⟩, h2, h3, h4⟩
section
variable {prog : Program} {w : World} {A : Around} {E : Value → Shared → Prop} {s : Shared} {K : Frag}
end
end Att
namespace L2
open PySem PySem.Spec PyProof.Rows
theorem mR : ∀ {vs : List Value} {ns : List Int}, IntsAre vs ns → Vals (ns.map V.int) vs
  | _, _, .nil => .nil
  | _, _, .cons n t h => .cons ⟨t, rfl⟩ (mR h)
def ua (H : Hp) : Prop := ∀ b, H b = none ∨ ∃ o xs, H b = some (.frz o (.lst xs))
theorem wI {P : Program} {w : World} {K : PySem.W.Frag} {mg mb : Str → Option Value} {CX : CXT} {k : Nat} {fa a : Addr} {fd : FuncData} {x : Str} {sp : Sp} {s₁ : Shared} {vs : List Value} {ns : List Int}
    (KX : K.In s₁.heap) (hns : s₁.heap.Ns mainGlobals mg) (hb : s₁.heap.Ns builtinsNs mb) (hbb : ∀ x : Str, x ≠ "__name__" → mb x = bootBuiltins x) (hlim : s₁.heap.NoLimit) (hg : s₁.gens = #[])
    (ha : s₁.heap.get? a = some { cls := .type "list", data := .seq vs.toArray }) (hi : IntsAre vs ns) (hl : ns.length ≤ sizeLine) (hr : Room k callerA)
    (F : ∀ base : Heap, K.In base → base.Ns mainGlobals mg → bt P w K mg base CX k fa fd [x] sp) (hbind : ∀ (s : Shared) (u : Value), BindsTo s fd ⟨[u], []⟩ [(x, u)])
    (hsp : ∀ H : Hp, ua H → SqL K H a (ns.map V.int) → sp [.ref a] H (fun v _ => v = .bl true) fun _ _ _ => False)
    (hCX : ∀ H e s', CX [] H s₁ (fun _ _ _ => False) e s' → False) :
    codeAny (model P w) callerA (.call (.ref fa) ⟨[.ref a], []⟩) (fun r s' => r = .ok (.ret (.bool true)) ∧ OldK s₁.heap s'.heap ∧ s'.os = s₁.os ∧ AllBare s'.gens) s₁ := by
  have rv := mR hi
  have lenV := hi.length
  have core : ∀ H : Hp, ua H → SqL K H a (ns.map V.int) → HOk P w H s₁.heap → (∀ b, H b ≠ none → b = a) → (H a ≠ none → K.lookup a = none) →
      codeAny (model P w) callerA (.call (.ref fa) ⟨[.ref a], []⟩) (fun r s' => r = .ok (.ret (.bool true)) ∧ OldK s₁.heap s'.heap ∧ s'.os = s₁.os ∧ AllBare s'.gens) s₁ := by
    intro H hO hS hok hA hK
    have base_of : ∀ {b : Addr} {o : Obj}, s₁.heap.get? b = some o → H b = none → (nw s₁.heap H).get? b = some o := fun e n => wV e n
    have noA : ∀ {b : Addr} {o : Obj} {es : Array DictEntry} {ep : Nat}, s₁.heap.get? b = some o → o.data = .dict es ep → H b = none := fun {b o es ep} e d => by
      cases q : H b with
      | none => rfl
      | some u =>
        have e' : b = a := hA b (by rw [q]; simp)
        subst e'
        rw [ha] at e; cases e
        have d' : Data.seq vs.toArray _ = Data.dict es ep := d
        cases d'
    have nsK : ∀ {b : Addr} {m : Str → Option Value}, s₁.heap.Ns b m → (nw s₁.heap H).Ns b m := fun {b m} ⟨o, es, ep, e, d, r⟩ => ⟨o, es, ep, base_of e (noA e d), d, r⟩
    have hKb : K.In (nw s₁.heap H) := fun b o e => base_of (KX b o e) (by
      cases q : H b with
      | none => rfl
      | some u =>
        have e' : b = a := hA b (by rw [q]; simp)
        subst e'
        rw [hK (by rw [q]; simp)] at e; cases e)
    have hM : Mod K mg (nw s₁.heap H) := ⟨hKb, nsK hns, ⟨mb, nsK hb, hbb⟩, let ⟨mc, h1, h2⟩ := hlim; ⟨mc, nsK h1, h2⟩⟩
    have e0 : Env0 P w K mg (nw s₁.heap H) callerA [] s₁ H := ⟨rfl, hM, fun b o e => xV e, Nat.le_of_eq (uG _ _), trivial, fun b hb => absurd (show b ∈ ([] : List Addr) from hb) (by simp), hok, .of_eq hg⟩
    refine codeAny_mono ((F _ hKb (nsK hns)).run callerA [] s₁ H ⟨[.ref a], []⟩ [.ref a] [.ref a] _ _ hr e0 (hbind s₁ (.ref a)) (.cons rfl .nil) (hsp H hO hS)) fun r s' h => ?_
    cases r with
    | error e => exact (hCX H e s' h).elim
    | ok fl =>
      cases fl with
      | next => exact False.elim h
      | brk => exact False.elim h
      | cont => exact False.elim h
      | ret u =>
        obtain ⟨v, H', os, bare, un, hok', r', q⟩ := h
        have q' : v = .bl true := q
        subst q'
        obtain rfl : u = Value.bool true := r'
        refine ⟨rfl, OldK.of_keep fun b o e => ?_, os, bare⟩
        cases q : H b with
        | none => exact un.keep b o e q (by intro z; exact absurd (show b ∈ ([] : List Addr) from z) (by simp)) (by simp)
        | some u =>
          rcases hO b with z | ⟨ob, xs, z⟩
          · rw [q] at z; cases z
          · have z2 := un.frzs b ob _ z
            obtain ⟨e1, _⟩ := hok b _ z
            obtain ⟨e2, _⟩ := hok' b _ z2
            rw [e] at e1; cases e1
            exact e2
  cases hk : K.lookup a with
  | some o =>
    have e := KX a o hk
    rw [ha] at e
    cases e
    refine core (fun _ => none) (fun _ => .inl rfl) (.inr ⟨_, vs.toArray, _, hk, rfl, rfl, rfl, by rw [List.size_toArray, lenV]; exact hl, by simpa using rv⟩) (fun b u z => by have z' : (none : Option HO) = some u := z; cases z') (fun b z => absurd rfl z) fun z => absurd rfl z
  | none =>
    refine core (fun b => if b = a then some (.frz { cls := .type "list", data := .seq vs.toArray } (.lst (ns.map V.int))) else none) (fun b => ?_) (.inl (.inr ⟨{ cls := .type "list", data := .seq vs.toArray }, if_pos rfl⟩)) (fun b u z => ?_) (fun b z => ?_) fun _ => hk
    · by_cases hb : b = a
      · exact .inr ⟨_, _, if_pos hb⟩
      · exact .inl (if_neg hb)
    · by_cases hb : b = a
      · have z' := (if_pos hb).symm.trans z
        cases z'
        subst hb
        exact ⟨ha, by rw [List.length_map]; exact hl, vs, _, rv, ha⟩
      · have z' := (if_neg hb).symm.trans z
        cases z'
    · by_cases hb : b = a
      · exact hb
      · exact absurd (if_neg hb) z
end L2
namespace L2
open PySem PySem.Spec PyProof.Rows
theorem xu {l : PySem.W.OpenLaw} {n k : Nat} {q : Program} {loose : List Str} {XP : (Str → Option Value) → Heap → Prop} {YP : World → Heap → Prop} {d : DefRec} {K : Params → PySem.W.Frag} {CX : World → CXT} {sp : World → Sp} {x : Str}
    (hn : l.most = some n) (hn2 : n ≤ sizeLine) (hdf : d.params.defaults = []) (hr : Room k callerA)
    (hY : ∀ (w : World) (h : Heap), YP w h → (K w.params).In h)
    (F : ∀ (w : World) (mg : Str → Option Value) (fa : Addr) (h : Heap), (K w.params).In h → h.Ns mainGlobals mg → mg d.name = some (.ref fa) →
      ∃ fd : FuncData, (∀ (s : Shared) (u : Value), BindsTo s fd ⟨[u], []⟩ [(x, u)]) ∧
        ∀ base : Heap, (K w.params).In base → base.Ns mainGlobals mg → bt l.prog w (K w.params) mg base (CX w) k fa fd [x] (sp w))
    (hsp : ∀ (w : World) (H : Hp) (a : Addr) (ns : List Int), ns.length ≤ n → ua H → SqL (K w.params) H a (ns.map V.int) → sp w [.ref a] H (fun v _ => v = .bl true) fun _ _ _ => False)
    (hCX : ∀ (w : World) (H : Hp) (s : Shared) (e : Value) (s' : Shared), CX w [] H s (fun _ _ _ => False) e s' → False) :
    PySem.W.WalkO q loose XP YP l.row.toRowW d [] (fun f vs => PySem.call f vs) := by
  refine Att.attach_call hn hdf fun w s₀ s₁ mg mb fa o pm cd doc a vs ns G Y ho hd hcd hmg hobj hints hlen hg => ?_
  have KX := hY w _ Y
  obtain ⟨fd, hb, hF⟩ := F w mg fa _ KX G.T.g hmg
  exact wI KX G.T.g G.T.b G.T.builtins G.T.nolimit hg hobj hints (Nat.le_trans hlen hn2) hr hF hb (fun H hO hS => hsp w H a ns hlen hO hS) fun H e s' => hCX w H s₁ e s'
end L2
namespace L2
open PySem PySem.Spec PyProof.Rows
abbrev CX0 : CXT := fun _ _ _ _ _ _ => False
structure Fun (K : PySem.W.Frag) (x qual : Str) (st : Stmt) (f : Addr) (fd : FuncData) : Prop where
  ex : ∃ (oc : Value) (od : Option Addr) (kV doc pm : Value) (an : Option Addr) (cdv ct : Value) (osl : Array (Option Value)),
    fd = PySem.W.fnOf x qual (ay st) (av st) (af st) .none kV doc pm an cdv ct ∧ K.lookup f = some ⟨oc, od, .func fd, osl⟩ ∧ PySem.W.codeIn K cdv qual = true
  kp : PySem.W.keepIn K (.ref f) = true
section
variable {P : Program} {w : World} {K : PySem.W.Frag} {mg : Str → Option Value} {base : Heap}
theorem Fun.binds {x qual : Str} {st : Stmt} {f : Addr} {fd : FuncData} {ps : List Str} (F : Fun K x qual st f fd)
    (h : ∀ (kV doc pm : Value) (an : Option Addr) (cdv ct : Value) (us : List Value), us.length = ps.length → bindArgs (PySem.W.fnOf x qual (ay st) (av st) (af st) .none kV doc pm an cdv ct) ⟨us, []⟩ = pure (ps.zip us)) : Binds K fd ps [] := by
  obtain ⟨oc, od, kV, doc, pm, an, cdv, ct, osl, rfl, lk, hcd⟩ := F.ex
  exact .all (h kV doc pm an cdv ct)
theorem aE {x qual : Str} {st : Stmt} {f : Addr} {oc : Value} {od an : Option Addr} {osl : Array (Option Value)} {kV doc pm cdv ct : Value} (l : K.lookup f = some ⟨oc, od, .func (PySem.W.fnOf x qual (ay st) (av st) (af st) .none kV doc pm an cdv ct), osl⟩)
    (c : PySem.W.codeIn K cdv qual = true) (k : PySem.W.keepIn K (.ref f) = true) : Fun K x qual st f (PySem.W.fnOf x qual (ay st) (av st) (af st) .none kV doc pm an cdv ct) := ⟨⟨oc, od, kV, doc, pm, an, cdv, ct, osl, rfl, l, c⟩, k⟩
end
section
variable {X : Cx}
end
theorem uC {A B : Prop} (h : B) : if false = true then A else B := by
  rw [if_neg Bool.false_ne_true]
  exact h
theorem zV {A B : Prop} (h : A) : if true = true then A else B := by
  rw [if_pos rfl]
  exact h
def Same (H H' : Hp) : Prop := ∀ b o, H b = some o → H' b = some o
theorem Same.refl (H : Hp) : Same H H := fun _ _ h => h
theorem Same.trans {H H1 H2 : Hp} (a : Same H H1) (b : Same H1 H2) : Same H H2 := fun c o h => b c o (a c o h)
theorem Same.free {H H' : Hp} (e : Same H H') {l : Addr} (h : H' l = Option.none) : H l = Option.none := by
  cases q : H l with
  | none => rfl
  | some o =>
    rw [e l o q] at h
    cases h
end L2
set_option Elab.async false
set_option linter.all false
set_option maxRecDepth 100000
namespace L2
open PySem PySem.Spec PyProof.Rows
def kj : HO → Bool
  | .dT _ => false
  | .frz _ u => kj u
  | _ => true
def NoT (H : Hp) : Prop := ∀ a o, H a = some o → kj o = true
def ig : HO → Bool
  | .lst _ => true
  | .tup _ => true
  | .dK _ => true
  | .rng _ _ => true
  | _ => false
structure Gc (H G H' : Hp) : Prop where
  a : Same H G
  b : Same G H'
  c : ∀ p o, G p = some o → H p = some o ∨ ig o = true
section
variable {P : Program} {w : World} {H G H' : Hp} {h h' : Heap} {a : Addr} {o : HO}
theorem ObjOk.gc (n : kj o = true) (x0 : ObjOk P w H h a o) (x : ObjOk P w H' h' a o) : ObjOk P w H h' a o := by
  induction o with
  | ins C dx fs => exact ⟨x0.1, x.2⟩
  | dT kvs => cases n
  | frz ob u ih => exact ⟨x.1, ih n x0.2 x.2⟩
  | _ => exact x
theorem ObjOk.plain (n : ig o = true) (x : ObjOk P w H' h' a o) : ObjOk P w H h' a o := by
  cases o with
  | lst xs => exact x
  | tup xs => exact x
  | dK kvs => exact x
  | rng lo hi => exact x
  | _ => cases n
theorem HOk.gc (n : NoT H) (x0 : HOk P w H h) (x : HOk P w H' h') (g : Gc H G H') : HOk P w G h' := fun a o e => by
  rcases g.c a o e with q | q
  · refine (((x0 a o q).gc (n a o q) (x a o (g.b a o e)))).stay (fun _ _ _ z => z) (fun b z => g.a _ _ z) fun b xs z => g.a _ _ z
  · exact (x a o (g.b a o e)).plain q
theorem Un.gc {fs ex : List Addr} (u : Un fs ex H H' h h') (g : Gc H G H') : Un fs ex H G h h' :=
  ⟨u.keep, u.slot, fun b o q n hx => g.b.free (u.free b o q n hx), u.there, fun b xs q => g.a _ _ q, fun b o x q => g.a _ _ q, fun b ps q => ⟨#[], by rw [Array.append_empty]; exact g.a _ _ q⟩⟩
theorem Gc.refl : Gc H H H := ⟨Same.refl H, Same.refl H, fun _ _ e => .inl e⟩
theorem Gc.none (s : Same H H') : Gc H H H' := ⟨Same.refl H, s, fun _ _ e => .inl e⟩
theorem aj {p : Addr} (o : HO) (hp : H p = Option.none) : Same H (upd H p o) := fun b u e => by rw [ap (ai e hp)]; exact e
theorem Gc.one {p : Addr} (s : Same H H') (hp : H p = Option.none) (e : H' p = some o) (n : ig o = true) : Gc H (upd H p o) H' :=
  ⟨aj o hp, fun b u z => by
    by_cases hb : b = p
    · subst hb; rw [ad] at z; cases z; exact e
    · rw [ap hb] at z; exact s b u z, fun b u z => by
    by_cases hb : b = p
    · subst hb; rw [ad] at z; cases z; exact .inr n
    · rw [ap hb] at z; exact .inl z⟩
theorem NoT.upd {p : Addr} (n : NoT H) (d : kj o = true) : NoT (upd H p o) := fun b u z => by
  by_cases hb : b = p
  · subst hb; rw [ad] at z; cases z; exact d
  · rw [ap hb] at z; exact n b u z
end
theorem Inv.gc {X : Cx} {pins pins' : List (Addr × Obj)} {σ σ' : St} {H G H' : Hp} {s s' : Shared} (n : NoT H) (I : Inv X pins σ H s) (J : Inv X pins' σ' H' s') (g : Gc H G H') : Inv X pins' σ' G s' :=
  ⟨J.ok, J.os, J.bare, ⟨J.base.keep, J.base.slot, fun b o q z hx => g.b.free (J.base.free b o q z hx), J.base.there, fun b xs q => g.a _ _ (I.base.tups b xs q), fun b o x q => g.a _ _ (I.base.frzs b o x q), fun b ps q => let ⟨m, e⟩ := I.base.tbls b ps q; ⟨m, g.a _ _ e⟩⟩,
   J.loc, J.cell, g.b.free J.free, fun x c e => g.b.free (J.freeC x c e), fun p hp => let ⟨e, z, r⟩ := J.pin p hp; ⟨e, g.b.free z, r⟩, HOk.gc n I.hok J.hok g, J.len⟩
def tGc (t : TE) : TE := fun σ H Q => NoT H ∧ t σ H fun v H' => ∃ G, Gc H G H' ∧ Q v G
theorem yC {X : Cx} {e : Expr} {t : TE} (h : PE X e t) : PE X e (tGc t) := fun pins s σ H Q I ⟨n, q⟩ =>
  thn (h pins s σ H _ I q) fun u s1 ⟨v, H1, I1, r, G, g, q1⟩ => ⟨v, G, I.gc n I1 g, r, q1⟩
def A5 (t : TT) : TT := fun σ H Q => NoT H ∧ t σ H fun v H' => ∃ G, Gc H G H' ∧ Q v G
theorem Bj {X : Cx} {e : Expr} {t : TT} (h : PT X e t) : PT X e (A5 t) := fun pins s σ H Q I ⟨n, q⟩ =>
  thn (h pins s σ H _ I q) fun u s1 ⟨H1, I1, G, g, q1⟩ => ⟨G, I.gc n I1 g, q1⟩
end L2
set_option Elab.async false
set_option linter.all false
set_option maxRecDepth 100000
namespace L2
open PySem PySem.Spec PyProof.Rows
theorem ObjOk.at_ {P : Program} {w : World} {H : Hp} {h : Heap} {a : Addr} {o : HO} (x : ObjOk P w H h a o) : ∃ ob, h.get? a = some ob := by
  cases o with
  | lst xs => obtain ⟨_, _, _, _, e⟩ := x; exact ⟨_, e⟩
  | tup xs => obtain ⟨_, _, _, ob, e, _⟩ := x; exact ⟨_, e⟩
  | dK kvs => obtain ⟨_, _, _, _, o, _, _, e, _⟩ := x; exact ⟨_, e⟩
  | dT kvs => obtain ⟨_, _, _, _, o, _, _, e, _⟩ := x; exact ⟨_, e⟩
  | set S n => obtain ⟨o, _, _, _, e, _⟩ := x; exact ⟨_, e⟩
  | ins C dx fs => obtain ⟨_, _, _, e, _⟩ := x; exact ⟨_, e⟩
  | own y => obtain ⟨_, e⟩ := x; exact ⟨_, e⟩
  | xd fs => obtain ⟨_, ⟨_, _, _, e, _⟩, _⟩ := x; exact ⟨_, e⟩
  | rng lo hi => obtain ⟨_, _, _, e⟩ := x; exact ⟨_, e⟩
  | frz ob u => obtain ⟨e, _⟩ := x; exact ⟨_, e⟩
  | tbl ps => exact ⟨_, (show h.get? a = some _ from x)⟩
  | met f y => exact ⟨_, (show h.get? a = some _ from x)⟩
  | ext φ => obtain ⟨_, ⟨_, e⟩, _⟩ := x; exact ⟨_, e⟩
theorem HOk.none_of {P : Program} {w : World} {H : Hp} {h : Heap} {a : Addr} (x : HOk P w H h) (e : h.get? a = none) : H a = none := by
  cases q : H a with
  | none => rfl
  | some u =>
    obtain ⟨ob, z⟩ := (x a u q).at_
    rw [e] at z; cases z
def hid (h : Heap) (l : List Env) (rs : List Addr) : Heap := PySem.W.hideAll h (frs l ++ rs)
theorem oh {h : Heap} {l : List Env} {rs : List Addr} {b : Addr} {o : Obj} (e : h.get? b = some o) (h1 : b ∉ frs l) (h2 : b ∉ rs) : (hid h l rs).get? b = some o :=
  PySem.W.hideAll_get _ e fun z => (List.mem_append.mp z).elim h1 h2
theorem rH {h : Heap} {l : List Env} {rs : List Addr} {b : Addr} {o : Obj} (e : (hid h l rs).get? b = some o) : h.get? b = some o := PySem.W.of_hideAll _ e
theorem oY {h : Heap} {l : List Env} {rs : List Addr} {b : Addr} (e : b ∈ rs) : (hid h l rs).get? b = none := PySem.W.hideAll_none _ (List.mem_append_right _ e)
theorem ic {h base : Heap} {l : List Env} {rs : List Addr} (e : h.FunFrames base l) : h.FunFrames (hid h l rs) l :=
  PySem.W.funFrames_hide e fun _ he _ ha => List.mem_append_left _ (List.mem_filterMap.mpr ⟨_, he, ha⟩)
def Fly (l : List Env) (rs : List Addr) (e : Addr) (cls : Value) (h : Heap) : Prop := e ∈ rs ∧ ∃ a0, Heap.FlyingW (hid h l rs) l e cls a0 h
def XE (P : Program) (w : World) : CXT := fun outer H s E ev s' => ∃ (e : Addr) (C : Value) (rs : List Addr) (H' : Hp), ev = .ref e ∧ s'.os = s.os ∧ AllBare s'.gens ∧ Un (frs outer) [] H H' s.heap s'.heap ∧
  HOk P w H' s'.heap ∧ (∀ b ∈ rs, s.heap.get? b = none ∧ H' b = none) ∧ Fly outer rs e C s'.heap ∧ E C none H'
section
variable {X : Cx} {pins : List (Addr × Obj)} {σ : St} {H : Hp} {s : Shared} {h' : Heap} {rs : List Addr}
theorem Inv.s0_none (I : Inv X pins σ H s) (hex : X.ex = []) {b : Addr} (e : s.heap.get? b = none) : X.s₀.heap.get? b = none := by
  cases q : X.s₀.heap.get? b with
  | none => rfl
  | some o =>
    obtain ⟨o', z⟩ := I.base.there b o q (by rw [hex]; simp)
    rw [e] at z; cases z
theorem Inv.noteUn (I : Inv X pins σ H s) (hex : X.ex = []) (hrs : ∀ b ∈ rs, X.s₀.heap.get? b = none)
    (stay : ∀ b o, s.heap.get? b = some o → b ∉ frs X.stack → b ∉ rs → h'.get? b = some o) (up : s.heap.UpToSlots h') : Un X.fs [] X.H₀ H X.s₀.heap h' := by
  have B := I.base
  rw [hex] at B
  have nrs : ∀ b o, X.s₀.heap.get? b = some o → b ∉ rs := fun b o e z => by rw [hrs b z] at e; cases e
  have nst : ∀ b o, X.s₀.heap.get? b = some o → b ∉ X.fs → b ∉ frs X.stack := fun b o e hb z => by
    rcases List.mem_cons.mp (I.stkSub b z) with q | q
    · exact absurd (Nat.lt_of_lt_of_le (Heap.lt_size e) I.ok.above) (by rw [q]; exact Nat.lt_irrefl _)
    · exact hb q
  refine ⟨fun b o q n hb hx => stay b o (B.keep b o q n hb hx) (nst b o q hb) (nrs b o q), fun b o q n hb hx => ?_, fun b o q n hx => B.free b o q n hx, fun b o q hx => ?_, B.tups, B.frzs, B.tbls⟩
  · obtain ⟨sl, e1⟩ := B.slot b o q n hb hx
    obtain ⟨_, o', ho', hd⟩ := I.funs.mem hb
    rw [e1] at ho'; cases ho'
    obtain ⟨sl', e2⟩ := up b _ e1 hd
    exact ⟨sl', e2⟩
  · obtain ⟨o', e1⟩ := B.there b o q hx
    by_cases hb : b ∈ frs X.stack
    · obtain ⟨_, o2, ho2, hd⟩ := I.stack.mem hb
      obtain ⟨sl', e2⟩ := up b _ ho2 hd
      exact ⟨_, e2⟩
    · exact ⟨o', stay b o' e1 hb (nrs b o q)⟩
theorem Inv.noteOk (I : Inv X pins σ H s) (hrs : ∀ b ∈ rs, H b = none) (stay : ∀ b o, s.heap.get? b = some o → b ∉ frs X.stack → b ∉ rs → h'.get? b = some o) : HOk X.prog X.w H h' := fun a o e =>
  (I.hok a o e).stay (fun b u hb q => stay b u q (fun z => by
      have n := I.stkFree b z
      rcases hb with r | r
      · rw [r, e] at n; cases n
      · rw [r] at n; cases n) fun z => by
      have n := hrs b z
      rcases hb with r | r
      · rw [r, e] at n; cases n
      · rw [r] at n; cases n) (fun _ q => q) fun _ _ q => q
theorem sI {base : Heap} {l : List Env} {h h1 : Heap} {T : Addr} {oT : Obj} {ts : Array Value} (hl : h.FunFrames base l) (up : h.UpToSlots h1) (e : (hid h l rs).get? T = none) (hT : h1.get? T = some oT) (hd : oT.data = .fields ts) : h.get? T = none ∨ T ∈ rs := by
  by_cases hr : T ∈ rs
  · exact .inr hr
  · refine .inl ?_
    cases q : h.get? T with
    | none => rfl
    | some o =>
      by_cases hf : T ∈ frs l
      · obtain ⟨_, o2, ho2, hnf⟩ := hl.mem hf
        rw [q] at ho2; cases ho2
        obtain ⟨sl, e2⟩ := up T o q hnf
        rw [hT] at e2; cases e2
        exact absurd hd (hnf ts)
      · rw [oh q hf hr] at e; cases e
end
section
variable {P : Program} {w : World} {K : PySem.W.Frag} {mg : Str → Option Value} {base : Heap} {N : List Str} {qual : Str} {scope : Scope} {f : Addr} {cd : Value} {A : Around} {outer : List Env} {s₀ : Shared} {H₀ : Hp} {E : XK}
theorem rS {pins : List (Addr × Obj)} {σ : St} {H : Hp} {s : Shared} {h' : Heap} {e : Addr} {cls : Value} {args : List Value}
    (I : Inv (cL (XE P w) P w K mg base N qual scope f cd A outer s₀ H₀ E) pins σ H s) (hx : Heap.MadeExcOf s.heap h' e cls args) (q : E cls none H) :
    (cL (XE P w) P w K mg base N qual scope f cd A outer s₀ H₀ E).xe (.ref e) { s with heap := h' } := by
  show wpAny (model P w) (A.deeper (envOfC qual scope s₀.heap.objs.size f cd)) (leaving (envOfC qual scope s₀.heap.objs.size f cd) (.ref e)) (fun _ s'' => XE P w outer H₀ s₀ E (.ref e) s'') (fun e' s'' => XE P w outer H₀ s₀ E e' s'') { s with heap := h' }
  have hst : s.heap.FunFrames base (envOfC qual scope s₀.heap.objs.size f cd :: outer) := I.stack
  refine wpAny_leaves_madeW (base := hid s.heap (envOfC qual scope s₀.heap.objs.size f cd :: outer) []) (h := s.heap) I.ok.frames rfl (fun b o z => rH z) (ic hst) hx fun h'' t fl tup tn up => ?_
  obtain ⟨f1, f2, f3, oe, vs, T, oT, ts, he, hc, hd, h1, hnT, hTe, hT, hdT, h3⟩ := fl
  have up' : s.heap.UpToSlots h'' := (Heap.UpToSlots.of_keeps hx.keeps).trans up
  have nT : s.heap.get? T = none := (sI hst up' hnT hT hdT).elim id fun z => nomatch z
  have stay : ∀ b o, s.heap.get? b = some o → b ∉ frs (envOfC qual scope s₀.heap.objs.size f cd :: outer) → b ∉ [e, T] → h''.get? b = some o := fun b o z hb _ => f1 b o (oh z hb fun y => nomatch y)
  have n0 : ∀ b ∈ [e, T], s.heap.get? b = none := fun b hb => by
    rcases List.mem_cons.mp hb with r | r
    · rw [r]; exact hx.new
    · rw [List.mem_singleton.mp r]; exact nT
  have n1 : ∀ b ∈ [e, T], s₀.heap.get? b = none := fun b hb => I.s0_none rfl (n0 b hb)
  have n2 : ∀ b ∈ [e, T], H b = none := fun b hb => I.hok.none_of (n0 b hb)
  refine ⟨e, cls, [e, T], H, rfl, I.os, I.bare, I.noteUn rfl n1 stay up', I.noteOk n2 stay, fun b hb => ⟨n1 b hb, n2 b hb⟩, ⟨.head _, .ref t, ?_⟩, q⟩
  exact ⟨fun b o z => rH z, oY (.head _), ic f3, oe, vs, T, oT, ts, he, hc, hd, h1, oY (.tail _ (.head _)), hTe, hT, hdT, h3⟩
abbrev XKs := St → XK
def dM (CX : CXT) (X : Cx) (E : XKs) : Prop := ∀ (pins : List (Addr × Obj)) (σ : St) (H : Hp) (s : Shared) (e : Value) (s' : Shared), Inv X pins σ H s → CX X.stack H s (E σ) e s' → X.xe e s'
def wS (X : Cx) (E : XKs) : Prop := ∀ (pins : List (Addr × Obj)) (σ : St) (H : Hp) (s : Shared) (h' : Heap) (e : Addr) (cls : Value) (args : List Value), Inv X pins σ H s → Heap.MadeExcOf s.heap h' e cls args → E σ cls none H → X.xe (.ref e) { s with heap := h' }
theorem dh : wS (cL (XE P w) P w K mg base N qual scope f cd A outer s₀ H₀ E) (fun _ => E) := fun _ _ _ _ _ _ _ _ I hx q => rS I hx q
theorem aC : dM (XE P w) (cL (XE P w) P w K mg base N qual scope f cd A outer s₀ H₀ E) (fun _ => E) := by
  intro pins σ H s ev s' I hq
  obtain ⟨e, C, rs, H', rfl, os, bare, un, hok, hrs, ⟨her, a0, fl⟩, q⟩ := hq
  have J : Inv (cL (XE P w) P w K mg base N qual scope f cd A outer s₀ H₀ E) pins σ H' s' := I.call' os un hok bare (fun b z => nomatch z)
  show wpAny (model P w) (A.deeper (envOfC qual scope s₀.heap.objs.size f cd)) (leaving (envOfC qual scope s₀.heap.objs.size f cd) (.ref e)) (fun _ s'' => XE P w outer H₀ s₀ E (.ref e) s'') (fun e' s'' => XE P w outer H₀ s₀ E e' s'') s'
  have hst : s'.heap.FunFrames base (envOfC qual scope s₀.heap.objs.size f cd :: outer) := J.stack
  refine wpAny_leaves_onW (base := hid s'.heap (envOfC qual scope s₀.heap.objs.size f cd :: outer) rs) I.ok.frames rfl fl fun h'' fl' up => ?_
  obtain ⟨f1, f2, f3, oe, vs, T, oT, ts, he, hc, hd, h1, hnT, hTe, hT, hdT, h3⟩ := fl'
  have nT := sI hst up hnT hT hdT
  have stay : ∀ b o, s'.heap.get? b = some o → b ∉ frs (envOfC qual scope s₀.heap.objs.size f cd :: outer) → b ∉ T :: rs → h''.get? b = some o := fun b o z hb hr => f1 b o (oh z hb fun y => hr (.tail _ y))
  have n1 : ∀ b ∈ T :: rs, s₀.heap.get? b = none := fun b hb => by
    rcases List.mem_cons.mp hb with r | r
    · rw [r]
      rcases nT with z | z
      · exact J.s0_none rfl z
      · exact I.s0_none rfl (hrs T z).1
    · exact I.s0_none rfl (hrs b r).1
  have n2 : ∀ b ∈ T :: rs, H' b = none := fun b hb => by
    rcases List.mem_cons.mp hb with r | r
    · rw [r]
      rcases nT with z | z
      · exact hok.none_of z
      · exact (hrs T z).2
    · exact (hrs b r).2
  refine ⟨e, C, T :: rs, H', rfl, J.os, J.bare, J.noteUn rfl n1 stay up, J.noteOk n2 stay, fun b hb => ⟨n1 b hb, n2 b hb⟩, ⟨.tail _ her, a0, ?_⟩, q⟩
  exact ⟨fun b o z => rH z, oY (.tail _ her), ic f3, oe, vs, T, oT, ts, he, hc, hd, h1, oY (.head _), hTe, hT, hdT, h3⟩
end
def vh (sp : Sp) (dvs : List V) (E : XKs) (t : TA) : TE := fun σ H Q => t σ H fun vs H1 => sp (vs ++ dvs) H1 Q (E σ)
section
variable {X : Cx} {CX : CXT} {k : Nat} {f C : Addr} {fd : FuncData} {ps : List Str} {sp : Sp} {dvs : List V} {ds : List Value} {E : XKs} {x m : Str} {p pos apos : Pos} {e o : Expr} {es : List Expr} {ta : TE} {t : TA}
theorem og {pins : List (Addr × Obj)} {σ : St} {H : Hp} {s : Shared} {Q : VK} {us : List Value} {vs : List V} (F : bt X.prog X.w X.K X.mg X.base CX k f fd ps sp) (hr : Room k X.A) (hb : Binds X.K fd ps ds) (hd : Vals dvs ds) (hx : dM CX X E)
    (I : Inv X pins σ H s) (r : Vals vs us) (h : sp (vs ++ dvs) H Q (E σ)) : wpAny (model X.prog X.w) X.A (call (.ref f) us) (EP X pins σ Q) X.xe s := by
  have r2 : Vals (vs ++ dvs) (us ++ ds) := r.append hd
  have hl : (us ++ ds).length = ps.length := by rw [← r2.length]; exact F.len _ _ _ _ h
  refine wpAny_call (codeAny_mono (F.run X.A X.stack s H ⟨us, []⟩ (us ++ ds) (vs ++ dvs) Q (E σ) hr I.env0 (hb s us I.kIn hl) r2 h) fun r s' hq => ?_)
  cases r with
  | error e => exact hx pins σ H s e s' I hq
  | ok fl =>
    cases fl with
    | ret u => exact I.after hq
    | next => exact False.elim hq
    | brk => exact False.elim hq
    | cont => exact False.elim hq
theorem au (F : bt X.prog X.w X.K X.mg X.base CX k f fd ps sp) (hr : Room k X.A) (hg : Gl X x) (hm : X.mg x = some (.ref f)) (hk : PySem.W.keepIn X.K (.ref f) = true) (hb : Binds X.K fd ps ds) (hd : Vals dvs ds) (hx : dM CX X E)
    (ha : PA X (e :: es) t) (hdb : (x == ("__debug__" : Str)) = false := by decide) (he : starEach (e :: es) X.env = (false, eval e X.env) :: starEach es X.env := by rfl) (hpl : (backTo pos (starEach es X.env)).any (·.1) = false := by rfl) :
    PE X (.Call (.Name x p) (e :: es) [] pos) (vh sp dvs E t) := by
  intro pins s σ H Q I h
  refine wpAny_Call_Name_kw (ik I hg hm ?_ hdb)
  refine PySem.W.callWith_K (h₀ := X.base) I.ok.mod.kin hk (thn (ha pos pins s σ H _ I h) fun us s1 ⟨vs, H1, I1, r, q⟩ => ⟨I1.kIn, ?_⟩) he hpl
  exact og F hr hb hd hx I1 r q
end
section
variable {P : Program} {w : World} {K : PySem.W.Frag} {mg : Str → Option Value} {base : Heap}
theorem Fun.okX {x qual : Str} {st : Stmt} {f : Addr} {fd : FuncData} {N ps : List Str} {k : Nat} {sp : Sp} (F : Fun K x qual st f fd) (S : az N ps (af st)) (len : ∀ vs H Q E, sp vs H Q E → vs.length = ps.length)
    (hbody : ∀ (cdv : Value) (A : Around) (outer : List Env) (s : Shared) (H : Hp) (vs : List V) (Q : VK) (E : XK), Room k (A.deeper (envOfC qual (af st) s.heap.objs.size f cdv)) → sp vs H Q E →
      ∃ t, PSs (cL (XE P w) P w K mg base N qual (af st) f cdv A outer s H E) (av st) t ∧ t { nx := fun _ H' => Q .non H', rt := Q } (fL N vs) H) : bt P w K mg base (XE P w) (k + 1) f fd ps sp := by
  obtain ⟨oc, od, kV, doc, pm, an, cdv, ct, osl, rfl, lk, hcd⟩ := F.ex
  exact Bl lk hcd S len fun A outer s H vs Q E hr hsp => hbody cdv A outer s H vs Q E hr hsp
end
theorem ye {K : PySem.W.Frag} {h : Heap} {C : Addr} {bmB : List Value} {newId : String} (X : K.In h) (q : PySem.W.excIn K C bmB newId = true) :
    ∃ bm N nm qn bs hdct sn sub ab col dd k0 k1 k2 k3 k5 mN, h.get? C = some (excClassObj nm qn C N bs bm hdct sn sub ab col dd k0 k1 k2 k3 k5 newId) ∧ h.Ns N mN ∧ mN "__init__" = none ∧ OwnTail h bmB bm := by
  unfold PySem.W.excIn at q
  split at q
  · rename_i dd cd sl ho
    split at q
    · rename_i C' bm k0 k1 k2 k3 n k5 hm hs
      simp only [Bool.and_eq_true, beq_iff_eq, Bool.not_eq_true'] at q
      obtain ⟨⟨⟨⟨⟨rfl, rfl⟩, hdel⟩, ht⟩, hok⟩, hni⟩ := q
      obtain ⟨nm, bs, mro, ns, qn, hd, sn, sub, ab, col, del⟩ := cd
      dsimp only at hm hdel hok hni
      subst hm hdel
      have hsl : sl = #[k0, k1, k2, k3, some (.builtin n), k5] := by
        obtain ⟨l⟩ := sl
        simp only at hs
        rw [hs]
      subst hsl
      exact ⟨bm, ns, nm, qn, bs, hd, sn, sub, ab, col, dd, k0, k1, k2, k3, k5, _, X _ _ ho, .of_isNs (PySem.W.isNs_of_in X hok), PySem.W.nsMap_none_of_in X hok hni, PySem.W.tail_of_in X ht⟩
    · cases q
  · cases q
def wO (C : Addr) (E : XKs) (t : TA) : TS := fun _ σ H => t σ H fun vs H1 => vs.length ≤ sizeLine ∧ E σ (.ref C) none H1
theorem cD {X : Cx} {x : Str} {C : Addr} {bmB : List Value} {B newId initId : String} {E : XKs} {e : Expr} {es : List Expr} {t : TA} {np cpos pos : Pos} (O : PySem.W.excIn X.K C bmB newId = true) (FB : ExcBaseFacts B newId initId bmB)
    (hc : X.calm = true) (hg : Gl X x) (hm : X.mg x = some (.ref C)) (hx : wS X E) (ha : PA X (e :: es) t) (hdb : (x == ("__debug__" : Str)) = false := by decide)
    (he : starEach (e :: es) X.env = (false, eval e X.env) :: starEach es X.env := by rfl) (hpl : (backTo cpos (starEach es X.env)).any (·.1) = false := by rfl) :
    PS X (.Raise (some (.Call (.Name x np) (e :: es) [] cpos)) none pos) (wO C E t) := by
  intro pins s σ H D I h
  obtain ⟨tl, N, nm, q, bs, hdct, sn, sub, ab, col, dd, k0, k1, k2, k3, k5, mN, hC, hN, hni, T⟩ := ye I.mod.kin O
  refine wpAny_Raise_call_subT (C := C) (nm := nm) (q := q) (N := N) (bs := bs) (bm := tl) (hdct := hdct) (sn := sn) (sub := sub) (ab := ab) (col := col) (dd := dd) (k0 := k0) (k1 := k1) (k2 := k2) (k3 := k3) (k5 := k5)
    FB (mN := mN) (T.hasType FB.hasBase) (I.ok.hd hc) (by rw [he]; show (false || (backTo cpos (starEach es X.env)).any (·.1)) = false; rw [hpl]; rfl) hni (ik I hg hm ⟨rfl, ?_⟩ hdb)
  have hA := ha cpos pins s σ H _ I h
  rw [he] at hA ⊢
  refine Calls.evalArgs_plain (thn hA fun us s1 ⟨vs, H1, I1, r, hz, q1⟩ => ⟨rfl, by rw [← r.length]; exact hz, I1.bk _ _ hC, hN.keeps I1.bk, T.keeps I1.bk, fun h' e' hm' => ?_⟩)
  exact hx pins σ H1 s1 h' e' (.ref C) us I1 hm' q1
end L2
set_option Elab.async false
set_option linter.all false
set_option maxRecDepth 100000
namespace L2
open PySem PySem.Spec PyProof.Rows
section
variable {X : Cx} {pins : List (Addr × Obj)} {σ : St} {H : Hp} {s : Shared} {h' : Heap} {rs : List Addr}
end
def pM (C : Value) (e : Addr) : HO := HO.ext fun h => ∃ o vs, h.get? e = some o ∧ o.cls = C ∧ o.data = .fields vs
end L2
set_option Elab.async false
set_option linter.all false
set_option maxRecDepth 100000
namespace L2
open PySem PySem.Spec PyProof.Rows PySem.W
inductive ui : V → Value → Prop where
  | ty (n : String) : ui (.ty n) (.type n)
  | own (a : Addr) : ui (.ref a) (.ref a)
section
variable {X : Cx}
theorem pN : CallR X (.builtin "isinstance") (fun xs H Q => ∃ x c t u b, xs = [x, c] ∧ ui c u ∧ hE X.K H x t ∧ PySem.W.kitOne X.K t u = some b ∧ Q (.bl b) H) := by
  intro pins s σ H xs us Q I r h
  obtain ⟨x, c, t, u, b, rfl, rc, ty, e, q⟩ := h
  obtain ⟨ux, uc, rfl, rx, rc'⟩ := tF r
  have ec : uc = u := by
    cases rc with
    | ty n => exact rc'
    | own a => exact rc'
  subst ec
  exact uH I rx ty e fun tk => ⟨.bl b, H, I.tok _, rfl, q⟩
end
structure eX (K : Frag) (C : Addr) : Prop where
  l1 : findIn K (.ref C) "__getattribute__" = some (some (.builtin "BaseException.__getattribute__"))
  l2 : findIn K (.ref C) "__getattr__" = some none
  l3 : findIn K (.ref C) "__class__" = some (some (.builtin "object.__class__"))
  c1 : (clsIn K C).isSome = true
  m1 : mroIn K C (.type "object") = some true
  m2 : mroIn K C (.type "BaseException") = some true
section
variable {prog : Program} {w : World} {A : Around} {E : Value → Shared → Prop} {K : Frag} {e C : Addr} {o : Obj} {s : Shared}
open Builtin Builtin.ObjectAttr Builtin.Getset_descriptor PySem.Calls in
theorem mj {R : Result → Shared → Prop} {tp : Value} (X : K.In s.heap) (Z : eX K C) (hx : s.heap.get? e = some o) (hc : o.cls = .ref C)
    (h : R (.ok (.ret (.ref C))) s) : codeAny (model prog w) A (.call (.builtin "getset_descriptor.__get__") ⟨[.builtin "object.__class__", .ref e, tp], []⟩) R s := by
  obtain ⟨hh, g, dr, t, os⟩ := s
  have L0 : Looks (model prog w) hh (typeOf (.ref e)) (.ref C) := hc ▸ (Looks.ld hx).andThen .now
  have L1 := looks_mroIn (M := model prog w) X Z.m1
  refine codeAny_call_builtin KF.slot_gs.plain KF.entry_gs (KF.slot_gs.check _ _ _ _ _ _ _ _ KF.type_class (KF.args_gs _ _ _) ?_)
  unfold Builtin.«getset_descriptor.__get__» descrGet
  rw [dga_obj]
  refine wpAny_bind (wpAny_pure ?_)
  unfold descrGetter descrCheckInstance descrNameAndClass isInstance
  simp only [KF.owner_class]
  repeat lk
  refine ⟨Code.quiet_builtin _ (by decide +kernel), codeAny_builtin KF.entry_class ?_⟩
  unfold Builtin.«object.__class__» shownTypeOf
  repeat lk
  exact h
theorem oG {M : Model} {nameV : Value} {Q : Unit → Shared → Prop} (X : K.In s.heap) (Z : eX K C) (hx : s.heap.get? e = some o) (hc : o.cls = .ref C) (hq : Q () s) :
    wpAny M A (checkBuiltinCall "BaseException.__getattribute__" ⟨[.ref e, nameV], []⟩) Q E s := by
  have hk : builtinKind "BaseException.__getattribute__" = some .slot := by decide +kernel
  have hsplit : splitId "BaseException.__getattribute__" = some ("BaseException", "__getattribute__") := by decide +kernel
  have ha := F.args_bexc_ga (.ref e) nameV
  obtain ⟨hh, g, dr, t, os⟩ := s
  have L0 : Looks M hh (typeOf (.ref e)) (.ref C) := hc ▸ (Looks.ld hx).andThen .now
  have L1 := looks_mroIn (M := M) X Z.m2
  have LI : Looks M hh (isInstance (.ref e) (.type "BaseException")) true := L0.andThen L1
  simp only [checkBuiltinCall, hk, hsplit]
  refine wpAny_bind (LI.at ?_)
  repeat (first | assumption | wp_step)
theorem nU {tk : Tok} {Q : Fin → Shared → Prop} (X : K.In s.heap) (Z : eX K C) (hx : s.heap.get? e = some o) (hc : o.cls = .ref C) (hq : Q (.done (.ret (.ref C))) s) :
    wpAny (model prog w) A (Builtin.«object.__getattribute__» ⟨[.ref e, .str "__class__" tk], []⟩) Q E s := by
  obtain ⟨hh, g, dr, t, os⟩ := s
  have L0 : Looks (model prog w) hh (typeOf (.ref e)) (.ref C) := hc ▸ (Looks.ld hx).andThen .now
  have L3 := looks_findIn (M := model prog w) X Z.l3
  have f5 := KF.type_class
  have f6 := F.slot_gs_get.lookup
  have f7 := F.slot_gs_set.lookup
  repeat (any_goals (first | assumption | with_reducible refine L0.at ?_ | with_reducible refine L3.at ?_ | wp_step))
  refine mj X Z hx hc ?_
  repeat (any_goals (first | assumption | wp_step))
theorem km {Q : Option Value → Shared → Prop} (X : K.In s.heap) (Z : eX K C) (hx : s.heap.get? e = some o) (hc : o.cls = .ref C) (h : Q (some (.ref C)) { s with toks := s.toks + 1 }) :
    wpAny (model prog w) A (getAttr? (.ref e) "__class__") Q E s := by
  obtain ⟨hh, g, dr, t, os⟩ := s
  have L0 : Looks (model prog w) hh (typeOf (.ref e)) (.ref C) := hc ▸ (Looks.ld hx).andThen .now
  have L1 := looks_findIn (M := model prog w) X Z.l1
  have L2 := looks_findIn (M := model prog w) X Z.l2
  have f3 := F.excAttr_ValueError.ga.bind (.ref e)
  have hx2 : (Value.builtin "BaseException.__getattribute__" == Value.builtin "object.__getattribute__") = false := by decide +kernel
  have hx0 : ∀ ex : Bool, (ex && onTheHeap (Value.builtin "BaseException.__getattribute__")) = false := fun ex => by cases ex <;> rfl
  have hx1 : (onTheHeap (Value.ref C) && Value.builtin "BaseException.__getattribute__" == Value.builtin "object.__getattribute__") = false := by rw [hx2]; rfl
  unfold getAttr?
  repeat (any_goals (first | assumption | with_reducible refine L0.at ?_ | with_reducible refine L1.at ?_ | with_reducible refine L2.at ?_ | wp_step))
  refine codeAny_call_builtin F.excAttr_ValueError.ga.plain F.entry_bexc_ga (oG X Z hx hc (nU X Z hx hc ?_))
  repeat (any_goals (first | assumption | wp_step))
theorem vv (Z : eX K C) : KitX K (.ref e) (.ref C) (fun h => ∃ o, h.get? e = some o ∧ o.cls = .ref C) where
  ty := fun M h _ ⟨o, h1, h2⟩ => h2 ▸ (Looks.ld h1).andThen .now
  it := fun M h X _ => by
    have c1 := Z.c1
    unfold clsIn at c1
    split at c1
    · rename_i c' d' cd' sl' ho
      intro A' Q' E' s' k q
      unfold isType loadHead
      exact wpAny_bind (wpAny_loadPart (k _ _ (X _ _ ho)) (wpAny_pure q))
    · cases c1
  ne := fun h tp dd its n sl X htp => by
    refine Bool.eq_false_iff.mpr fun q => ?_
    have e' : C = tp := Value.ref.inj (beq_iff_eq.mp q)
    subst e'
    have c1 := Z.c1
    unfold clsIn at c1
    split at c1
    · rename_i c' d' cd' sl' ho
      have z := (X _ _ ho).symm.trans htp
      cases z
    · cases c1
  ca := fun X ⟨o, h1, h2⟩ k => km X Z h1 h2 k
end
section
variable {X : Cx}
theorem nS : CallR X (.builtin "isinstance") (fun xs H Q => ∃ e c C u b, xs = [.ref e, c] ∧ ui c u ∧ H e = some (pM (.ref C) e) ∧ eX X.K C ∧ PySem.W.kitOne X.K (.ref C) u = some b ∧ Q (.bl b) H) := by
  intro pins s σ H xs us Q I r h
  obtain ⟨e, c, C, u, b, rfl, rc, he, Z, k, q⟩ := h
  obtain ⟨ux, uc, rfl, rx, rc'⟩ := tF r
  have ec : uc = u := by
    cases rc with
    | ty n => exact rc'
    | own a => exact rc'
  subst ec
  cases (show ux = Value.ref e from rx)
  obtain ⟨⟨o, vs, h1, h2, _⟩, _, _⟩ := (show ObjOk X.prog X.w H s.heap e (pM (.ref C) e) from I.hok e _ he)
  exact kia_one (vv Z) I.kIn ⟨o, h1, h2⟩ k (fun z => nomatch z) fun tk => ⟨.bl b, H, I.tok _, rfl, q⟩
end
end L2
namespace L2
open PySem PySem.Spec PyProof.Rows
section
variable {X : Cx} {a b : Expr} {ta : TE}
def zf (xs ys : List V) : Bool := (List.range (min xs.length ys.length)).all (fun j => eqV (xs.getD j .non) (ys.getD j .non)) && xs.length == ys.length
def yi (K : PySem.W.Frag) (neg : Bool) : R2 := fun x y H Q => ∃ p p' xs ys, x = .ref p ∧ y = .ref p' ∧ SqT K H p xs ∧ SqT K H p' ys ∧ xs.all dt = true ∧ ys.all dt = true ∧ Q (.bl (neg ^^ zf xs ys)) H
theorem kM {A : Around} {s : Shared} {xs ys : List V} {us vs : List Value} (r : Vals xs us) (r' : Vals ys vs) (fx : xs.all dt = true) (fy : ys.all dt = true) (j : Nat) (h1 : j < us.toArray.size) (h2 : j < vs.toArray.size) :
    SeqAt.EqAt A s us.toArray[j] vs.toArray[j] (eqV (xs.getD j .non) (ys.getD j .non)) := by
  have e1 : us[j]? = some us.toArray[j] := by simp at h1; simp [h1]
  have e2 : vs[j]? = some vs.toArray[j] := by simp at h2; simp [h2]
  have l1 : j < xs.length := by rw [r.length]; simpa using h1
  have l2 : j < ys.length := by rw [r'.length]; simpa using h2
  have g1 : xs[j]? = some (xs.getD j .non) := by simp [List.getD, l1]
  have g2 : ys[j]? = some (ys.getD j .non) := by simp [List.getD, l2]
  obtain ⟨u, hu, ru⟩ := r.get g1
  obtain ⟨v, hv, rv⟩ := r'.get g2
  rw [e1] at hu
  rw [e2] at hv
  rw [Option.some.inj hu, Option.some.inj hv]
  exact rV ru rv (List.all_eq_true.mp fx _ (List.mem_of_getElem? g1)) (List.all_eq_true.mp fy _ (List.mem_of_getElem? g2))
theorem zv (hu : X.A.units < cLine) : OpR X (compareOp .Eq) (yi X.K false) := by
  intro pins s σ H x y v u Q I rx ry h
  obtain ⟨p, p', xs, ys, rfl, rfl, hx, hy, fx, fy, q⟩ := h
  cases (show v = Value.ref p from rx)
  cases (show u = Value.ref p' from ry)
  obtain ⟨its, r, pl, hz⟩ := I.tuple hx
  obtain ⟨its', r', pl', hz'⟩ := I.tuple hy
  refine SeqAt.eq_tupleAt pl pl' hu (fun j h1 h2 => kM r r' fx fy j h1 h2) ⟨.bl _, H, I, rfl, ?_⟩
  rw [List.size_toArray, List.size_toArray, ← r.length, ← r'.length]
  simpa [zf] using q
theorem zy (hu : X.A.units < cLine) : OpR X (compareOp .NotEq) (yi X.K true) := by
  intro pins s σ H x y v u Q I rx ry h
  obtain ⟨p, p', xs, ys, rfl, rfl, hx, hy, fx, fy, q⟩ := h
  cases (show v = Value.ref p from rx)
  cases (show u = Value.ref p' from ry)
  obtain ⟨its, r, pl, hz⟩ := I.tuple hx
  obtain ⟨its', r', pl', hz'⟩ := I.tuple hy
  refine SeqAt.RcNeAt.tuples pl pl' hu (fun j h1 h2 => kM r r' fx fy j h1 h2) X.prog X.w X.xe _ ⟨.bl _, H, I, rfl, ?_⟩
  rw [List.size_toArray, List.size_toArray, ← r.length, ← r'.length]
  simpa [zf] using q
theorem zg (hu : X.A.units < cLine) : OpR X (compareOp .Eq) (fun x y H Q => rEq x y H Q ∨ yi X.K false x y H Q) := Bd.or (zv hu)
theorem zp (hu : X.A.units < cLine) : OpR X (compareOp .NotEq) (fun x y H Q => rNe x y H Q ∨ yi X.K true x y H Q) := Bv.or (zy hu)
theorem ur : CallR X (.builtin "isinstance") (fun xs H Q => (∃ x c t u b, xs = [x, c] ∧ ui c u ∧ hE X.K H x t ∧ PySem.W.kitOne X.K t u = some b ∧ Q (.bl b) H) ∨
    ∃ e c C u b, xs = [.ref e, c] ∧ ui c u ∧ H e = some (pM (.ref C) e) ∧ eX X.K C ∧ PySem.W.kitOne X.K (.ref C) u = some b ∧ Q (.bl b) H) := pN.or nS
end
end L2
set_option Elab.async false
set_option linter.all false
set_option maxRecDepth 100000
namespace L2
open PySem PySem.Spec PyProof.Rows
abbrev T (l : List Nat) : V := .str ⟨⟨l⟩⟩
def cs (x : Str) : List Nat := x.cps.toList
theorem BJ (x : Str) : V.str x = T (cs x) := rfl
section
variable {X : Cx} {e a b c : Expr} {pos : Pos}
theorem PE.imp {t t' : TE} (h : PE X e t) (i : ∀ σ H Q, t' σ H Q → t σ H Q) : PE X e t' := fun pins s σ H Q I q => h pins s σ H Q I (i σ H Q q)
theorem OpR.imp {f : Value → Value → Sem Value} {r r' : R2} (h : OpR X f r) (i : ∀ x y H Q, r' x y H Q → r x y H Q) : OpR X f r' := fun pins s σ H x y v u Q I rx ry q => h pins s σ H x y v u Q I rx ry (i _ _ _ _ q)
theorem UnR.imp {f : Value → Sem Value} {r r' : V → Hp → VK → Prop} (h : UnR X f r) (i : ∀ x H Q, r' x H Q → r x H Q) : UnR X f r' := fun pins s σ H x v Q I rx q => h pins s σ H x v Q I rx (i _ _ _ q)
theorem CallR.imp {f : Value} {r r' : List V → Hp → VK → Prop} (h : CallR X f r) (i : ∀ x H Q, r' x H Q → r x H Q) : CallR X f r' := fun pins s σ H x v Q I rx q => h pins s σ H x v Q I rx (i _ _ _ q)
theorem IxR.imp {r r' : R2} (h : IxR X r) (i : ∀ x y H Q, r' x y H Q → r x y H Q) : IxR X r' := fun va sl pins s σ H x y v u Q I rx ry q hs => h va sl pins s σ H x y v u Q I rx ry (i _ _ _ _ q) hs
def zo (i : Nat) : TE := fun σ H Q => match σ[i]? with
  | some (some v) => Q v H
  | _ => False
theorem fv (i : Nat) {x : Str} (hN : X.N[i]? = some x := by rfl) (hv : Vis X.env.scope x := by first | exact Or.inl rfl | exact Or.inr (Or.inl rfl) | exact Or.inr (Or.inr rfl)) (hd : (x == ("__debug__" : Str)) = false := by decide)
    (hcd : (x == ("__classdict__" : Str)) = false := by decide) : PE X (.Name x pos) (zo i) := (zH hN hv hd hcd).imp fun σ H Q h => by
  unfold zo at h
  split at h
  · exact ⟨_, by assumption, h⟩
  · exact h.elim
theorem aN {x : Str} {j} (l : List Nat) (h : x = ⟨⟨l⟩⟩ := by decide +kernel) : PE X (.Constant (.str x) j pos) (tC (T l)) := h ▸ Ah
def At : R2
  | .int i, .int j, H, Q => Q (.int (i + j)) H
  | .str i, .str j, H, Q => (cs i).length + (cs j).length ≤ sizeLine ∧ Q (T (cs i ++ cs j)) H
  | _, _, _, _ => False
theorem zz (i j : Str) : V.str (i ++ j) = T (cs i ++ cs j) := by
  show V.str ⟨i.cps ++ j.cps⟩ = V.str ⟨⟨i.cps.toList ++ j.cps.toList⟩⟩
  congr 1
  congr 1
  exact (Array.ext' (by simp))
theorem aO : OpR X (binaryOp .Add) At := (zB.or sv).imp fun x y H Q h => by
  unfold At at h
  split at h
  · exact .inl ⟨_, _, rfl, rfl, h⟩
  · refine .inr ⟨_, _, rfl, rfl, by simpa [cs, Str.length] using h.1, ?_⟩
    rw [zz]; exact h.2
  · exact h.elim
def gI (g : Int → Int → V) : R2
  | .int i, .int j, H, Q => Q (g i j) H
  | _, _, _, _ => False
def gIC (C : Int → Int → Prop) (g : Int → Int → V) : R2
  | .int i, .int j, H, Q => C i j ∧ Q (g i j) H
  | _, _, _, _ => False
theorem yR {g : Int → Int → V} : ∀ x y H Q, gI g x y H Q → rI0 g x y H Q := fun x y H Q h => by
  unfold gI at h; split at h
  · exact ⟨_, _, rfl, rfl, h⟩
  · exact h.elim
theorem oN {C : Int → Int → Prop} {g : Int → Int → V} : ∀ x y H Q, gIC C g x y H Q → rI C g x y H Q := fun x y H Q h => by
  unfold gIC at h; split at h
  · exact ⟨_, _, rfl, rfl, h.1, h.2⟩
  · exact h.elim
theorem kf : OpR X (binaryOp .Sub) (gI fun i j => .int (i - j)) := zd.imp yR
theorem cT : OpR X (binaryOp .Mult) (gIC CMul fun i j => .int (i * j)) := zR.imp oN
theorem aP : OpR X (binaryOp .Mod) (gIC (fun _ j => 0 < j) fun i j => .int (i % j)) := y3.imp oN
theorem aW : OpR X (binaryOp .FloorDiv) (gIC zL fun i j => .int (i / j)) := xw.imp oN
theorem wJ : OpR X (binaryOp .Pow) (gIC zA fun i j => .int (i ^ j.toNat)) := zE.imp oN
def Ax : V → Hp → VK → Prop
  | .int i, H, Q => Q (.int (-i)) H
  | _, _, _ => False
theorem j8 : UnR X (unaryOp .USub) Ax := zW.imp fun x H Q h => by
  unfold Ax at h; split at h
  · exact ⟨_, rfl, h⟩
  · exact h.elim
def leN (a b : List Nat) : Bool := !decide (b < a)
theorem tM : OpR X (compareOp .LtE) (fun x y H Q => ∃ i j, x = .str i ∧ y = .str j ∧ Q (.bl (leN (cs i) (cs j))) H) := by
  intro pins s σ H x y v u Q I rx ry h
  obtain ⟨i, j, rfl, rfl, q⟩ := h
  obtain ⟨t, rfl⟩ := rx
  obtain ⟨t', rfl⟩ := ry
  exact PySem.P.le_str ⟨.bl _, H, I, rfl, q⟩
def gLe : R2
  | .int i, .int j, H, Q => Q (.bl (decide (i ≤ j))) H
  | .str i, .str j, H, Q => Q (.bl (leN (cs i) (cs j))) H
  | _, _, _, _ => False
theorem fQ : OpR X (compareOp .LtE) gLe := (A1.or tM).imp fun x y H Q h => by
  unfold gLe at h; split at h
  · exact .inl ⟨_, _, rfl, rfl, h⟩
  · exact .inr ⟨_, _, rfl, rfl, h⟩
  · exact h.elim
def gLt : R2
  | .int i, .int j, H, Q => Q (.bl (decide (i < j))) H
  | .str i, .str j, H, Q => Q (.bl (decide (cs i < cs j))) H
  | _, _, _, _ => False
theorem vc : OpR X (compareOp .Lt) gLt := (Bh.or ue).imp fun x y H Q h => by
  unfold gLt at h; split at h
  · exact .inl ⟨_, _, rfl, rfl, h⟩
  · exact .inr ⟨_, _, rfl, rfl, h⟩
  · exact h.elim
theorem Bo : OpR X (compareOp .Gt) (gI fun i j => .bl (decide (j < i))) := AS.imp yR
def eqS : V → V → Option Bool
  | .int i, .int j => some (decide (i = j))
  | .bl i, .bl j => some (decide (i = j))
  | .str i, .str j => some (decide (cs i = cs j))
  | .non, .non => some true
  | .non, .int _ => some false | .int _, .non => some false | .non, .bl _ => some false | .bl _, .non => some false | .non, .str _ => some false | .str _, .non => some false
  | .int _, .str _ => some false | .str _, .int _ => some false | .bl _, .str _ => some false | .str _, .bl _ => some false
  | _, _ => none
theorem re (i j : Str) : V.str i = V.str j ↔ cs i = cs j := by
  constructor
  · intro h; injection h with h; rw [h]
  · intro h
    congr 1
    obtain ⟨⟨a⟩⟩ := i
    obtain ⟨⟨b⟩⟩ := j
    have h' : a = b := h
    rw [h']
theorem qE {x y : V} {k : Bool} (h : eqS x y = some k) : y0 x y = true ∧ decide (x = y) = k := by
  unfold eqS at h
  split at h <;> (first | cases h) <;> refine ⟨rfl, ?_⟩
  case h_1 i j => exact decide_eq_decide.mpr (by simp)
  case h_2 i j => exact decide_eq_decide.mpr (by simp)
  case h_3 i j => exact decide_eq_decide.mpr (re i j)
  all_goals simp
variable {ta tb tc : TE} {rest : List Expr}
def kB (Q : Bool → Hp → Prop) : VK := fun x H => match x with
  | .bl k => Q k H
  | _ => False
def sw (t : TE) : TT := fun σ H Q => t σ H (kB Q)
theorem jX {Q : Bool → Hp → Prop} {x : V} {H : Hp} (h : kB Q x H) : ∃ k, x = .bl k ∧ Q k H := by
  unfold kB at h
  split at h
  · exact ⟨_, rfl, h⟩
  · exact h.elim
theorem cj {op : CmpOp} {r : R2} (ho : OpR X (compareOp op) r) (ha : PE X a ta) (hb : PE X b tb) (hm : behindInMarks op b = false) : PT X (.Compare a [op] [b] pos) (sw (tOp r ta tb)) := by
  intro pins s σ H Q I h
  refine wpAny_isTrue_Compare1 (thn (ha pins s σ H _ I h) fun v s1 ⟨x, H1, I1, r1, q1⟩ => thn (hb pins s1 σ H1 _ I1 q1) fun u s2 ⟨y, H2, I2, r2, q2⟩ =>
    thn (ho pins s2 σ H2 x y v u _ I2 r1 r2 q2) fun c s3 ⟨z, H3, I3, r3, q3⟩ => ?_) hm
  obtain ⟨k, e, q3⟩ := jX q3
  subst e
  cases r3
  exact wpAny_truthy_bool ⟨H3, I3, q3⟩
theorem qI {op : CmpOp} {t : TE} (h : PC X op a b t) (h1 : behindInMarks op b = false := by first | exact o6 _ (by decide) (by decide) | rfl) : PT X (.Compare a [op] [b] pos) (sw t) := by
  intro pins s σ H Q I hw
  refine wpAny_isTrue_Compare1 (thn (h pins s σ H _ I hw) fun v s1 h1 => thn h1 fun u s2 h2 => thn h2 fun c s3 ⟨x, H1, I1, r1, q1⟩ => ?_) h1
  obtain ⟨d, rfl, q⟩ := jX q1
  cases r1
  exact wpAny_truthy_bool ⟨H1, I1, q⟩
theorem d5 {t : TE} (h : PE X e t) (he : ∀ whole, isTrue e X.env whole = (do let v ← whole; standAt e.pos; holding [v] (truthy v)) := by intro _; rfl) : PT X e (sw t) := by
  intro pins s σ H Q I hw
  refine isTrue_plain (thn (h pins s σ H _ I hw) fun v s1 ⟨x, H1, I1, r1, q1⟩ => ?_) (he _)
  obtain ⟨d, rfl, q⟩ := jX q1
  cases r1
  exact wpAny_truthy_bool ⟨H1, I1, q⟩
def wQ (r r' : R2) (ta tb tc : TE) : TE := fun σ H Q => ta σ H fun x H1 => tb σ H1 fun y H2 => r x y H2 (kB fun k H3 => if k = true then tc σ H3 fun w' H4 => r' y w' H4 Q else Q (.bl false) H3)
theorem iD {op op' : CmpOp} {r r' : R2} (ho : OpR X (compareOp op) r) (ho' : OpR X (compareOp op') r') (ha : PE X a ta) (hb : PE X b tb) (hc : PE X c tc)
    (hm : lastMarks [op, op'] [b, c] = false := by with_unfolding_all rfl) : PE X (.Compare a [op, op'] [b, c] pos) (wQ r r' ta tb tc) := by
  intro pins s σ H Q I h
  refine Compare_chain (thn (ha pins s σ H _ I h) fun v s1 ⟨x, H1, I1, r1, q1⟩ => chain_link (thn (hb pins s1 σ H1 _ I1 q1) fun u s2 ⟨y, H2, I2, r2, q2⟩ =>
    thn (ho pins s2 σ H2 x y v u _ I2 r1 r2 q2) fun d s3 ⟨z, H3, I3, r3, q3⟩ => ?_)) hm
  obtain ⟨k, e, q3⟩ := jX q3
  subst e
  cases r3
  refine wpAny_truthy_bool ?_
  cases k with
  | false => exact ite_ff ⟨.bl false, H3, I3, rfl, q3⟩
  | true => exact ite_tt (chain_last (thn (hc pins s3 σ H3 _ I3 q3) fun w' s4 ⟨z', H4, I4, r4, q4⟩ => ho' pins s4 σ H4 y z' u w' Q I4 r2 r4 q4))
def AV (ta tb : TE) : TE := fun σ H Q => ta σ H (kB fun c H1 => if c = true then tb σ H1 Q else Q (.bl false) H1)
def fOr (ta tb : TE) : TE := fun σ H Q => ta σ H (kB fun c H1 => if c = true then Q (.bl true) H1 else tb σ H1 Q)
def A9 (ta : TE) : TE := fun σ H Q => ta σ H (kB fun c H1 => Q (.bl (!c)) H1)
theorem dR (ha : PE X a ta) (hb : PE X (.BoolOp .And (b :: rest) pos) tb) : PE X (.BoolOp .And (a :: b :: rest) pos) (AV ta tb) := by
  intro pins s σ H Q I h
  refine BoolOp_and (thn (ha pins s σ H _ I h) fun v s1 ⟨x, H1, I1, r1, q1⟩ => ?_)
  obtain ⟨c, rfl, q1⟩ := jX q1
  cases r1
  refine wpAny_truthy_bool ?_
  cases c with
  | true => exact hb pins s1 σ H1 Q I1 q1
  | false => exact ⟨.bl false, H1, I1, rfl, q1⟩
theorem yw (ha : PE X a ta) (hb : PE X (.BoolOp .Or (b :: rest) pos) tb) : PE X (.BoolOp .Or (a :: b :: rest) pos) (fOr ta tb) := by
  intro pins s σ H Q I h
  refine BoolOp_or (thn (ha pins s σ H _ I h) fun v s1 ⟨x, H1, I1, r1, q1⟩ => ?_)
  obtain ⟨c, rfl, q1⟩ := jX q1
  cases r1
  refine wpAny_truthy_bool ?_
  cases c with
  | false => exact hb pins s1 σ H1 Q I1 q1
  | true => exact ⟨.bl true, H1, I1, rfl, q1⟩
theorem vD (ha : PE X a ta) : PE X (.UnaryOp .Not a pos) (A9 ta) := by
  intro pins s σ H Q I h
  refine UnaryOp_ (thn (ha pins s σ H _ I h) fun v s1 ⟨x, H1, I1, r1, q1⟩ => ?_)
  obtain ⟨c, rfl, q1⟩ := jX q1
  cases r1
  exact not_of (wpAny_truthy_bool ⟨.bl (!c), H1, I1, rfl, q1⟩)
def BU : List V → Hp → VK → Prop
  | [.int i], H, Q => Q (.int (if i < 0 then -i else i)) H
  | _, _, _ => False
def yV : List V → Hp → VK → Prop
  | [.int i, .int j], H, Q => Q (.int (if j < i then j else i)) H
  | _, _, _ => False
theorem zC (hc : X.calm = true) : CallR X (.builtin "min") yV := (uu hc).imp fun x H Q h => by
  unfold yV at h; split at h
  · exact ⟨_, _, rfl, h⟩
  · exact h.elim
def zq : List V → Hp → VK → Prop
  | [.int i, .int j], H, Q => Q (.int (if j > i then j else i)) H
  | _, _, _ => False
theorem Ar (hc : X.calm = true) : CallR X (.builtin "max") zq := (ul hc).imp fun x H Q h => by
  unfold zq at h; split at h
  · exact ⟨_, _, rfl, h⟩
  · exact h.elim
def xg (K : PySem.W.Frag) : List V → Hp → VK → Prop
  | [.str y], H, Q => (cs y).length ≤ sizeLine ∧ Q (.int (cs y).length) H
  | [.ref p], H, Q => ∃ xs, (SqL K H p xs ∨ SqT K H p xs) ∧ Q (.int xs.length) H
  | _, _, _ => False
theorem zu : CallR X (.builtin "len") (xg X.K) := wT.imp fun x H Q h => by
  unfold xg at h; split at h
  · exact ⟨_, _, rfl, ⟨by simpa [cs, Str.length] using h.1, rfl⟩, by simpa [cs, Str.length] using h.2⟩
  · obtain ⟨xs, hx, q⟩ := h
    rcases hx with hx | hx
    · exact ⟨_, _, rfl, .inl ⟨xs, hx, rfl⟩, q⟩
    · exact ⟨_, _, rfl, .inr ⟨xs, hx, rfl⟩, q⟩
  · exact h.elim
def cz (H : Hp) : V → Option String
  | .non => some "NoneType"
  | .bl _ => some "bool"
  | .int _ => some "int"
  | .str _ => some "str"
  | .ref p => match H p with
    | some (.lst _) => some "list"
    | some (.frz _ (.lst _)) => some "list"
    | some (.tup _) => some "tuple"
    | some (.dK _) => some "dict"
    | _ => none
  | _ => none
def bM (t n : String) : Bool := t == n || (t == "bool" && n == "int")
def gq (t : String) : Prop := t = "NoneType" ∨ t = "bool" ∨ t = "int" ∨ t = "str" ∨ t = "list" ∨ t = "tuple" ∨ t = "dict"
theorem Bm {K : PySem.W.Frag} {t n : String} (h : gq t) (hn : n = "int" ∨ n = "bool" ∨ n = "str" ∨ n = "list" ∨ n = "tuple" ∨ n = "dict") : PySem.W.kitOne K (.type t) (.type n) = some (bM t n) := by
  rcases h with rfl | rfl | rfl | rfl | rfl | rfl | rfl <;> rcases hn with rfl | rfl | rfl | rfl | rfl | rfl <;> kernel_rfl
theorem qf {K : PySem.W.Frag} {H : Hp} {x : V} {t : String} (h : cz H x = some t) : hE K H x (.type t) ∧ gq t := by
  unfold cz at h
  split at h
  · cases h; exact ⟨.non, by simp [gq]⟩
  · cases h; exact ⟨.bl _, by simp [gq]⟩
  · cases h; exact ⟨.int _, by simp [gq]⟩
  · cases h; exact ⟨.str _, by simp [gq]⟩
  · split at h
    · rename_i e; cases h; exact ⟨.lst e, by simp [gq]⟩
    · rename_i e; cases h; exact ⟨.frz e, by simp [gq]⟩
    · rename_i e; cases h; exact ⟨.tup e, by simp [gq]⟩
    · rename_i e; cases h; exact ⟨.dK e, by simp [gq]⟩
    · cases h
  · cases h
def o0 (n : String) : Bool := n == "int" || n == "bool" || n == "str" || n == "list" || n == "tuple" || n == "dict"
def xL (K : PySem.W.Frag) : List V → Hp → VK → Prop
  | [x, .ty n], H, Q => (match cz H x with
    | some t => o0 n = true ∧ Q (.bl (bM t n)) H
    | none => ∃ e C b, x = .ref e ∧ H e = some (pM (.ref C) e) ∧ eX K C ∧ PySem.W.kitOne K (.ref C) (.type n) = some b ∧ Q (.bl b) H)
  | [.ref e, .ref D], H, Q => ∃ C b, H e = some (pM (.ref C) e) ∧ eX K C ∧ PySem.W.kitOne K (.ref C) (.ref D) = some b ∧ Q (.bl b) H
  | _, _, _ => False
theorem zK : CallR X (.builtin "isinstance") (xL X.K) := ur.imp fun xs H Q h => by
  unfold xL at h
  split at h
  · rename_i x n
    split at h
    · rename_i t ht
      obtain ⟨ty, hb⟩ := qf (K := X.K) ht
      obtain ⟨hn, q⟩ := h
      refine .inl ⟨x, _, _, _, _, rfl, .ty n, ty, Bm hb ?_, q⟩
      simpa [o0, or_assoc] using hn
    · obtain ⟨e, C, b, rfl, he, Z, k, q⟩ := h
      exact .inr ⟨e, _, C, _, b, rfl, .ty n, he, Z, k, q⟩
  · rename_i e D
    obtain ⟨C, b, he, Z, k, q⟩ := h
    exact .inr ⟨e, _, C, _, b, rfl, .own D, he, Z, k, q⟩
  · exact h.elim
end
section
variable {X : Cx} {a b : Expr} {ta tb : TE} {pos pos' : Pos}
def gIx (K : PySem.W.Frag) : R2
  | .str z, .int i, H, Q => (cs z).length ≤ sizeLine ∧ (match atI (cs z) i with
    | some c => Q (T [c]) H
    | none => False)
  | .ref p, .int i, H, Q => ∃ xs v, (SqL K H p xs ∨ SqT K H p xs) ∧ atI xs i = some v ∧ Q v H
  | _, _, _, _ => False
theorem zJ : IxR X (gIx X.K) := zQ.imp fun x y H Q h => by
  unfold gIx at h
  split at h
  · obtain ⟨hz, h⟩ := h
    split at h
    · rename_i c hc
      exact .inr (.inr ⟨_, _, c, rfl, rfl, by simpa [cs, Str.length] using hz, hc, h⟩)
    · exact h.elim
  · obtain ⟨xs, v, hs | hs, hv, q⟩ := h
    · exact .inl ⟨_, xs, _, v, rfl, rfl, hs, hv, q⟩
    · exact .inr (.inl ⟨_, xs, _, v, rfl, rfl, hs, hv, q⟩)
  · exact h.elim
def j3 (xs : List V) (H H1 : Hp) (Q : VK) : V → Prop
  | .int i => (match atI xs i with
    | some (.ref q) => H q = none ∧ (match H1 q with
      | some o => ig o = true ∧ Q (.ref q) (upd H q o)
      | none => False)
    | some v => Q v H
    | none => False)
  | _ => False
def vX (ta : TA) (ti : TE) : TE := fun σ H Q => NoT H ∧ ta σ H fun xs H1 => Same H H1 ∧ xs.length ≤ sizeLine ∧ ∀ p, H1 p = none → ti σ (upd H1 p (.lst xs)) fun y H2 => H2 = upd H1 p (.lst xs) ∧ j3 xs H H1 Q y
theorem we {xs : List V} {H H1 : Hp} {Q : VK} {y : V} {p : Addr} {o : HO} (s : Same H H1) (hp : H1 p = none) (h : j3 xs H H1 Q y) : ∃ i v G, y = .int i ∧ atI xs i = some v ∧ Gc H G (upd H1 p o) ∧ Q v G := by
  unfold j3 at h
  have s2 : Same H (upd H1 p o) := s.trans (aj o hp)
  split at h
  · rename_i i
    split at h
    · rename_i q hq
      obtain ⟨hn, h⟩ := h
      split at h
      · rename_i o' ho'
        exact ⟨i, _, _, rfl, hq, Gc.one s2 hn (by rw [ap (ai ho' hp)]; exact ho') h.1, h.2⟩
      · exact h.elim
    · rename_i v _ hv
      exact ⟨i, v, H, rfl, hv, Gc.none s2, h⟩
    · exact h.elim
  · exact h.elim
theorem lB {es : List Expr} {t : TA} (ha : PA X es t) (hb : PE X b tb) (hs : tH b) : PE X (.Subscript (.List es pos') b pos) (vX t tb) := by
  intro pins s σ H Q I h
  obtain ⟨n, h⟩ := h
  refine Subscript_ (wpAny_List_spliced (thn (ha pos' pins s σ H _ I h) fun us s1 ⟨xs, H1, I1, r, sm, z, q⟩ => ⟨by rw [← r.length]; exact z, ?_⟩))
  have hf : H1 s1.heap.objs.size = none := I1.hok.fresh (Nat.le_refl _)
  refine thn (hb pins _ σ (upd H1 s1.heap.objs.size (.lst xs)) _ (I1.laid (t' := s1.toks) (fun b u e => Heap.get?_push_of_some _ e) (Nat.le_refl _) ⟨z, us, 0, r, Heap.get?_push_size _ rfl⟩) (q _ hf)) fun u s3 ⟨y, H3, I3, ry, e, k⟩ => ?_
  subst e
  obtain ⟨i, v, G, rfl, hv, g, hq⟩ := we (o := .lst xs) sm hf k
  exact thn (sJ (.List es pos') b pins s3 σ _ (.ref _) (.int i) _ u (fun v' H' => v' = v ∧ H' = upd H1 s1.heap.objs.size (.lst xs)) I3 rfl ry ⟨_, xs, i, v, rfl, rfl, SqL.of ad, hv, rfl, rfl⟩ (hs _ _))
    fun u' s4 ⟨v', H4, I4, r4, e1, e2⟩ => ⟨v, G, I.gc n (e2 ▸ I4) g, e1 ▸ r4, hq⟩
end
def sp0 (f : Hp → VK → XK → Prop) : Sp := fun vs H Q E => match vs with
  | [] => f H Q E
  | _ => False
def sp1 (f : V → Hp → VK → XK → Prop) : Sp := fun vs H Q E => match vs with
  | [x] => f x H Q E
  | _ => False
def sp2 (f : V → V → Hp → VK → XK → Prop) : Sp := fun vs H Q E => match vs with
  | [x, y] => f x y H Q E
  | _ => False
def sp3 (f : V → V → V → Hp → VK → XK → Prop) : Sp := fun vs H Q E => match vs with
  | [x, y, z] => f x y z H Q E
  | _ => False
def sp4 (f : V → V → V → V → Hp → VK → XK → Prop) : Sp := fun vs H Q E => match vs with
  | [x, y, z, u] => f x y z u H Q E
  | _ => False
section
variable {vs : List V} {H : Hp} {Q : VK} {E : XK}
theorem sp1.inv {f} (h : sp1 f vs H Q E) : ∃ x, vs = [x] ∧ f x H Q E := by
  unfold sp1 at h; split at h
  · exact ⟨_, rfl, h⟩
  · exact h.elim
theorem sp2.inv {f} (h : sp2 f vs H Q E) : ∃ x y, vs = [x, y] ∧ f x y H Q E := by
  unfold sp2 at h; split at h
  · exact ⟨_, _, rfl, h⟩
  · exact h.elim
theorem sp3.inv {f} (h : sp3 f vs H Q E) : ∃ x y z, vs = [x, y, z] ∧ f x y z H Q E := by
  unfold sp3 at h; split at h
  · exact ⟨_, _, _, rfl, h⟩
  · exact h.elim
theorem sp4.inv {f} (h : sp4 f vs H Q E) : ∃ x y z u, vs = [x, y, z, u] ∧ f x y z u H Q E := by
  unfold sp4 at h; split at h
  · exact ⟨_, _, _, _, rfl, h⟩
  · exact h.elim
theorem sp1.len {f} (h : sp1 f vs H Q E) : vs.length = 1 := by obtain ⟨_, rfl, _⟩ := sp1.inv h; rfl
theorem sp2.len {f} (h : sp2 f vs H Q E) : vs.length = 2 := by obtain ⟨_, _, rfl, _⟩ := sp2.inv h; rfl
theorem sp3.len {f} (h : sp3 f vs H Q E) : vs.length = 3 := by obtain ⟨_, _, _, rfl, _⟩ := sp3.inv h; rfl
theorem sp4.len {f} (h : sp4 f vs H Q E) : vs.length = 4 := by obtain ⟨_, _, _, _, rfl, _⟩ := sp4.inv h; rfl
end
def asI (x : V) (f : Int → Prop) : Prop := match x with
  | .int i => f i
  | _ => False
def asT (x : V) (f : List Nat → Prop) : Prop := match x with
  | .str y => f (cs y)
  | _ => False
def asB (x : V) (f : Bool → Prop) : Prop := match x with
  | .bl y => f y
  | _ => False
def asR (x : V) (f : Addr → Prop) : Prop := match x with
  | .ref y => f y
  | _ => False
theorem asI.inv {x : V} {f : Int → Prop} (h : asI x f) : ∃ i, x = .int i ∧ f i := by
  unfold asI at h; split at h
  · exact ⟨_, rfl, h⟩
  · exact h.elim
theorem asT.inv {x : V} {f : List Nat → Prop} (h : asT x f) : ∃ l, x = T l ∧ f l := by
  unfold asT at h; split at h
  · exact ⟨_, rfl, h⟩
  · exact h.elim
theorem asR.inv {x : V} {f : Addr → Prop} (h : asR x f) : ∃ i, x = .ref i ∧ f i := by
  unfold asR at h; split at h
  · exact ⟨_, rfl, h⟩
  · exact h.elim
def asK (H : Hp) (x : V) (f : String → Prop) : Prop := match cz H x with
  | some t => f t
  | none => False
theorem asK.inv {H : Hp} {x : V} {f : String → Prop} (h : asK H x f) : ∃ t, cz H x = some t ∧ gq t ∧ f t := by
  unfold asK at h; split at h
  · rename_i t ht
    exact ⟨t, ht, (qf (K := default) ht).2, h⟩
  · exact h.elim
theorem asK.of {H : Hp} {x : V} {f : String → Prop} {t : String} (e : cz H x = some t) (h : f t) : asK H x f := by unfold asK; rw [e]; exact h
theorem rW {ns : List Int} {k : Int} (h0 : 0 ≤ k) (h1 : k < ns.length) : atI (ns.map V.int) k = some (.int (ns.getD k.toNat 0)) := by
  obtain ⟨j, rfl⟩ : ∃ j : Nat, k = j := ⟨k.toNat, by omega⟩
  refine bL ?_
  have l : j < ns.length := by omega
  simp [List.getD, l]
theorem ng {ns : List Int} {H H1 : Hp} {Q : VK} {i : Int} (h0 : 0 ≤ i) (h1 : i < ns.length) (q : Q (.int (ns.getD i.toNat 0)) H) : j3 (ns.map V.int) H H1 Q (.int i) := by
  unfold j3
  simp only [rW h0 h1]
  exact q
section
variable {X : Cx} (K : PySem.W.Frag)
theorem dH (h : X.K = K := by rfl) : CallR X (.builtin "isinstance") (xL K) := h ▸ zK
theorem dO (h : X.K = K := by rfl) : CallR X (.builtin "len") (xg K) := h ▸ zu
theorem aA (h : X.K = K := by rfl) : IxR X (gIx K) := h ▸ zJ
theorem xC {tg l : Expr} {tl : TE} (hl : PE X l tl) (h : X.K = K := by rfl) : PI X tg l (wB K tl) := h ▸ Ai hl
theorem cC {tg l : Expr} {tl : TE} (hl : PE X l tl) (h : X.K = K := by rfl) : PI X tg l (ku K tl) := h ▸ xy hl
end
theorem AM {H : Hp} {b : Bool} : cz H (.bl b) = some "bool" := rfl
theorem AD {H : Hp} {i : Int} : cz H (.int i) = some "int" := rfl
theorem zi {H : Hp} {s : Str} : cz H (.str s) = some "str" := rfl
theorem yX {H : Hp} : cz H .non = some "NoneType" := rfl
theorem AF : o0 "int" = true := by decide
theorem jN : bM "NoneType" "int" = false := by decide
theorem oZ : bM "bool" "int" = true := by decide
theorem q_ : bM "int" "int" = true := by decide
theorem rY : bM "str" "int" = false := by decide
theorem qM : bM "list" "int" = false := by decide
theorem oz : bM "tuple" "int" = false := by decide
theorem pB : bM "dict" "int" = false := by decide
theorem xG : o0 "bool" = true := by decide
theorem jc : bM "NoneType" "bool" = false := by decide
theorem oA : bM "bool" "bool" = true := by decide
theorem pL : bM "int" "bool" = false := by decide
theorem qc : bM "str" "bool" = false := by decide
theorem nv : bM "list" "bool" = false := by decide
theorem lM : bM "tuple" "bool" = false := by decide
theorem nr : bM "dict" "bool" = false := by decide
theorem Az : o0 "str" = true := by decide
theorem jM : bM "NoneType" "str" = false := by decide
theorem pV : bM "bool" "str" = false := by decide
theorem ro : bM "int" "str" = false := by decide
theorem qW : bM "str" "str" = true := by decide
theorem pE : bM "list" "str" = false := by decide
theorem oQ : bM "tuple" "str" = false := by decide
theorem p_ : bM "dict" "str" = false := by decide
theorem w_ : o0 "list" = true := by decide
theorem jf : bM "NoneType" "list" = false := by decide
theorem oM : bM "bool" "list" = false := by decide
theorem qG : bM "int" "list" = false := by decide
theorem qj : bM "str" "list" = false := by decide
theorem ou : bM "list" "list" = true := by decide
theorem l_ : bM "tuple" "list" = false := by decide
theorem nE : bM "dict" "list" = false := by decide
theorem wC : o0 "tuple" = true := by decide
theorem iF : bM "NoneType" "tuple" = false := by decide
theorem lV : bM "bool" "tuple" = false := by decide
theorem on : bM "int" "tuple" = false := by decide
theorem nY : bM "str" "tuple" = false := by decide
theorem lE : bM "list" "tuple" = false := by decide
theorem jV : bM "tuple" "tuple" = true := by decide
theorem lZ : bM "dict" "tuple" = false := by decide
theorem xi : o0 "dict" = true := by decide
theorem jk : bM "NoneType" "dict" = false := by decide
theorem oq : bM "bool" "dict" = false := by decide
theorem qK : bM "int" "dict" = false := by decide
theorem pf : bM "str" "dict" = false := by decide
theorem ox : bM "list" "dict" = false := by decide
theorem lX : bM "tuple" "dict" = false := by decide
theorem ow : bM "dict" "dict" = true := by decide
theorem AX {H : Hp} {b : Bool} {f : String → Prop} : asK H (.bl b) f = f "bool" := rfl
theorem AI {H : Hp} {i : Int} {f : String → Prop} : asK H (.int i) f = f "int" := rfl
theorem Ap {H : Hp} {i : Str} {f : String → Prop} : asK H (.str i) f = f "str" := rfl
theorem za {H : Hp} {f : String → Prop} : asK H .non f = f "NoneType" := rfl
def wk : Expr → Bool
  | .Starred _ _ => false
  | _ => true
theorem tY {e : Expr} {es : List Expr} {env : Env} (h : wk e = true) : starEach (e :: es) env = (false, eval e env) :: starEach es env := by
  cases e <;> first | rfl | cases h
structure FA (X : Cx) (es : List Expr) (t : TA) : Prop where
  pa : PA X es t
theorem ag {X : Cx} : FA X [] vU := ⟨zl⟩
theorem aa {X : Cx} {e : Expr} {es : List Expr} {te : TE} {t : TA} (ha : PE X e te) (hr : FA X es t) (h : wk e = true := by rfl) : FA X (e :: es) (vI te t) := ⟨yh ha hr.pa (tY h)⟩
theorem xK {H : Hp} {P : Hp → Prop} : (∃ G, Gc H G H ∧ P G) ↔ P H := by
  constructor
  · rintro ⟨G, g, p⟩
    have e : G = H := by
      funext b
      cases h : H b with
      | none => exact g.b.free h
      | some o => exact g.a b o h
    rw [← e]; exact p
  · exact fun p => ⟨H, Gc.refl, p⟩
theorem BO {CX : CXT} {P : Program} {w : World} {K : PySem.W.Frag} {mg : Str → Option Value} {base : Heap} {N : List Str} {qual : Str} {scope : Scope} {f : Addr} {cd : Value} {A : Around} {outer : List Env} {s : Shared} {H : Hp} {E : XK} :
    (cL CX P w K mg base N qual scope f cd A outer s H E).K = K := rfl
def isI : V → Bool
  | .int _ => true
  | _ => false
def isS : V → Bool
  | .str _ => true
  | _ => false
theorem pD {H : Hp} {x : V} {t : String} (h : cz H x = some t) : (t == "int") = isI x := by
  unfold cz at h
  split at h
  case h_5 => split at h <;> cases h <;> simp [isI]
  all_goals (cases h <;> simp [isI])
theorem tU {H : Hp} : Same H H ↔ True := ⟨fun _ => trivial, fun _ => Same.refl H⟩
theorem aq {H : Hp} {p : Addr} {o : HO} (hN : NoT H) (d : kj o = true) : NoT (upd H p o) := hN.upd d
theorem xj {i : Int} : isI (.int i) = true := rfl
theorem zS {i : Bool} : isI (.bl i) = false := rfl
theorem xf {i : Str} : isI (.str i) = false := rfl
theorem xT {i : Addr} : isI (.ref i) = false := rfl
theorem yp  : isI (.non) = false := rfl
theorem xO {i : Int} : isS (.int i) = false := rfl
theorem y4 {i : Bool} : isS (.bl i) = false := rfl
theorem yg {i : Str} : isS (.str i) = true := rfl
theorem w4 {i : Addr} : isS (.ref i) = false := rfl
theorem xP  : isS (.non) = false := rfl
theorem vF {H : Hp} (h : ua H) : NoT H := fun b o e => by
  rcases h b with z | ⟨ob, xs, z⟩
  · rw [e] at z; cases z
  · rw [e] at z; cases z; rfl
def gcE (H : Hp) (E : XK) : XK := fun C d H' => ∃ G, Gc H G H' ∧ E C d G
theorem Fun.okG {P : Program} {w : World} {K : PySem.W.Frag} {mg : Str → Option Value} {base : Heap} {x qual : Str} {st : Stmt} {f : Addr} {fd : FuncData} {N ps : List Str} {k : Nat} {sp : Sp} (F : Fun K x qual st f fd) (S : az N ps (af st))
    (len : ∀ vs H Q E, sp vs H Q E → vs.length = ps.length)
    (hbody : ∀ (cdv : Value) (A : Around) (outer : List Env) (s : Shared) (H : Hp) (vs : List V) (Q : VK) (E : XK), Room k (A.deeper (envOfC qual (af st) s.heap.objs.size f cdv)) → sp vs H Q E →
      NoT H ∧ ∃ t, PSs (cL (XE P w) P w K mg base N qual (af st) f cdv A outer s H (gcE H E)) (av st) t ∧ t { nx := fun _ H' => ∃ G, Gc H G H' ∧ Q .non G, rt := fun v H' => ∃ G, Gc H G H' ∧ Q v G } (fL N vs) H) : bt P w K mg base (XE P w) (k + 1) f fd ps sp := by
  have F' : bt P w K mg base (XE P w) (k + 1) f fd ps (fun vs H Q' E' => ∃ Q E, sp vs H Q E ∧ Q' = (fun v H' => ∃ G, Gc H G H' ∧ Q v G) ∧ E' = gcE H E) := by
    refine F.okX S (fun vs H Q' E' ⟨Q, E, h, _⟩ => len vs H Q E h) (fun cdv A outer s H vs Q' E' hr h => ?_)
    obtain ⟨Q, E, h, rfl, rfl⟩ := h
    exact (hbody cdv A outer s H vs Q E hr h).2
  refine ⟨len, fun A outer s H args us vs Q E hr e0 hb r hsp => ?_⟩
  have nT : NoT H := by
    obtain ⟨oc, od, kV, doc, pm, an, cdv, ct, osl, rfl, lk, hcd⟩ := F.ex
    exact (hbody cdv A outer s H vs Q E (hr.deeper _) hsp).1
  refine codeAny_mono (F'.run A outer s H args us vs _ _ hr e0 hb r ⟨Q, E, hsp, rfl, rfl⟩) fun res s' h => ?_
  cases res with
  | error e =>
    obtain ⟨ea, C, rs, H', h1, h2, h3, un, hok, hrs, fly, G, g, q⟩ := h
    exact ⟨ea, C, rs, G, h1, h2, h3, un.gc g, HOk.gc nT e0.hok hok g, fun b hb => ⟨(hrs b hb).1, g.b.free (hrs b hb).2⟩, fly, q⟩
  | ok fl =>
    cases fl with
    | ret u =>
      obtain ⟨v, H', h1, h2, un, hok, rv, G, g, q⟩ := h
      exact ⟨v, G, h1, h2, un.gc g, HOk.gc nT e0.hok hok g, rv, q⟩
    | next => exact h
    | brk => exact h
    | cont => exact h
section
variable {K : PySem.W.Frag} {C D : Addr} {b : Bool} {cl : ClassData}
end
theorem wL {l : PySem.W.OpenLaw} {n k : Nat} {q : Program} {loose : List Str} {XP : (Str → Option Value) → Heap → Prop} {YP : World → Heap → Prop} {d : DefRec} {K : Params → PySem.W.Frag} {sp : PySem.W.Frag → Sp} {x : Str}
    (hn : l.most = some n) (hn2 : n ≤ sizeLine) (hdf : d.params.defaults = []) (hr : Room k callerA)
    (hY : ∀ (w : World) (h : Heap), YP w h → (K w.params).In h)
    (F : ∀ (w : World) (mg : Str → Option Value) (fa : Addr) (h : Heap), (K w.params).In h → h.Ns mainGlobals mg → mg d.name = some (.ref fa) →
      ∃ fd : FuncData, (∀ (s : Shared) (u : Value), BindsTo s fd ⟨[u], []⟩ [(x, u)]) ∧
        ∀ base : Heap, (K w.params).In base → base.Ns mainGlobals mg → bt l.prog w (K w.params) mg base (XE l.prog w) k fa fd [x] (sp (K w.params)))
    (hsp : ∀ (K : PySem.W.Frag) (H : Hp) (a : Addr) (ns : List Int), ns.length ≤ n → ua H → SqL K H a (ns.map V.int) → sp K [.ref a] H (fun v _ => v = .bl true) fun _ _ _ => False) :
    PySem.W.WalkO q loose XP YP l.row.toRowW d [] (fun f vs => PySem.call f vs) :=
  xu (K := K) (CX := fun w => XE l.prog w) (sp := fun w => sp (K w.params)) hn hn2 hdf hr hY F (fun w H a ns h1 h2 h3 => hsp (K w.params) H a ns h1 h2 h3) fun w H s e s' ⟨_, _, _, _, _, _, _, _, _, _, _, z⟩ => z
end L2
set_option Elab.async false
set_option linter.all false
set_option maxRecDepth 100000
namespace L2
open PySem PySem.Spec PyProof.Rows
section
variable {prog : Program} {w : World} {A : Around} {R : Result → Shared → Prop} {s : Shared}
theorem nA {elt target iter : Expr} {ifs : List Expr} {scope : Scope} {pos : Pos} {it acc : Value} {env : Env} (I : Nat → Shared → Prop)
    (turn : ∀ n s, I n s → wpAny (model prog w) A (pyNext it) (fun r s₁ => match r with
      | none => R (.ok .next) s₁
      | some v => wpAny (model prog w) A (letOwnedTupleGo target it v) (fun _ s₁' => wpAny (model prog w) A (assign target env v) (fun _ s₂ =>
          wpAny (model prog w) A (forIn ifs true fun c r => if r = true then do let ok ← isTrue c env (eval c env); pure (ForInStep.yield ok) else pure (ForInStep.yield r)) (fun ok s₃ =>
            if ok = true then wpAny (model prog w) A (eval elt env) (fun x s₄ =>
              wpAny (model prog w) A (call (.builtin "list.append") [acc, x]) (fun _ s₅ => ∃ m, m < n ∧ I m s₅) (notedBy (model prog w) A env fun e s' => R (.error e) s') s₄) (notedBy (model prog w) A env fun e s' => R (.error e) s') s₃
            else ∃ m, m < n ∧ I m s₃) (notedBy (model prog w) A env fun e s' => R (.error e) s') s₂) (notedBy (model prog w) A env fun e s' => R (.error e) s') s₁') (notedBy (model prog w) A env fun e s' => R (.error e) s') s₁) (notedBy (model prog w) A env fun e s' => R (.error e) s') s)
    (n : Nat) (h : I n s) :
    codeAny (model prog w) A (.compLoop (.ListComp elt [⟨target, iter, ifs, 0⟩] scope pos) 0 it acc env) R s := by
  refine codeAny_loop rfl I (fun n s hI => ?_) n h
  show wpAny _ A ((compTurn (.ListComp elt [⟨target, iter, ifs, 0⟩] scope pos) 0 it acc env).onRaise (fun x => do noteFrame x env; theTreesLotGoes x)) _ _ s
  refine wpAny_noted ?_
  rw [compTurn_list]
  refine wpAny_bind (wpAny_standAt (wpAny_bind (wpAny_mono (turn n s hI) (fun r s₁ h₁ => ?_) fun _ _ h' => h')))
  cases r with
  | none => exact wpAny_pure h₁
  | some v =>
    refine wpAny_bind (wpAny_mono h₁ (fun _ s₁' h₁' => ?_) fun _ _ h' => h')
    refine wpAny_bind (wpAny_mono h₁' (fun _ s₂ h₂ => wpAny_bind (wpAny_mono h₂ (fun ok s₃ h₃ => ?_) fun _ _ h' => h')) fun _ _ h' => h')
    cases ok with
    | false => exact wpAny_pure ⟨rfl, h₃⟩
    | true =>
      exact wpAny_bind (wpAny_bind (wpAny_mono h₃ (fun x s₄ h₄ => wpAny_bind (wpAny_mono h₄ (fun _ s₅ h₅ => wpAny_pure (wpAny_pure ⟨rfl, h₅⟩)) fun _ _ h' => h')) fun _ _ h' => h'))
end
def cA (X : Cx) (N : List Str) (scope : Scope) (cl : List (Str × Addr)) (C : Addr) (s₂ : Shared) (H₂ : Hp) (ex : List Addr) (pn : List (Addr × Obj)) : Cx :=
  { X with N := N, s₀ := s₂, H₀ := H₂, env := compEnvC scope cl C X.env, outer := X.stack, stack := X.stack, ex := ex, fn := fun _ => false, pn := pn, xe := fun _ _ => False }
structure CompScope (X : Cx) (scope : Scope) (cl : List (Str × Addr)) (x : Str) (fr : List Str) : Prop where
  clos : closureFor scope X.env = pure cl
  nocell : ∀ y ∈ scope.names, y.2 ≠ .cell
  kind : scope.kind = .function
  names : ∀ y ∈ scope.names, y.2 = .local → scope.names.lookup y.1 = some .local
  own : scope.names.lookup x = some .local
  keys : ∀ y ∈ cl, y.1 ∈ fr
  cells : fr.map (fun y => cl.lookup y) = fr.map (fun y => X.env.cells.lookup y)
  kinds : ∀ y ∈ fr, X.env.kindOf y = some .cell ∨ X.env.kindOf y = some .free
  kin : ∀ y ∈ fr, (relabel scope X.env).names.lookup y = some .cell ∨ (relabel scope X.env).names.lookup y = some .free
  only : ∀ y, ((relabel scope X.env).names.lookup y = some .cell ∨ (relabel scope X.env).names.lookup y = some .free) → y ∈ fr
theorem rR {α : Type} {l : List (Str × α)} {y : Str} {c : α} (h : l.lookup y = some c) : (y, c) ∈ l := PySem.mem_of_lookup h
theorem CompScope.cell {X : Cx} {scope : Scope} {cl : List (Str × Addr)} {x : Str} {fr : List Str} (S : CompScope X scope cl x fr) {y : Str} (h : y ∈ fr) : cl.lookup y = X.env.cells.lookup y := by
  have e := S.cells
  obtain ⟨i, hi, rfl⟩ := List.getElem_of_mem h
  have := congrArg (fun l => l[i]?) e
  simpa [hi] using this
theorem CompScope.sub {X : Cx} {scope : Scope} {cl : List (Str × Addr)} {x : Str} {fr : List Str} (S : CompScope X scope cl x fr) {y : Str} {c : Addr} (h : cl.lookup y = some c) : X.env.cells.lookup y = some c := by
  rw [← S.cell (S.keys _ (rR h))]; exact h
def PTs (X : Cx) (ifs : List Expr) (t : TT) : Prop :=
  ∀ (pins : List (Addr × Obj)) (s : Shared) (σ : St) (H : Hp) (Q : Bool → Hp → Prop), Inv X pins σ H s → t σ H Q →
    wpAny (model X.prog X.w) X.A (forIn ifs true fun c r => if r = true then do let ok ← isTrue c X.env (eval c X.env); pure (ForInStep.yield ok) else pure (ForInStep.yield r)) (TP X pins σ Q) X.xe s
theorem gH {X : Cx} : PTs X [] (fun _ H Q => Q true H) := fun pins s σ H Q I h => wpAny_tests_nil ⟨H, I, h⟩
theorem oU {X : Cx} {c : Expr} {t : TT} (h : PT X c t) : PTs X [c] t := fun pins s σ H Q I hw => wpAny_tests_one (h pins s σ H Q I hw)
end L2
set_option Elab.async false
set_option maxHeartbeats 4000000
namespace MT
def isD (c : Nat) : Bool := decide (48 ≤ c) && decide (c ≤ 57)
def vl (t : List Nat) : Nat := t.foldl (fun n c => 10 * n + (c - 48)) 0
def fg (t : List Nat) : List Nat := if t.take 1 = [45] then t.drop 1 else t
def good (t : List Nat) : Prop := fg t ≠ [] ∧ (∀ c ∈ fg t, isD c = true) ∧ ((fg t).head? = some 48 → t = [48])
end MT
set_option Elab.async false
set_option linter.all false
set_option maxRecDepth 100000
namespace L2
open PySem PySem.Spec PyProof.Rows Builtin Builtin.Str
section
variable {X : Cx} {e a b c : Expr} {pos : Pos}
def gIn (neg : Bool) : R2
  | .str i, .str j, H, Q => (match cs i with
    | [c] => Q (.bl (neg ^^ decide (c ∈ cs j))) H
    | _ => False)
  | _, _, _, _ => False
theorem rN {i : Str} {c : Nat} (h : cs i = [c]) : i = ⟨#[c]⟩ := by
  obtain ⟨⟨l⟩⟩ := i
  have h' : l = [c] := h
  rw [h']
theorem Bz : OpR X (compareOp .In) (gIn false) := tZ.imp fun x y H Q h => by
  unfold gIn at h; split at h
  · split at h
    · rename_i i j c hc
      refine ⟨_, _, rfl, rfl, ?_⟩
      rw [rN hc, PySem.StrLaws.found_one]
      simpa [cs] using h
    · exact h.elim
  · exact h.elim
def gM (l : List Nat) (lo hi : Option Int) : List Nat := (l.drop (HT.sIx l.length 0 lo)).take (HT.sIx l.length l.length hi - HT.sIx l.length 0 lo)
def gSl : V → Option Int → Option Int → Hp → VK → Prop
  | .str y, lo, hi, H, Q => (cs y).length ≤ sizeLine ∧ Q (T (gM (cs y) lo hi)) H
  | _, _, _, _, _ => False
theorem zO (lo hi : Option Int) (n : Nat) : Builtin.Str.strSliceIndices lo hi 1 n = (List.range (HT.sIx n n hi - HT.sIx n 0 lo)).map (HT.sIx n 0 lo + ·) := by
  obtain ⟨h1, h2, h3⟩ := im lo hi n
  have e : Builtin.Str.strSliceIndices lo hi 1 n = sliceRange (sliceBounds lo hi none n).1 (sliceBounds lo hi none n).2.1 1 := by
    unfold Builtin.Str.strSliceIndices sliceBounds
    cases lo <;> cases hi <;> rfl
  rw [e, h1, h2, sliceRange_one]
theorem tO (y : Str) (lo hi : Option Int) : V.str (Txt.slice y lo hi) = T (gM (cs y) lo hi) := by
  have hl : y.length = (cs y).length := by simp [cs, Str.length]
  have ha : HT.sIx y.length 0 lo ≤ y.length := HT.sIx_le _ _ (Nat.zero_le _) lo
  have hb : HT.sIx y.length y.length hi ≤ y.length := HT.sIx_le _ _ (Nat.le_refl _) hi
  unfold Txt.slice
  rw [zO]
  split
  · rename_i h
    simp only [beq_self_eq_true, Bool.true_and, List.length_map, List.length_range, beq_iff_eq] at h
    have e1 : HT.sIx y.length 0 lo = 0 := by omega
    have e2 : HT.sIx y.length y.length hi = y.length := by omega
    rw [BJ]
    congr 3
    unfold gM
    rw [← hl, e1, e2, List.drop_zero, Nat.sub_zero, hl, List.take_length]
  · rw [pick_run]
    show V.str ⟨_⟩ = V.str ⟨⟨_⟩⟩
    unfold gM cs
    rw [Array.length_toList]
    rfl
theorem nn : SlR X gSl := by
  intro pins s σ H x v vl vu lo hi sl Q I rx hs pl pu h
  unfold gSl at h
  split at h
  · rename_i y
    obtain ⟨hz, q⟩ := h
    obtain ⟨t, rfl⟩ := rx
    have hz' : y.length ≤ sizeLine := by simpa [cs, Str.length] using hz
    refine ⟨"str", _, F.slot_str_getitem.lookup, typeIs_str _ _ _, ?_⟩
    have fin : ∀ t' k, EP X pins σ Q (.str (Txt.slice y lo hi) t') { s with toks := k } := fun t' k => ⟨.str (Txt.slice y lo hi), H, I.tok _, ⟨_, rfl⟩, by rw [tO]; exact q⟩
    cases pl with
    | none => cases pu with
      | none => exact wpAny_getItem_str_slice (l := none) (u := none) (st := none) hs rfl (post_val_or_str ⟨Nat.le_trans (Txt.slice_le y _ _) hz', fin⟩)
      | int j u => exact wpAny_getItem_str_slice (l := none) (u := some (j, u)) (st := none) hs rfl (post_val_or_str ⟨Nat.le_trans (Txt.slice_le y _ _) hz', fin⟩)
    | int i u' => cases pu with
      | none => exact wpAny_getItem_str_slice (l := some (i, u')) (u := none) (st := none) hs rfl (post_val_or_str ⟨Nat.le_trans (Txt.slice_le y _ _) hz', fin⟩)
      | int j u => exact wpAny_getItem_str_slice (l := some (i, u')) (u := some (j, u)) (st := none) hs rfl (post_val_or_str ⟨Nat.le_trans (Txt.slice_le y _ _) hz', fin⟩)
  · exact h.elim
def BW : V → List V → Hp → VK → Prop
  | .str x, [.str y], H, Q => (match cs y with
    | [c] => c ∈ cs x ∧ ∀ i : Nat, (cs x)[i]? = some c → Q (.int i) H
    | _ => False)
  | _, _, _, _ => False
def u6 : List V → Hp → VK → Prop
  | [.int i], H, Q => Q (.int i) H
  | [.bl k], H, Q => Q (.int (if k then 1 else 0)) H
  | [.str x], H, Q => ((cs x) ≠ [] ∧ (∀ c ∈ cs x, MT.isD c = true) ∧ (cs x).length ≤ 640) ∧ Q (.int (MT.vl (cs x))) H
  | _, _, _ => False
theorem lQ : CallR X (.type "int") (fun xs H Q => ∃ x, xs = [.str x] ∧ ((cs x) ≠ [] ∧ (∀ c ∈ cs x, MT.isD c = true) ∧ (cs x).length ≤ 640) ∧ Q (.int (MT.vl (cs x))) H) := by
  intro pins s σ H xs us Q I r h
  obtain ⟨x, rfl, ⟨h0, hd, hl⟩, q⟩ := h
  obtain ⟨u, rfl, t, rfl⟩ := fG r
  have hl' : x.length ≤ 640 := by simpa [cs, Str.length] using hl
  have e : PySem.NumText.digitsVal x.cps.toList = MT.vl (cs x) := by
    unfold PySem.NumText.digitsVal MT.vl cs
    congr 1
    funext a c; omega
  have hn : intText? x = some ((MT.vl (cs x) : Nat) : Int) := by
    rw [PySem.intText_digits (fun c hc => by have := hd c hc; simpa [MT.isD] using this) h0 (by omega), e]
  exact PySem.W.KIN.call_text hn hl' ⟨.int _, H, I.tok _, ⟨_, rfl⟩, q⟩
theorem xa : CallR X (.type "int") u6 := (ug.or lQ).imp fun xs H Q h => by
  unfold u6 at h; split at h
  · exact .inl (.inl ⟨_, rfl, h⟩)
  · exact .inl (.inr ⟨_, rfl, h⟩)
  · exact .inr ⟨_, rfl, h.1, h.2⟩
  · exact h.elim
end
end L2
set_option Elab.async false
set_option linter.all false
set_option maxRecDepth 100000
namespace L2
open PySem PySem.Spec PyProof.Rows
def Its (x : Str) : It := ⟨fun i _ => i < x.cps.size, fun i H v H' => H' = H ∧ ∃ c, x.cps[i]? = some c ∧ v = .str ⟨#[c]⟩, fun i _ => x.cps.size ≤ i⟩
theorem vO {P : Program} {w : World} {K : PySem.W.Frag} {tg : Expr} (x : Str) (t : Tok) (it : Addr) : uh P w K tg (Its x) [it] it (fun i h => h.IsStrIter it "str_ascii_iterator" x t i) where
  mem := by simp
  obj := fun i h st b hb => by
    have e : b = it := by simpa using hb
    subst e
    obtain ⟨o, e, c, d⟩ := st
    exact ⟨o, e, fun v z => by rw [d] at z; cases z⟩
  keep := fun i h h' st k => by
    obtain ⟨o, e, c, d⟩ := st
    exact ⟨o, k it (by simp) o e, c, d⟩
  item := by
    intro X hP hw hK hc i pins s σ H E I hf st hg
    subst hP hw hK
    have hg' : i < x.cps.size := hg
    obtain ⟨f0, f1, f2, f3, f4, f5⟩ := hf it (by simp)
    have hx : x.cps[i]? = some x.cps[i] := by simp [hg']
    refine wpAny_pyNext_ascii_item st hx fun h' st' sb => ?_
    have I1 : Inv X pins σ H { s with heap := h', toks := s.toks + 1 } := I.turned (fun b o hb e => (sb.2 b hb).trans e) f0 f1 f3 f4 f5
    obtain ⟨o, e, c, d⟩ := id st'
    exact ⟨_, rfl, mO (s := { s with heap := h', toks := s.toks + 1 }) e c d (by decide) ⟨.str ⟨#[x.cps[i]]⟩, H, I1, ⟨_, rfl⟩, ⟨rfl, _, hx, rfl⟩, st', fun b hb => (hf b hb).1⟩⟩
  done := by
    intro X hP hw hK hc i pins s σ H E I hf st hg
    subst hP hw hK
    have hg' : x.cps.size ≤ i := hg
    obtain ⟨f0, f1, f2, f3, f4, f5⟩ := hf it (by simp)
    have hx : x.cps[i]? = none := by simp [hg']
    exact wpAny_pyNext_ascii_end (I.ok.hd hc) st hx fun h' eb => ⟨rfl, I.turned (fun b o hb e => eb b o hb e) f0 f1 f3 f4 f5⟩
  self := fun _ _ _ _ _ st h => wpAny_pyIter_striter_ascii st h
def Bf (tl : TE) : TI := fun σ H R => tl σ H fun v H1 => match v with
  | .str x => (∀ c ∈ cs x, c < 128) ∧ R (Its x) H1
  | _ => False
theorem zM {X : Cx} {tg l : Expr} {tl : TE} (hl : PE X l tl) : PI X tg l (Bf tl) := by
  intro pins s σ H R I h
  refine thn (hl pins s σ H _ I h) fun v s1 ⟨y, H1, I1, r1, q⟩ => ?_
  dsimp only at q
  split at q
  · rename_i x
    obtain ⟨ha, q⟩ := q
    obtain ⟨t, rfl⟩ := r1
    have ha' : x.cps.all (· < 128) = true := by
      rw [Array.all_eq_true]
      intro i hi
      exact decide_eq_true (ha _ (by unfold cs; rw [Array.mem_toList_iff]; exact Array.getElem_mem hi))
    refine wpAny_pyIter_ascii ha' ?_
    refine ⟨s1.heap.objs.size, [s1.heap.objs.size], _, _, H1, rfl, I1.kept (t' := s1.toks) fun b o e => Heap.get?_push_of_some _ e, vO x t _, ⟨_, Heap.get?_push_size _ rfl, rfl, rfl⟩, fun b hb => ?_, q⟩
    have e : b = s1.heap.objs.size := by simpa using hb
    subst e
    exact I1.fpOk (Nat.le_refl _) (I1.hok.fresh (Nat.le_refl _))
  · exact q.elim
section
variable {X : Cx}
theorem pW : ∀ {bs : List Bool} {us : List Value}, Vals (bs.map V.bl) us → LSm.BoolsAre us bs
  | [], _, .nil => .nil
  | b :: r, _, .cons e t => by
    cases (show _ = Value.bool b from e)
    exact .cons b (pW t)
def Ae (K : PySem.W.Frag) : List V → Hp → VK → Prop
  | [.ref p], H, Q => ∃ bs : List Bool, SqL K H p (bs.map V.bl) ∧ Q (.bl (bs.all id)) H
  | _, _, _ => False
theorem nz (K : PySem.W.Frag) (hc : X.calm = true) (hK : X.K = K := by rfl) : CallR X (.builtin "all") (Ae K) := by
  subst hK
  intro pins s σ H xs us Q I r h
  unfold Ae at h
  split at h
  · rename_i p
    obtain ⟨bs, hq, q⟩ := h
    obtain ⟨u, rfl, rx⟩ := fG r
    cases (show u = Value.ref p from rx)
    obtain ⟨its, rv, pl, hz⟩ := I.list hq
    have hne : p ≠ s.heap.objs.size := Nat.ne_of_lt (by obtain ⟨_, e, _⟩ := pl.isList; exact Heap.lt_size e)
    have hb : LSm.BoolsAre its bs := pW rv
    refine call_all_walk (wpAny_pyIter_list pl.isList ?_)
    refine ⟨s.heap.objs.size, [s.heap.objs.size, p], [s.heap.objs.size], its.toArray.size, _, _, fun i => (bs[i]?).getD true, rfl, Walks.list (A := X.A.in1) (I.ok.hd hc) _ p hne its.toArray,
      ⟨⟨_, Heap.get?_push_size _ rfl, rfl, rfl⟩, pl.isList.push _⟩, fun i v s' Q' E' hP hQ => ?_, fun h' tk hk => ?_⟩
    · obtain ⟨b, e, rfl⟩ := hb.get i v (by simpa using hP)
      simp only [e, Option.getD_some] at hQ
      exact wpAny_truthy_bool hQ
    · have e : ((List.range its.toArray.size).all fun i => (bs[i]?).getD true) = bs.all id := by
        rw [List.size_toArray, hb.length]; exact LSm.range_all bs
      rw [e]
      exact ⟨.bl (bs.all id), H, I.kept (LSm.kept_iter hk), rfl, q⟩
  · exact h.elim
end
end L2
set_option Elab.async false
set_option linter.all false
set_option maxRecDepth 100000
namespace L2
open PySem PySem.Spec PyProof.Rows Builtin Builtin.Str
def bO (sep : List Nat) : List (List Nat) → List Nat
  | [] => []
  | [x] => x
  | x :: y :: r => x ++ sep ++ bO sep (y :: r)
theorem nc : ∀ ls : List (List Nat), bO [] ls = ls.flatten
  | [] => rfl
  | [x] => by simp [bO]
  | x :: y :: r => by rw [bO, nc (y :: r)]; simp
def S (l : List Nat) : Str := ⟨⟨l⟩⟩
theorem mD (sep : List Nat) : ∀ (r : List (List Nat)) (x : List Nat), ((r.map S).foldl (fun acc p => acc ++ (S sep).cps ++ p.cps) (S x).cps) = (S (bO sep (x :: r))).cps
  | [], x => rfl
  | y :: r, x => by
    rw [List.map_cons, List.foldl_cons]
    have e : (S x).cps ++ (S sep).cps ++ (S y).cps = (S (x ++ sep ++ y)).cps := by
      apply Array.ext'; simp [S]
    rw [e, mD sep r]
    congr 1
    cases r with
    | nil => rfl
    | cons z r' => unfold bO; simp [bO, List.append_assoc]
theorem sL (sep : List Nat) (ls : List (List Nat)) : Txt.join (S sep) (ls.map S) = S (bO sep ls) := by
  unfold Txt.join glued
  cases ls with
  | nil => rfl
  | cons x r =>
    show (⟨((x :: r).map S).drop 1 |>.foldl _ _⟩ : Str) = _
    rw [List.map_cons, List.drop_one, List.tail_cons, List.headD_cons, mD]
theorem sE : ∀ {ls : List (List Nat)} {us : List Value}, Vals (ls.map T) us → StrsAre us (ls.map S)
  | [], _, .nil => .nil
  | l :: r, _, .cons e t => by
    obtain ⟨k, rfl⟩ := e
    exact .cons _ k (sE t)
def vp (sep : List Nat) (ls : List (List Nat)) : Prop := (ls.map List.length).sum + ls.length * sep.length ≤ 16777216
theorem xH {sep : List Nat} {ls : List (List Nat)} (h : vp sep ls) : (((ls.map S).map (·.length)).sum + (ls.map S).length * (S sep).length ≤ 16777216) := by
  have e : (ls.map S).map (·.length) = ls.map List.length := by rw [List.map_map]; apply List.map_congr_left; intro l _; rfl
  rw [e, List.length_map]; exact h
section
variable {X : Cx}
def wE (K : PySem.W.Frag) : V → List V → Hp → VK → Prop
  | .str x, [.ref p], H, Q => ∃ ls : List (List Nat), SqL K H p (ls.map T) ∧ vp (cs x) ls ∧ Q (T (bO (cs x) ls)) H
  | _, _, _, _ => False
theorem o9 (K : PySem.W.Frag) (hK : X.K = K := by rfl) : MtR X "str.join" (wE K) := by
  subst hK
  intro pins s σ H x xs v us Q I rx rs h
  unfold wE at h
  split at h
  · rename_i y p
    obtain ⟨ls, hq, hf, q⟩ := h
    obtain ⟨t, rfl⟩ := rx
    obtain ⟨u, rfl, ru⟩ := fG rs
    cases (show u = Value.ref p from ru)
    obtain ⟨its, rv, pl, hz⟩ := I.list hq
    refine join_list pl.isList (sE rv) (xH hf) fun t' k => ?_
    exact ⟨.str (Txt.join y (ls.map S)), H, I.tok _, ⟨_, rfl⟩, by rw [show y = S (cs y) from rfl, sL]; exact q⟩
  · exact h.elim
end
end L2
namespace PySem
open Sem (wp)
open Builtin Builtin.Str Builtin.Int
set_option maxRecDepth 100000
namespace F
end F
section
variable {prog : Program} {w : World} {A : Around} {E : Value → Shared → Prop} {s : Shared} {I : Addr} {fp wr : List Addr} {G : Array GenState → Array GenState → Prop} {n : Nat} {P : Nat → Value → Prop} {St : Nat → Shared → Prop}
end
end PySem
set_option Elab.async false
set_option linter.all false
set_option maxRecDepth 100000
namespace L2
open PySem PySem.Spec PyProof.Rows Builtin Builtin.Str
section
variable {X : Cx} {o e : Expr} {to te : TE} {apos cpos p pos : Pos}
end
end L2
set_option Elab.async false
set_option linter.all false
set_option maxRecDepth 100000
namespace L2
open PySem PySem.Spec PyProof.Rows Builtin Builtin.Str
section
variable {X : Cx}
structure w6 (J : It) (vs : List V) : Prop where
  go : ∀ i H, i < vs.length → J.go i H
  yld : ∀ i H x H', i < vs.length → J.yld i H x H' → H' = H ∧ vs[i]? = some x
  stop : ∀ H, J.stop vs.length H
theorem vq (l : List Nat) : w6 (Its ⟨⟨l⟩⟩) (l.map fun c => T [c]) := by
  refine ⟨fun i H h => by simpa [Its] using h, fun i H x H' _ y => ?_, fun H => by simp [Its]⟩
  obtain ⟨e, c, hc, rfl⟩ := y
  refine ⟨e, ?_⟩
  have : l[i]? = some c := by simpa using hc
  rw [List.getElem?_map, this]; rfl
theorem wg (n : Nat) : w6 (Itr 0 n) ((List.range n).map fun k => .int (k : Nat)) := by
  refine ⟨fun i H h => by simpa [Itr] using h, fun i H x H' hi y => ?_, fun H => by simp [Itr]⟩
  obtain ⟨e, rfl⟩ := y
  refine ⟨e, ?_⟩
  have hi' : i < n := by simpa using hi
  simp [hi']
theorem jt {J : It} {vs : List V} (E : w6 J vs) {σ' : St} {H1 : Hp} {Q : VK} {tt : TT} {te : TE} (C : Hp → Prop) (p : V → Bool) (f : V → V) (hlen : vs.length ≤ sizeLine)
    (hp : ∀ x ∈ vs, ∀ H (R : Bool → Hp → Prop), C H → R (p x) H → tt (some x :: σ') H R) (hf : ∀ x ∈ vs, p x = true → ∀ H (R : VK), C H → R (f x) H → te (some x :: σ') H R)
    (D : Addr) (hD : H1 D = none) (hC : ∀ ys, C (upd H1 D (.lst ys))) (q : Q (.ref D) (upd H1 D (.lst ((vs.filter p).map f)))) :
    ∃ W : Nat → Nat → List V → Hp → Prop, (∃ m, W 0 m [] (upd H1 D (.lst []))) ∧
      ∀ i m ys H2, W i m ys H2 → H2 D = some (.lst ys) ∧ ((J.stop i H2 ∧ Q (.ref D) H2) ∨ (J.go i H2 ∧ ∀ x H3, J.yld i H2 x H3 →
        tt (some x :: σ') H3 fun b H4 => if b = true then te (some x :: σ') H4 fun y H5 => H5 D = some (.lst ys) ∧ ys.length < sizeLine ∧ ∃ m', m' < m ∧ W (i + 1) m' (ys ++ [y]) (upd H5 D (.lst (ys ++ [y])))
          else ∃ m', m' < m ∧ W (i + 1) m' ys H4)) := by
  refine ⟨fun i m ys H2 => m = vs.length - i ∧ i ≤ vs.length ∧ ys = ((vs.take i).filter p).map f ∧ H2 = upd H1 D (.lst ys), ⟨vs.length, by simp, Nat.zero_le _, by simp, rfl⟩, ?_⟩
  rintro i m ys H2 ⟨rfl, hi, hys, rfl⟩
  refine ⟨ad, ?_⟩
  by_cases hlt : i < vs.length
  · refine .inr ⟨E.go i _ hlt, fun x H3 y => ?_⟩
    obtain ⟨e, hx⟩ := E.yld i _ x H3 hlt y
    subst e
    have hm : x ∈ vs := List.mem_of_getElem? hx
    have htk : vs.take (i + 1) = vs.take i ++ [x] := by
      rw [List.take_succ, hx]; rfl
    have hyl : ys.length ≤ i := by
      rw [hys, List.length_map]
      exact Nat.le_trans (List.length_filter_le _ _) (by simp [List.length_take]; omega)
    refine hp x hm _ _ (hC _) ?_
    cases hb : p x with
    | true =>
      rw [if_pos rfl]
      refine hf x hm hb _ _ (hC _) ⟨ad, by omega, vs.length - (i + 1), by omega, rfl, hlt, ?_, ?_⟩
      · rw [htk, List.filter_append, List.map_append, ← hys]
        simp [hb]
      · funext z
        by_cases hz : z = D
        · subst hz; rw [ad, ad]
        · rw [ap hz, ap hz, ap hz]
    | false =>
      rw [if_neg Bool.false_ne_true]
      refine ⟨vs.length - (i + 1), by omega, rfl, hlt, ?_, rfl⟩
      rw [htk, List.filter_append, List.map_append, ← hys]
      simp [hb]
  · have e : i = vs.length := by omega
    subst e
    refine .inl ⟨E.stop _, ?_⟩
    rw [List.take_length] at hys
    rw [hys]; exact q
end
theorem SqL.same {K : PySem.W.Frag} {H H' : Hp} {a : Addr} {xs : List V} (s : Same H H') (h : SqL K H a xs) : SqL K H' a xs := by
  rcases h with (h | ⟨o, h⟩) | h
  · exact .inl (.inl (s _ _ h))
  · exact .inl (.inr ⟨o, s _ _ h⟩)
  · exact .inr h
theorem o7 (g : Nat → Nat) : ∀ l : List Nat, (l.map fun k => [g k]).flatten = l.map g
  | [] => rfl
  | a :: r => by rw [List.map_cons, List.flatten_cons, o7 g r]; rfl
theorem sK (g : Nat → Nat) : ∀ l : List Nat, ((l.map fun k => [g k]).map List.length).sum = l.length
  | [] => rfl
  | a :: r => by have := sK g r; simp only [List.map_cons, List.sum_cons, List.length_cons, List.length_nil, this]; omega
theorem vg {K : PySem.W.Frag} {H1 : Hp} {D : Addr} {Q : VK} (l : List Nat) (g : Nat → Nat) (hs : H1 D = some (.lst (l.map fun k => T [g k]))) (hl : l.length ≤ 1000) (q : Q (T (l.map g)) H1) : wE K (T []) [.ref D] H1 Q := by
  refine ⟨l.map fun k => [g k], SqL.of (by rw [hs, List.map_map]; rfl), ?_, ?_⟩
  · unfold vp; rw [sK]; simp [cs]; omega
  · show Q (T (bO [] _)) H1
    rw [nc, o7]; exact q
theorem Bc {P : Program} {w : World} {X : Cx} : dM (XE P w) X (fun _ _ _ _ => False) := fun _ _ _ _ _ _ _ ⟨_, _, _, _, _, _, _, _, _, _, _, q⟩ => q.elim
def wN : Option NameKind → Bool
  | some .cell => true
  | some .free => true
  | _ => false
theorem qo {k : Option NameKind} : wN k = true ↔ (k = some .cell ∨ k = some .free) := by
  cases k with
  | none => simp [wN]
  | some k => cases k <;> simp [wN]
theorem dL {cl : List (Str × Addr)} {fr : List Str} (h : (cl.map (·.1)).all (fun y => fr.elem y) = true) : ∀ y ∈ cl, y.1 ∈ fr := fun y hy => by
  have := List.all_eq_true.mp h y.1 (List.mem_map_of_mem hy)
  simpa using this
theorem bo {fr : List Str} {k : Str → Option NameKind} (h : fr.all (fun y => wN (k y)) = true) : ∀ y ∈ fr, k y = some .cell ∨ k y = some .free := fun y hy => qo.mp (List.all_eq_true.mp h y hy)
theorem dN {names : List (Str × NameKind)} {fr : List Str} (h : names.all (fun p => !wN (some p.2) || fr.elem p.1) = true) : ∀ y, (names.lookup y = some .cell ∨ names.lookup y = some .free) → y ∈ fr := fun y hy => by
  have hy' := qo.mpr hy
  cases e : names.lookup y with
  | none => rw [e] at hy'; cases hy'
  | some k =>
    rw [e] at hy'
    have := List.all_eq_true.mp h (y, k) (PySem.mem_of_lookup e)
    simpa [hy'] using this
end L2
set_option Elab.async false
set_option linter.all false
set_option maxRecDepth 100000
namespace L2
open PySem PySem.Spec PyProof.Rows Builtin Builtin.Str
section
variable {X : Cx} {pos : Pos}
theorem y9 {pins : List (Addr × Obj)} {σ : St} {H : Hp} {s : Shared} (I : Inv X pins σ H s) : sysModules < s.heap.objs.size :=
  Nat.lt_trans (by decide) (show mainGlobals < s.heap.objs.size from (I.mod.glob.keeps I.bk).lt)
def yQ : TE := fun _ H Q => ∀ p, H p = none → Q (.ref p) (upd H p (.dK []))
theorem sA : PE X (.Dict [] [] pos) yQ := by
  intro pins s σ H Q I h
  have new : ObjOk X.prog X.w (upd H s.heap.objs.size (.dK [])) (s.heap.push { cls := .type "dict", data := .dict #[] }) s.heap.objs.size (.dK []) :=
    ⟨Nat.zero_le _, beq_eq_false_iff_ne.mpr (Ne.symm (Nat.ne_of_lt (y9 I))), [], .nil, Heap.DictOf.new s.heap⟩
  exact wpAny_Dict_empty ⟨.ref s.heap.objs.size, _, I.laid (t' := s.toks) (fun _ _ q => Heap.get?_push_of_some _ q) (Nat.le_refl _) new, rfl, h _ (I.hok.fresh (Nat.le_refl _))⟩
end
end L2
set_option Elab.async false
set_option linter.all false
set_option maxRecDepth 100000
namespace L2
open PySem PySem.Spec PyProof.Rows Builtin Builtin.Str
section
variable {X : Cx}
structure yP (C : Hp → Prop) (J : It) (vs : List V) : Prop where
  go : ∀ i H, C H → i < vs.length → J.go i H
  yld : ∀ i H x H', C H → i < vs.length → J.yld i H x H' → H' = H ∧ vs[i]? = some x
  stop : ∀ H, C H → J.stop vs.length H
theorem rm {J : It} {vs : List V} {σ' : St} {H1 : Hp} {Q : VK} {tt : TT} {te : TE} (C : Hp → Prop) (E : yP C J vs) (p : V → Bool) (f : V → V) (hlen : vs.length ≤ sizeLine)
    (hp : ∀ x ∈ vs, ∀ H (R : Bool → Hp → Prop), C H → R (p x) H → tt (some x :: σ') H R) (hf : ∀ x ∈ vs, p x = true → ∀ H (R : VK), C H → R (f x) H → te (some x :: σ') H R)
    (D : Addr) (hD : H1 D = none) (hC : ∀ ys, C (upd H1 D (.lst ys))) (q : Q (.ref D) (upd H1 D (.lst ((vs.filter p).map f)))) :
    ∃ W : Nat → Nat → List V → Hp → Prop, (∃ m, W 0 m [] (upd H1 D (.lst []))) ∧
      ∀ i m ys H2, W i m ys H2 → H2 D = some (.lst ys) ∧ ((J.stop i H2 ∧ Q (.ref D) H2) ∨ (J.go i H2 ∧ ∀ x H3, J.yld i H2 x H3 →
        tt (some x :: σ') H3 fun b H4 => if b = true then te (some x :: σ') H4 fun y H5 => H5 D = some (.lst ys) ∧ ys.length < sizeLine ∧ ∃ m', m' < m ∧ W (i + 1) m' (ys ++ [y]) (upd H5 D (.lst (ys ++ [y])))
          else ∃ m', m' < m ∧ W (i + 1) m' ys H4)) := by
  refine ⟨fun i m ys H2 => m = vs.length - i ∧ i ≤ vs.length ∧ ys = ((vs.take i).filter p).map f ∧ H2 = upd H1 D (.lst ys), ⟨vs.length, by simp, Nat.zero_le _, by simp, rfl⟩, ?_⟩
  rintro i m ys H2 ⟨rfl, hi, hys, rfl⟩
  refine ⟨ad, ?_⟩
  by_cases hlt : i < vs.length
  · refine .inr ⟨E.go i _ (hC _) hlt, fun x H3 y => ?_⟩
    obtain ⟨e, hx⟩ := E.yld i _ x H3 (hC _) hlt y
    subst e
    have hm : x ∈ vs := List.mem_of_getElem? hx
    have htk : vs.take (i + 1) = vs.take i ++ [x] := by
      rw [List.take_succ, hx]; rfl
    have hyl : ys.length ≤ i := by
      rw [hys, List.length_map]
      exact Nat.le_trans (List.length_filter_le _ _) (by simp [List.length_take]; omega)
    refine hp x hm _ _ (hC _) ?_
    cases hb : p x with
    | true =>
      rw [if_pos rfl]
      refine hf x hm hb _ _ (hC _) ⟨ad, by omega, vs.length - (i + 1), by omega, rfl, hlt, ?_, ?_⟩
      · rw [htk, List.filter_append, List.map_append, ← hys]
        simp [hb]
      · funext z
        by_cases hz : z = D
        · subst hz; rw [ad, ad]
        · rw [ap hz, ap hz, ap hz]
    | false =>
      rw [if_neg Bool.false_ne_true]
      refine ⟨vs.length - (i + 1), by omega, rfl, hlt, ?_, rfl⟩
      rw [htk, List.filter_append, List.map_append, ← hys]
      simp [hb]
  · have e : i = vs.length := by omega
    subst e
    refine .inl ⟨E.stop _ (hC _), ?_⟩
    rw [List.take_length] at hys
    rw [hys]; exact q
theorem vo {K : PySem.W.Frag} {C : Hp → Prop} {a : Addr} {vs : List V} (h : ∀ H, C H → SqL K H a vs) : yP C (Itl K a) vs :=
  ⟨fun i H c hi => ⟨vs, vs[i], h H c, List.getElem?_eq_getElem hi⟩, fun i H x H' c _ y => ⟨y.1, y.2 vs (h H c)⟩, fun H c => ⟨vs, h H c, Nat.le_refl _⟩⟩
end
end L2
set_option Elab.async false
set_option linter.all false
set_option maxRecDepth 100000
namespace L2
open PySem PySem.Spec PyProof.Rows
section
variable {X : Cx} {K : PySem.W.Frag} {pos : Pos}
theorem iO (K : PySem.W.Frag) {es : List Expr} {k : Nat} {t : TGs} {n : Nat} (hc : X.calm = true) (h : PGs X es t) (hK : X.K = K := by rfl)
    (hn : (assignEach es X.env).length = n := by rfl) (hst : (assignEach es X.env).findIdx? (·.1) = none := by rfl) : PG X (.Tuple es k pos) (zn K n t) := by
  subst hK; exact AA hc h hn hst
end
section
variable {X : Cx} {T name id : String} {r : V → List V → Hp → VK → Prop} {o e : Expr} {es : List Expr} {to : TE} {t : TA} {apos cpos : Pos}
theorem cJ (K : PySem.W.Frag) (pa : PlainAttrs T) (slot : Slot T name id) (hty : typeOf (.builtin id) = pure (.type "method_descriptor")) (hm : MtR X id r) (ho : PE X o to) (ha : PA X (e :: es) t) (hK : X.K = K := by rfl)
    (hbase : attributeBase o name X.env (eval o X.env) = eval o X.env := by rfl)
    (hfew : ((backTo cpos (starEach (e :: es) X.env)).all (fun x => !x.1) && (backToKw cpos (keywordEach [] X.env)).all (fun x => x.1.isSome)
      && decide ((e :: es).length + ([] : List Keyword).length + (if ([] : List Keyword).isEmpty then 0 else 1) < 30)) = true := by rfl)
    (hline : (apos.endLine == cpos.line) = true := by rfl) (hs : starEach (e :: es) X.env = (false, eval e X.env) :: starEach es X.env := by rfl) (hplain : (backTo cpos (starEach es X.env)).any (·.1) = false := by rfl) :
    PE X (.Call (.Attribute o name apos) (e :: es) [] cpos) (tBM K T r to t) := by
  subst hK; exact Be pa slot hty hm ho ha hbase hfew hline hs hplain
end
section
variable {K : PySem.W.Frag} {tl : TE} {ks : List Nat} {σ : St} {H : Hp} {Q : VK} {tt : TT} {te : TE}
end
end L2
set_option Elab.async false
set_option linter.all false
set_option maxRecDepth 100000
namespace L2
end L2
set_option Elab.async false
set_option linter.all false
set_option maxRecDepth 100000
namespace L2
open PySem PySem.Spec PyProof.Rows Builtin Builtin.Str
def spN (c : Nat) : List Nat → List (List Nat)
  | [] => [[]]
  | a :: r => if a = c then [] :: spN c r else match spN c r with
    | h :: t => (a :: h) :: t
    | [] => [[a]]
theorem hJ (c : Nat) : ∀ l, spN c l ≠ []
  | [] => by simp [spN]
  | a :: r => by
    unfold spN
    split
    · simp
    · split <;> simp
theorem kr (c : Nat) : ∀ l : List Nat, c ∉ l → spN c l = [l]
  | [], _ => rfl
  | a :: r, h => by
    have h1 : ¬ a = c := fun z => h (by rw [z]; simp)
    have h2 : c ∉ r := fun z => h (List.mem_cons_of_mem _ z)
    unfold spN
    rw [if_neg h1, kr c r h2]
theorem tB (c : Nat) : ∀ (l r : List Nat), c ∉ l → spN c (l ++ c :: r) = l :: spN c r
  | [], r, _ => by simp [spN]
  | a :: l, r, h => by
    have h1 : ¬ a = c := fun z => h (by rw [z]; simp)
    have h2 : c ∉ l := fun z => h (List.mem_cons_of_mem _ z)
    rw [List.cons_append]
    show (if a = c then _ else _) = _
    rw [if_neg h1, tB c l r h2]
theorem ko (c : Nat) : ∀ ps : List (List Nat), ps ≠ [] → (∀ p ∈ ps, c ∉ p) → spN c (bO [c] ps) = ps
  | [], h, _ => absurd rfl h
  | [p], _, h => kr c p (h p (by simp))
  | p :: q :: r, _, h => by
    rw [bO, List.append_assoc, List.singleton_append, tB c p _ (h p (by simp)), ko c (q :: r) (by simp) fun x hx => h x (List.mem_cons_of_mem _ hx)]
theorem lA (c : Nat) : ∀ l : List Nat, bO [c] (spN c l) = l
  | [] => rfl
  | a :: r => by
    have ih := lA c r
    unfold spN
    split
    · rename_i e
      cases es : spN c r with
      | nil => exact absurd es (hJ c r)
      | cons h t => rw [es] at ih; rw [bO, ih, e]; rfl
    · cases es : spN c r with
      | nil => exact absurd es (hJ c r)
      | cons h t =>
        rw [es] at ih
        cases t with
        | nil => simp [bO] at ih ⊢; exact ih
        | cons h2 t => rw [bO] at ih ⊢; rw [← ih]; simp
theorem gC (c : Nat) : ∀ (l : List Nat), ∀ p ∈ spN c l, c ∉ p
  | [], p, hp => by simp [spN] at hp; rw [hp]; simp
  | a :: r, p, hp => by
    unfold spN at hp
    split at hp
    · rcases List.mem_cons.mp hp with h | h
      · rw [h]; simp
      · exact gC c r p h
    · rename_i hne
      split at hp
      · rename_i h t es
        rcases List.mem_cons.mp hp with e | e
        · rw [e]
          have := gC c r h (by rw [es]; simp)
          simp only [List.mem_cons, not_or]
          exact ⟨fun z => hne z.symm, this⟩
        · exact gC c r p (by rw [es]; exact List.mem_cons_of_mem _ e)
      · rename_i es; exact absurd es (hJ c r)
theorem jP (c : Nat) : ∀ l : List Nat, (spN c l).length ≤ l.length + 1
  | [] => by simp [spN]
  | a :: r => by
    have ih := jP c r
    unfold spN
    split
    · simp; omega
    · split
      · rename_i es; rw [es] at ih; simp at ih ⊢; omega
      · simp
theorem iz (c : Nat) : ∀ l : List Nat, ∀ p ∈ spN c l, p.length ≤ l.length ∧ ∀ d ∈ p, d ∈ l
  | [], p, hp => by simp [spN] at hp; rw [hp]; simp
  | a :: r, p, hp => by
    unfold spN at hp
    split at hp
    · rcases List.mem_cons.mp hp with h | h
      · rw [h]; simp
      · obtain ⟨h1, h2⟩ := iz c r p h
        exact ⟨by rw [List.length_cons]; omega, fun d hd => List.mem_cons_of_mem _ (h2 d hd)⟩
    · split at hp
      · rename_i h t es
        rcases List.mem_cons.mp hp with e | e
        · obtain ⟨h1, h2⟩ := iz c r h (by rw [es]; simp)
          rw [e]
          refine ⟨by rw [List.length_cons, List.length_cons]; omega, fun d hd => ?_⟩
          rcases List.mem_cons.mp hd with z | z
          · rw [z]; simp
          · exact List.mem_cons_of_mem _ (h2 d z)
        · obtain ⟨h1, h2⟩ := iz c r p (by rw [es]; exact List.mem_cons_of_mem _ e)
          exact ⟨by rw [List.length_cons]; omega, fun d hd => List.mem_cons_of_mem _ (h2 d hd)⟩
      · rename_i es; exact absurd es (hJ c r)
theorem vE (x y : Str) : Txt.split x y ≠ [] := by
  unfold Txt.split
  split
  · simp
  · split
    · simp
    · rw [StrLaws.partsBetween_eq]
      obtain ⟨p, r, e⟩ := StrLaws.partsFrom_ne x y.length 0 (occurrences x y 0 x.length (x.length + 1))
      rw [e]; simp
theorem ph (l : List Nat) (c : Nat) : (Txt.split ⟨⟨l⟩⟩ ⟨#[c]⟩).map (fun x => cs x) = spN c l := by
  have h1 := StrLaws.join_split ⟨⟨l⟩⟩ ⟨#[c]⟩
  have h2 := StrLaws.split_free ⟨⟨l⟩⟩ c
  have h0 := vE ⟨⟨l⟩⟩ ⟨#[c]⟩
  generalize Txt.split ⟨⟨l⟩⟩ ⟨#[c]⟩ = ps at h0 h1 h2
  have hj : bO [c] (ps.map fun x => cs x) = l := by
    have e : ps = (ps.map fun x => cs x).map S := by rw [List.map_map]; conv => lhs; rw [← List.map_id ps]
                                                     apply List.map_congr_left; intro x _; rfl
    rw [e] at h1
    have h3 : Str.join (S [c]) ((ps.map fun x => cs x).map S) = S (bO [c] (ps.map fun x => cs x)) := by
      have := sL [c] (ps.map fun x => cs x)
      exact (StrLaws.glued_eq_join _ _).symm.trans this
    have h4 : S (bO [c] (ps.map fun x => cs x)) = ⟨⟨l⟩⟩ := h3.symm.trans h1
    have h5 := congrArg cs h4
    exact h5
  have hne : (ps.map fun x => cs x) ≠ [] := by
    intro z
    exact h0 (List.map_eq_nil_iff.mp z)
  rw [← hj, ko c _ hne]
  intro p hp
  obtain ⟨x, hx, rfl⟩ := List.mem_map.mp hp
  exact h2 x hx
section
variable {X : Cx} {e a b c : Expr} {pos : Pos}
def zN : V → List V → Hp → VK → Prop
  | .str x, [.str y], H, Q => (∃ c, cs y = [c] ∧ (cs x).length + 2 ≤ sizeLine ∧ ∀ p, H p = none → Q (.ref p) (upd H p (.lst ((spN c (cs x)).map T))))
  | _, _, _, _ => False
theorem mT : ∀ (l : List (Str × Tok)), Vals (l.map fun p => V.str p.1) (strValues l)
  | [] => .nil
  | p :: r => .cons ⟨p.2, rfl⟩ (mT r)
theorem ka : MtR X "str.split" zN := by
  intro pins s σ H x xs v us Q I rx rs h
  unfold zN at h
  split at h
  · rename_i x y
    obtain ⟨c, hc, hz, q⟩ := h
    obtain ⟨t, rfl⟩ := rx
    obtain ⟨u, rfl, t', rfl⟩ := fG rs
    have hy := rN hc
    subst hy
    obtain ⟨⟨l⟩⟩ := x
    have hx : (⟨⟨l⟩⟩ : Str).length + 2 ≤ sizeLine := hz
    have fin : ∀ (l' : List (Str × Tok)) (k : Nat), l'.map (·.1) = Txt.split ⟨⟨l⟩⟩ ⟨#[c]⟩ → EP X pins σ Q (.ref s.heap.objs.size) { s with toks := k, heap := s.heap.push { cls := .type "list", data := .seq (strValues l').toArray } } := fun l' k hl => by
      have e : (spN c l).map T = l'.map fun p => V.str p.1 := by
        rw [← ph, ← hl, List.map_map, List.map_map]
        apply List.map_congr_left
        intro p _; rfl
      have hlen : ((spN c l).map T).length ≤ sizeLine := by
        rw [List.length_map]
        have := jP c l
        have hz' : l.length + 2 ≤ sizeLine := hz
        omega
      have hv : Vals ((spN c l).map T) (strValues l') := by rw [e]; exact mT l'
      exact ⟨.ref s.heap.objs.size, _, I.lnew (t' := k) hv hlen, rfl, q _ I.fresh⟩
    have hn : (partsBetween ⟨⟨l⟩⟩ (occurrences ⟨⟨l⟩⟩ ⟨#[c]⟩ 0 (⟨⟨l⟩⟩ : Str).length ((⟨⟨l⟩⟩ : Str).length + 1)) (⟨#[c]⟩ : Str).length).length ≤ sizeLine := by
      have e1 := StrLaws.occ_length_le ⟨⟨l⟩⟩ ⟨#[c]⟩ 0 (⟨⟨l⟩⟩ : Str).length ((⟨⟨l⟩⟩ : Str).length + 1)
      rw [length_partsBetween]; omega
    have hy : ((⟨#[c]⟩ : Str).length == 0) = false := rfl
    cases h1 : (decide ((⟨⟨l⟩⟩ : Str).length < (⟨#[c]⟩ : Str).length) || decide (strKind ⟨⟨l⟩⟩ < strKind ⟨#[c]⟩))
    · cases hf : (occurrences ⟨⟨l⟩⟩ ⟨#[c]⟩ 0 (⟨⟨l⟩⟩ : Str).length ((⟨⟨l⟩⟩ : Str).length + 1)).isEmpty
      · refine call_meets F.slot_str_split (typeIs_str _ _ _) F.entry_str_split (F.args_str_split_2 _ _) (meets_str_split_sep ⟨⟨l⟩⟩ ⟨#[c]⟩ t t' h1 hy hf (by omega) hn) ?_
        show wants _ _ _ { s with toks := _, heap := s.heap.push { cls := .type "list", data := .seq (strsFrom s.toks (partsBetween ⟨⟨l⟩⟩ (occurrences ⟨⟨l⟩⟩ ⟨#[c]⟩ 0 (⟨⟨l⟩⟩ : Str).length ((⟨⟨l⟩⟩ : Str).length + 1)) (⟨#[c]⟩ : Str).length)).toArray } }
        rw [strsFrom_eq]
        exact fin (numbered s.toks _) _ ((numbered_texts _ _).trans ((if_neg (ne_true_of_eq_false h1)).trans (if_neg (ne_true_of_eq_false hf))).symm)
      · refine call_meets F.slot_str_split (typeIs_str _ _ _) F.entry_str_split (F.args_str_split_2 _ _) (meets_str_split_not_found ⟨⟨l⟩⟩ ⟨#[c]⟩ t t' h1 hy hf) ?_
        exact fin [(⟨⟨l⟩⟩, t)] s.toks ((if_neg (ne_true_of_eq_false h1)).trans (if_pos hf)).symm
    · refine call_meets F.slot_str_split (typeIs_str _ _ _) F.entry_str_split (F.args_str_split_2 _ _) (meets_str_split_cannot_occur ⟨⟨l⟩⟩ ⟨#[c]⟩ t t' h1) ?_
      exact fin [(⟨⟨l⟩⟩, t)] s.toks (if_pos h1).symm
  · exact h.elim
def Ag : R2
  | .ref l, .ref b, H, Q => ∃ xs zs, H l = some (.lst xs) ∧ H b = some (.lst zs) ∧ xs.length + zs.length ≤ sizeLine ∧ ∀ p, H p = none → Q (.ref p) (upd H p (.lst (xs ++ zs)))
  | _, _, _, _ => False
theorem vC : OpR X (binaryOp .Add) Ag := yY.imp fun x y H Q h => by
  unfold Ag at h; split at h
  · obtain ⟨xs, zs, h1, h2, h3, q⟩ := h
    exact ⟨_, _, xs, zs, rfl, rfl, h1, h2, h3, q⟩
  · exact h.elim
theorem wy (K : PySem.W.Frag) (h : X.K = K := by rfl) : SlR X (A7 K) := h ▸ xr
def wR (K : PySem.W.Frag) : List V → Hp → VK → Prop
  | [.ref p], H, Q => ∃ ys, (SqL K H p ys ∨ SqT K H p ys) ∧ ∀ l, H l = none → Q (.ref l) (upd H l (.lst ys))
  | _, _, _ => False
theorem sM (K : PySem.W.Frag) (hK : X.K = K := by rfl) : CallR X (.type "list") (wR K) := by
  subst hK
  refine nC.imp fun xs H Q h => ?_
  unfold wR at h; split at h
  · obtain ⟨ys, h1, q⟩ := h
    exact ⟨_, ys, rfl, h1, q⟩
  · exact h.elim
def rC (K : PySem.W.Frag) : List V → Hp → VK → Prop
  | [.ref p], H, Q => ∃ ys, (SqL K H p ys ∧ ∀ l, H l = none → Q (.ref l) (upd H l (.tup ys))) ∨ (SqT K H p ys ∧ Q (.ref p) H)
  | _, _, _ => False
theorem uW (K : PySem.W.Frag) (hK : X.K = K := by rfl) : CallR X (.type "tuple") (rC K) := by
  subst hK
  refine lY.imp fun xs H Q h => ?_
  unfold rC at h; split at h
  · obtain ⟨ys, h1⟩ := h
    exact ⟨_, ys, rfl, h1⟩
  · exact h.elim
inductive EqH (K : PySem.W.Frag) (H : Hp) : Nat → V → V → Bool → Prop
  | flat {n x y} : dt x = true → dt y = true → EqH K H n x y (eqV x y)
  | same {n p} : EqH K H n (.ref p) (.ref p) true
  | lst {n p q xs ys} {e : Nat → Bool} : p ≠ q → SqL K H p xs → SqL K H q ys → xs.length = ys.length → (∀ j x y, xs[j]? = some x → ys[j]? = some y → EqH K H n x y (e j)) → EqH K H (n + 1) (.ref p) (.ref q) ((List.range xs.length).all e)
  | len {n p q xs ys} : p ≠ q → SqL K H p xs → SqL K H q ys → xs.length ≠ ys.length → EqH K H (n + 1) (.ref p) (.ref q) false
  | tup {n p q xs ys} {e : Nat → Bool} : p ≠ q → SqT K H p xs → SqT K H q ys → (∀ j x y, xs[j]? = some x → ys[j]? = some y → EqH K H n x y (e j)) → EqH K H (n + 1) (.ref p) (.ref q) ((List.range (min xs.length ys.length)).all e && xs.length == ys.length)
  | lt {n p q xs ys} : SqL K H p xs → SqT K H q ys → EqH K H (n + 1) (.ref p) (.ref q) false
  | tl {n p q xs ys} : SqT K H p xs → SqL K H q ys → EqH K H (n + 1) (.ref p) (.ref q) false
theorem eO {P : Value → Value → Bool → Prop} {xs ys : List V} {its its' : List Value} {e : Nat → Bool} (r : Vals xs its) (r' : Vals ys its') (h : ∀ j x y u v, xs[j]? = some x → ys[j]? = some y → RelV x u → RelV y v → P u v (e j)) :
    ∀ j (h1 : j < its.toArray.size) (h2 : j < its'.toArray.size), P its.toArray[j] its'.toArray[j] (e j) := fun j g1 g2 => by
  have h1 : xs.length = its.length := r.length
  have h2 : ys.length = its'.length := r'.length
  have g1' : j < its.length := by simpa using g1
  have g2' : j < its'.length := by simpa using g2
  have l1 : j < xs.length := by omega
  have l2 : j < ys.length := by omega
  obtain ⟨w1, e1, r1⟩ := r.get (List.getElem?_eq_getElem l1)
  obtain ⟨w2, e2, r2⟩ := r'.get (List.getElem?_eq_getElem l2)
  have z1 : its.toArray[j] = w1 := by
    have : its[j]? = some its[j] := List.getElem?_eq_getElem g1'
    rw [this] at e1; simpa using Option.some.inj e1
  have z2 : its'.toArray[j] = w2 := by
    have : its'[j]? = some its'[j] := List.getElem?_eq_getElem g2'
    rw [this] at e2; simpa using Option.some.inj e2
  rw [z1, z2]
  exact h j _ _ _ _ (List.getElem?_eq_getElem l1) (List.getElem?_eq_getElem l2) r1 r2
theorem EqH.at {K : PySem.W.Frag} {H : Hp} {n : Nat} {x y : V} {b : Bool} (h : EqH K H n x y b) : ∀ {X : Cx} {pins : List (Addr × Obj)} {σ : St} {s : Shared} {A : Around} {u v : Value}, X.K = K → Inv X pins σ H s → A.units + n < cLine → RelV x u → RelV y v → SeqAt.EqAt A s u v b := by
  induction h with
  | flat fx fy =>
    intro X pins σ s A u v hK I hu rx ry
    exact rV rx ry fx fy
  | same =>
    intro X pins σ s A u v hK I hu rx ry
    cases rx; cases ry
    exact SeqAt.EqAt.same _
  | @lst n p q xs ys e hpq hx hy hl _ ih =>
    intro X pins σ s A u v hK I hu rx ry
    cases rx; cases ry
    subst hK
    obtain ⟨its, r, pl, hz⟩ := I.list hx
    obtain ⟨its', r', pl', hz'⟩ := I.list hy
    have h1 : xs.length = its.length := r.length
    have h2 : ys.length = its'.length := r'.length
    have := SeqAt.RcAt.lists (A := A) (e := e) pl.isList pl'.isList (by simp; omega) (by omega) (eO r r' fun j x y u v g1 g2 r1 r2 => ih j x y g1 g2 rfl I (by show A.units + 1 + n < cLine; omega) r1 r2)
    rw [List.size_toArray, ← h1] at this
    exact .of_refs hpq this
  | @len n p q xs ys hpq hx hy hl =>
    intro X pins σ s A u v hK I hu rx ry
    cases rx; cases ry
    subst hK
    obtain ⟨its, r, pl, hz⟩ := I.list hx
    obtain ⟨its', r', pl', hz'⟩ := I.list hy
    have h1 : xs.length = its.length := r.length
    have h2 : ys.length = its'.length := r'.length
    exact .of_refs hpq (SeqAt.RcAt.lists_lengths pl.isList pl'.isList (by simp; omega) (by omega))
  | @tup n p q xs ys e hpq hx hy _ ih =>
    intro X pins σ s A u v hK I hu rx ry
    cases rx; cases ry
    subst hK
    obtain ⟨its, r, pl, hz⟩ := I.tuple hx
    obtain ⟨its', r', pl', hz'⟩ := I.tuple hy
    have h1 : xs.length = its.length := r.length
    have h2 : ys.length = its'.length := r'.length
    have := SeqAt.RcAt.tuples (A := A) (e := e) pl pl' (by omega) (eO r r' fun j x y u v g1 g2 r1 r2 => ih j x y g1 g2 rfl I (by show A.units + 1 + n < cLine; omega) r1 r2)
    rw [List.size_toArray, List.size_toArray, ← h1, ← h2] at this
    exact .of_refs hpq this
  | lt hx hy =>
    intro X pins σ s A u v hK I hu rx ry
    cases rx; cases ry
    subst hK
    obtain ⟨its, r, pl, hz⟩ := I.list hx
    obtain ⟨its', r', pl', hz'⟩ := I.tuple hy
    exact SeqAt.EqAt.list_tuple pl.isList pl' (by omega)
  | tl hx hy =>
    intro X pins σ s A u v hK I hu rx ry
    cases rx; cases ry
    subst hK
    obtain ⟨its, r, pl, hz⟩ := I.tuple hx
    obtain ⟨its', r', pl', hz'⟩ := I.list hy
    exact SeqAt.EqAt.tuple_list pl pl'.isList (by omega)
inductive EqR (K : PySem.W.Frag) (H : Hp) (p q : Addr) : Bool → Prop
  | lst {xs ys} {e : Nat → Bool} : SqL K H p xs → SqL K H q ys → xs.length = ys.length → (∀ j x y, xs[j]? = some x → ys[j]? = some y → EqH K H 50 x y (e j)) → EqR K H p q ((List.range xs.length).all e)
  | len {xs ys} : SqL K H p xs → SqL K H q ys → xs.length ≠ ys.length → EqR K H p q false
  | tup {xs ys} {e : Nat → Bool} : SqT K H p xs → SqT K H q ys → (∀ j x y, xs[j]? = some x → ys[j]? = some y → EqH K H 50 x y (e j)) → EqR K H p q ((List.range (min xs.length ys.length)).all e && xs.length == ys.length)
def wK (K : PySem.W.Frag) (neg : Bool) : R2
  | .ref p, .ref q, H, Q => ∃ b, EqR K H p q b ∧ Q (.bl (neg ^^ b)) H
  | _, _, _, _ => False
theorem zm (K : PySem.W.Frag) (hu : X.A.units + 100 < cLine) (hK : X.K = K := by rfl) : OpR X (compareOp .Eq) (wK K false) := by
  subst hK
  intro pins s σ H x y v u Q I rx ry h
  unfold wK at h
  split at h
  · rename_i p q
    obtain ⟨b, hb, q⟩ := h
    cases rx; cases ry
    cases hb with
    | @lst xs ys e hx hy hl he =>
      obtain ⟨its, r, pl, hz⟩ := I.list hx
      obtain ⟨its', r', pl', hz'⟩ := I.list hy
      have h1 : xs.length = its.length := r.length
      have h2 : ys.length = its'.length := r'.length
      refine SeqAt.eq_listAt (e := e) pl.isList pl'.isList (by simp; omega) (by omega) (eO r r' fun j x y u v g1 g2 r1 r2 => (he j x y g1 g2).at rfl I (by show X.A.units + 1 + 50 < cLine; omega) r1 r2) ⟨.bl _, H, I, rfl, ?_⟩
      rw [List.size_toArray, ← h1]; simpa using q
    | @len xs ys hx hy hl =>
      obtain ⟨its, r, pl, hz⟩ := I.list hx
      obtain ⟨its', r', pl', hz'⟩ := I.list hy
      have h1 : xs.length = its.length := r.length
      have h2 : ys.length = its'.length := r'.length
      exact SeqAt.eq_list_lengthsAt pl.isList pl'.isList (by simp; omega) (by omega) ⟨.bl false, H, I, rfl, by simpa using q⟩
    | @tup xs ys e hx hy he =>
      obtain ⟨its, r, pl, hz⟩ := I.tuple hx
      obtain ⟨its', r', pl', hz'⟩ := I.tuple hy
      have h1 : xs.length = its.length := r.length
      have h2 : ys.length = its'.length := r'.length
      refine SeqAt.eq_tupleAt (e := e) pl pl' (by omega) (eO r r' fun j x y u v g1 g2 r1 r2 => (he j x y g1 g2).at rfl I (by show X.A.units + 1 + 50 < cLine; omega) r1 r2) ⟨.bl _, H, I, rfl, ?_⟩
      rw [List.size_toArray, List.size_toArray, ← h1, ← h2]; simpa using q
  · exact h.elim
theorem Ao (K : PySem.W.Frag) (hu : X.A.units + 100 < cLine) (hK : X.K = K := by rfl) : OpR X (compareOp .NotEq) (wK K true) := by
  subst hK
  intro pins s σ H x y v u Q I rx ry h
  unfold wK at h
  split at h
  · rename_i p q
    obtain ⟨b, hb, q⟩ := h
    cases rx; cases ry
    cases hb with
    | @lst xs ys e hx hy hl he =>
      obtain ⟨its, r, pl, hz⟩ := I.list hx
      obtain ⟨its', r', pl', hz'⟩ := I.list hy
      have h1 : xs.length = its.length := r.length
      have h2 : ys.length = its'.length := r'.length
      refine SeqAt.RcNeAt.lists (e := e) pl.isList pl'.isList (by simp; omega) (by omega) (eO r r' fun j x y u v g1 g2 r1 r2 => (he j x y g1 g2).at rfl I (by show X.A.units + 1 + 50 < cLine; omega) r1 r2) X.prog X.w X.xe _ ⟨.bl _, H, I, rfl, ?_⟩
      rw [List.size_toArray, ← h1]; simpa using q
    | @len xs ys hx hy hl =>
      obtain ⟨its, r, pl, hz⟩ := I.list hx
      obtain ⟨its', r', pl', hz'⟩ := I.list hy
      have h1 : xs.length = its.length := r.length
      have h2 : ys.length = its'.length := r'.length
      exact SeqAt.RcNeAt.lists_lengths pl.isList pl'.isList (by simp; omega) (by omega) X.prog X.w X.xe _ ⟨.bl true, H, I, rfl, by simpa using q⟩
    | @tup xs ys e hx hy he =>
      obtain ⟨its, r, pl, hz⟩ := I.tuple hx
      obtain ⟨its', r', pl', hz'⟩ := I.tuple hy
      have h1 : xs.length = its.length := r.length
      have h2 : ys.length = its'.length := r'.length
      refine SeqAt.RcNeAt.tuples (e := e) pl pl' (by omega) (eO r r' fun j x y u v g1 g2 r1 r2 => (he j x y g1 g2).at rfl I (by show X.A.units + 1 + 50 < cLine; omega) r1 r2) X.prog X.w X.xe _ ⟨.bl _, H, I, rfl, ?_⟩
      rw [List.size_toArray, List.size_toArray, ← h1, ← h2]; simpa using q
  · exact h.elim
end
end L2
set_option Elab.async false
set_option linter.all false
set_option maxRecDepth 100000
namespace PySem
open Sem (wp)
open Builtin
end PySem
namespace L2
open PySem PySem.Spec PyProof.Rows Builtin Builtin.Str
section
variable {X : Cx} {e a b c : Expr} {pos : Pos}
def i6 (K : PySem.W.Frag) (neg : Bool) : R2 := fun x y H Q => match eqS x y with
  | some k => Q (.bl (neg ^^ k)) H
  | none => wK K neg x y H Q
theorem dW (K : PySem.W.Frag) (hu : X.A.units + 100 < cLine) (hK : X.K = K := by rfl) : OpR X (compareOp .Eq) (i6 K false) := ((zg (by omega)).or (zm K hu hK)).imp fun x y H Q h => by
  unfold i6 at h
  split at h
  · rename_i k hk
    obtain ⟨h1, h2⟩ := qE hk
    exact .inl (.inl ⟨h1, by rw [h2]; simpa using h⟩)
  · exact .inr h
theorem oa (K : PySem.W.Frag) (hu : X.A.units + 100 < cLine) (hK : X.K = K := by rfl) : OpR X (compareOp .NotEq) (i6 K true) := ((zp (by omega)).or (Ao K hu hK)).imp fun x y H Q h => by
  unfold i6 at h
  split at h
  · rename_i k hk
    obtain ⟨h1, h2⟩ := qE hk
    exact .inl (.inl ⟨h1, by rw [h2]; simpa using h⟩)
  · exact .inr h
variable {K : PySem.W.Frag} {neg : Bool} {H : Hp} {Q : VK}
theorem tG {i j : Int} : i6 K neg (.int i) (.int j) H Q = Q (.bl (neg ^^ decide (i = j))) H := rfl
theorem wj {i j : Bool} : i6 K neg (.bl i) (.bl j) H Q = Q (.bl (neg ^^ decide (i = j))) H := rfl
theorem sB {i j : Str} : i6 K neg (.str i) (.str j) H Q = Q (.bl (neg ^^ decide (i.cps.toList = j.cps.toList))) H := rfl
theorem sY {p q : Addr} : i6 K neg (.ref p) (.ref q) H Q = ∃ b, EqR K H p q b ∧ Q (.bl (neg ^^ b)) H := rfl
theorem vP : i6 K neg .non .non H Q = Q (.bl (neg ^^ true)) H := rfl
theorem v4 {i : Int} : i6 K neg .non (.int i) H Q = Q (.bl (neg ^^ false)) H := rfl
theorem v6 {i : Int} : i6 K neg (.int i) .non H Q = Q (.bl (neg ^^ false)) H := rfl
theorem vA {i : Int} {s : Str} : i6 K neg (.int i) (.str s) H Q = Q (.bl (neg ^^ false)) H := rfl
theorem vV {i : Int} {s : Str} : i6 K neg (.str s) (.int i) H Q = Q (.bl (neg ^^ false)) H := rfl
end
theorem vM {K : PySem.W.Frag} {tl : TE} {g : TG} {tb : TS} {D : gO} {σ : St} {H : Hp} (h : tl σ H fun v H1 => lI (wB K (tC v)) g tb D σ H1) : lI (wB K tl) g tb D σ H := h
theorem fV {K : PySem.W.Frag} {tl : TE} {g : TG} {tb : TS} {D : gO} {σ : St} {H : Hp} (h : tl σ H fun v H1 => lI (ku K (tC v)) g tb D σ H1) : lI (ku K tl) g tb D σ H := h
theorem vR {K : PySem.W.Frag} {a : Addr} {xs : List V} {g : TG} {tb : TS} {D : gO} {σ : St} {H : Hp} (hq : SqT K H a xs) (h : ∃ W : Nat → Nat → St → Hp → Prop, (∃ m, W 0 m σ H) ∧ ∀ i m σ H, W i m σ H →
      ((Itt K a).stop i H ∧ D.nx σ H) ∨ ((Itt K a).go i H ∧ ∃ N : St → Hp → Prop, (∀ σ' H', N σ' H' → ∃ m', m' < m ∧ W (i + 1) m' σ' H') ∧ ∀ x H', (Itt K a).yld i H x H' → g x σ H' fun σ2 H2 => tb { D with nx := N, ct := N, bk := D.nx } σ2 H2)) : lI (wB K (tC (.ref a))) g tb D σ H := ⟨a, rfl, ⟨xs, hq⟩, h⟩
theorem gl {K : PySem.W.Frag} {a : Addr} {xs : List V} {g : TG} {tb : TS} {D : gO} {σ : St} {H : Hp} (hq : SqL K H a xs) (h : ∃ W : Nat → Nat → St → Hp → Prop, (∃ m, W 0 m σ H) ∧ ∀ i m σ H, W i m σ H →
      ((Itl K a).stop i H ∧ D.nx σ H) ∨ ((Itl K a).go i H ∧ ∃ N : St → Hp → Prop, (∀ σ' H', N σ' H' → ∃ m', m' < m ∧ W (i + 1) m' σ' H') ∧ ∀ x H', (Itl K a).yld i H x H' → g x σ H' fun σ2 H2 => tb { D with nx := N, ct := N, bk := D.nx } σ2 H2)) : lI (ku K (tC (.ref a))) g tb D σ H := ⟨a, rfl, ⟨xs, hq⟩, h⟩
theorem uo {H H' : Hp} {x : V} {t : String} (s : Same H H') (h : cz H x = some t) : cz H' x = some t := by
  cases x with
  | ref p =>
    unfold cz at h ⊢
    dsimp only at h ⊢
    cases e : H p with
    | none => rw [e] at h; cases h
    | some o => rw [e] at h; rw [s _ _ e]; exact h
  | _ => exact h
theorem uk {ls : List (List Nat)} {H H1 : Hp} {Q : VK} {i : Int} (h0 : 0 ≤ i) (h1 : i < ls.length) (q : ∀ l ∈ ls, Q (T l) H) : j3 (ls.map T) H H1 Q (.int i) := by
  obtain ⟨j, rfl⟩ : ∃ j : Nat, i = j := ⟨i.toNat, by omega⟩
  have hj : j < ls.length := by omega
  have e : atI (ls.map T) (j : Int) = some (T ls[j]) := bL (by simp [hj])
  simp only [j3, e]
  exact q _ (List.getElem_mem hj)
theorem ut (lo : Int) (n : Nat) : w6 (Itr lo n) ((List.range n).map fun k => V.int (lo + (k : Nat))) := by
  refine ⟨fun i H h => by simpa [Itr] using h, fun i H x H' hi y => ?_, fun H => by simp [Itr]⟩
  obtain ⟨e, rfl⟩ := y
  refine ⟨e, ?_⟩
  have hi' : i < n := by simpa using hi
  simp [hi']
end L2
namespace L2
theorem bQ {k : Nat} {A : PySem.Around} (r : Room k A) : A.units + 100 < PySem.cLine := by have := r.un; omega
end L2
set_option Elab.async false
set_option linter.all false
set_option maxRecDepth 100000
namespace L2
open PySem PySem.Spec PyProof.Rows
section
variable {κ : Type} [DecidableEq κ]
def h_ (kvs : List (κ × V)) (k : κ) : Option V := (kvs.find? fun kv => decide (kv.1 = k)).map (·.2)
def gp (kvs : List (κ × V)) (k : κ) (v : V) : List (κ × V) :=
  if (kvs.any fun kv => decide (kv.1 = k)) = true then kvs.map (fun kv => if kv.1 = k then (kv.1, v) else kv) else kvs ++ [(k, v)]
def BZ (kvs : List (κ × V)) (k : κ) : List (κ × V) := kvs.filter fun kv => decide (kv.1 ≠ k)
theorem gh {p : κ × V} {r : List (κ × V)} {k : κ} (e : p.1 = k) : h_ (p :: r) k = some p.2 := by simp [h_, List.find?_cons, e]
theorem gb {p : κ × V} {r : List (κ × V)} {k : κ} (e : ¬ p.1 = k) : h_ (p :: r) k = h_ r k := by simp [h_, List.find?_cons, e]
theorem j4 (k : κ) : ∀ kvs : List (κ × V), (kvs.any fun kv => decide (kv.1 = k)) = (h_ kvs k).isSome
  | [] => rfl
  | p :: r => by
    rw [List.any_cons]
    by_cases e : p.1 = k
    · simp only [gh e, decide_eq_true e, Bool.true_or, Option.isSome_some]
    · rw [gb e, decide_eq_false e, Bool.false_or]; exact j4 k r
theorem jy (kvs : List (κ × V)) (k : κ) (v : V) : (gp kvs k v).length ≤ kvs.length + 1 := by
  unfold gp
  split
  · rw [List.length_map]; omega
  · rw [List.length_append, List.length_cons, List.length_nil]; omega
theorem wf {kvs : List (κ × V)} {k : κ} (v : V) (h : h_ kvs k = none) : gp kvs k v = kvs ++ [(k, v)] := by
  unfold gp
  rw [j4, h]
  exact if_neg (by decide)
theorem RelO.isSome_eq {o : Option V} {u : Option Value} (r : RelO o u) : o.isSome = u.isSome := by
  cases o with
  | none => cases u with
    | none => rfl
    | some _ => exact (show False from r).elim
  | some _ => cases u with
    | none => exact (show False from r).elim
    | some _ => rfl
theorem RelO.getD {o : Option V} {u : Option Value} {d : V} {d' : Value} (r : RelO o u) (rd : RelV d d') : RelV (o.getD d) (u.getD d') := by
  cases o with
  | none => cases u with
    | none => exact rd
    | some _ => exact (show False from r).elim
  | some _ => cases u with
    | none => exact (show False from r).elim
    | some _ => exact r
theorem KV.val {kvs : List (κ × V)} {vs : List (κ × Value)} (r : KV kvs vs) (k : κ) : RelO (h_ kvs k) (valueAt vs k) := by
  unfold KV at r
  induction r with
  | nil => exact True.intro
  | @cons p q ps qs h t ih =>
    obtain ⟨h1, h2⟩ := h
    by_cases e : p.1 = k
    · have e' : q.1 = k := h1.symm.trans e
      have b : valueAt (q :: qs) k = some q.2 := by simp [valueAt, List.find?_cons, e']
      rw [gh e, b]; exact h2
    · have e' : ¬ q.1 = k := fun z => e (h1.trans z)
      have b : valueAt (q :: qs) k = valueAt qs k := by simp [valueAt, List.find?_cons, e']
      rw [gb e, b]; exact ih
theorem KV.any {kvs : List (κ × V)} {vs : List (κ × Value)} (r : KV kvs vs) (k : κ) : (kvs.any fun kv => decide (kv.1 = k)) = vs.any fun kv => decide (kv.1 = k) := by
  unfold KV at r
  induction r with
  | nil => rfl
  | cons h t ih => rw [List.any_cons, List.any_cons, ih, h.1]
theorem KV.repl {kvs : List (κ × V)} {vs : List (κ × Value)} (r : KV kvs vs) (k : κ) {y : V} {u : Value} (ry : RelV y u) :
    KV (kvs.map fun kv => if kv.1 = k then (kv.1, y) else kv) (vs.map fun kv => if kv.1 = k then (kv.1, u) else kv) := by
  unfold KV at r ⊢
  induction r with
  | nil => exact .nil
  | @cons p q ps qs h t ih =>
    rw [List.map_cons, List.map_cons]
    refine .cons ?_ ih
    obtain ⟨h1, h2⟩ := h
    by_cases e : p.1 = k
    · rw [if_pos e, if_pos (h1.symm.trans e)]; exact ⟨h1, ry⟩
    · rw [if_neg e, if_neg (fun z => e (h1.trans z))]; exact ⟨h1, h2⟩
theorem KV.put {kvs : List (κ × V)} {vs : List (κ × Value)} (r : KV kvs vs) (k : κ) {y : V} {u : Value} (ry : RelV y u) : KV (gp kvs k y) (stored vs k u) := by
  unfold gp stored
  rw [r.any k]
  by_cases e : (vs.any fun kv => decide (kv.1 = k)) = true
  · rw [if_pos e, if_pos e]; exact r.repl k ry
  · rw [if_neg e, if_neg e]; exact Paired.snoc r ⟨rfl, ry⟩
theorem KV.length {kvs : List (κ × V)} {vs : List (κ × Value)} (r : KV kvs vs) : kvs.length = vs.length := Paired.length r
end
theorem pO {P : Program} {w : World} {k : Key} {u : Value} (r : RelV (kV k) u) : (bW P w).is k u = true := by
  cases k with
  | inl i => obtain ⟨t, e⟩ := (show ∃ t, u = Value.int i t from r); subst e; exact pj P w i t
  | inr x => obtain ⟨t, e⟩ := (show ∃ t, u = Value.str x t from r); subst e; exact pQ P w x t
theorem zk {a b : Key} (e : kV a = kV b) : a = b := by
  cases a with
  | inl i => cases b with
    | inl j => have e' : V.int i = V.int j := e; injection e' with e'; rw [e']
    | inr y => exact nomatch (show V.int i = V.str y from e)
  | inr x => cases b with
    | inl j => exact nomatch (show V.str x = V.int j from e)
    | inr y => have e' : V.str x = V.str y := e; injection e' with e'; rw [e']
theorem tD : ∀ {a b : List Key}, a.map kV = b.map kV → a = b
  | [], [], _ => rfl
  | [], _ :: _, e => by simp at e
  | _ :: _, [], e => by simp at e
  | x :: xs, y :: ys, e => by
    rw [List.map_cons, List.map_cons] at e
    injection e with e1 e2
    rw [zk e1, tD e2]
theorem mJ {P : Program} {w : World} : ∀ {ks : List Key} {us : List Value}, Vals (ks.map kV) us → ItemsAre (bW P w) ks us
  | [], _, r => by rw [List.map_nil] at r; cases r; exact .nil
  | k :: ks, _, r => by
    rw [List.map_cons] at r
    cases r with
    | cons h t => exact .cons (pO h) (mJ t)
abbrev KT (H : Hp) : List (List Key × V) → List (List Key × Addr × Value) → Prop := Paired fun p q => p.1 = q.1 ∧ H q.2.1 = some (.tup (p.1.map kV)) ∧ RelV p.2 q.2.2
theorem KT.val {H : Hp} {kvs : List (List Key × V)} {xs : List (List Key × Addr × Value)} (r : KT H kvs xs) (k : List Key) : RelO (h_ kvs k) ((atKey xs k).map (·.2)) := by
  induction r with
  | nil => exact True.intro
  | @cons p q ps qs h t ih =>
    obtain ⟨h1, _, h2⟩ := h
    by_cases e : p.1 = k
    · have e' : q.1 = k := h1.symm.trans e
      have b : atKey (q :: qs) k = some q.2 := by simp [atKey, List.find?_cons, e']
      rw [gh e, b]; exact h2
    · have e' : ¬ q.1 = k := fun z => e (h1.trans z)
      have b : atKey (q :: qs) k = atKey qs k := by simp [atKey, List.find?_cons, e']
      rw [gb e, b]; exact ih
theorem KT.repl {H : Hp} {kvs : List (List Key × V)} {xs : List (List Key × Addr × Value)} (r : KT H kvs xs) (k : List Key) {y : V} {u : Value} (ry : RelV y u) :
    KT H (kvs.map fun kv => if kv.1 = k then (kv.1, y) else kv) (xs.map (putAt k u)) := by
  induction r with
  | nil => exact .nil
  | @cons p q ps qs h t ih =>
    rw [List.map_cons, List.map_cons]
    refine .cons ?_ ih
    obtain ⟨h1, h2, h3⟩ := h
    unfold putAt
    by_cases e : p.1 = k
    · rw [if_pos e, if_pos (h1.symm.trans e)]; exact ⟨h1, h2, ry⟩
    · rw [if_neg e, if_neg (fun z => e (h1.trans z))]; exact ⟨h1, h2, h3⟩
theorem KT.put {H : Hp} {kvs : List (List Key × V)} {xs : List (List Key × Addr × Value)} (r : KT H kvs xs) (k : List Key) {b : Addr} {y : V} {u : Value} (hb : H b = some (.tup (k.map kV))) (ry : RelV y u) :
    KT H (gp kvs k y) (storedH xs k b u) := by
  have e : (kvs.any fun kv => decide (kv.1 = k)) = (atKey xs k).isSome := by
    rw [j4, (r.val k).isSome_eq, Option.isSome_map]
  unfold gp storedH
  rw [e]
  by_cases q : (atKey xs k).isSome = true
  · rw [if_pos q, if_pos q]; exact r.repl k ry
  · rw [if_neg q, if_neg q]; exact Paired.snoc r ⟨rfl, hb, ry⟩
theorem KT.keeps {H H' : Hp} {kvs : List (List Key × V)} {xs : List (List Key × Addr × Value)} (r : KT H kvs xs) (ht : ∀ b ys, H b = some (.tup ys) → H' b = some (.tup ys)) : KT H' kvs xs :=
  Paired.mapP r fun _ _ z => ⟨z.1, ht _ _ z.2.1, z.2.2⟩
section
variable {P : Program} {w : World} {H : Hp} {h : Heap} {a : Addr}
theorem yA {u : HO} (ok : HOk P w H h) (e : Rd H a u) : ObjOk P w H h a u := e.ok ok
theorem mV {kvs : List (Key × V)} (ok : HOk P w H h) (e : Rd H a (.dK kvs)) : kvs.length ≤ sizeLine ∧ (a == sysModules) = false ∧ ∃ vs, KV kvs vs ∧ h.DictOf (bW P w) a vs :=
  show ObjOk P w H h a (.dK kvs) from yA ok e
theorem AN {kvs : List (Key × V)} (ok : HOk P w H h) (e : H a = some (.dK kvs)) : kvs.length ≤ sizeLine ∧ (a == sysModules) = false ∧ ∃ vs, KV kvs vs ∧ h.DictOf (bW P w) a vs := mV ok (.inl e)
theorem ly {ks : List Key} (ok : HOk P w H h) (e : H a = some (.tup (ks.map kV))) : (tupleKind (bW P w)).is h ks a := by
  obtain ⟨_, its, r, o, h1, h2, n, h3⟩ := (show ObjOk P w H h a (.tup (ks.map kV)) from ok a _ e)
  exact ⟨o, its.toArray, n, h1, h2, h3, by simpa using mJ r⟩
theorem mE {kvs : List (List Key × V)} (ok : HOk P w H h) (e : Rd H a (.dT kvs)) : kvs.length ≤ sizeLine ∧ (a == sysModules) = false ∧
    ∃ xs, KT H kvs xs ∧ h.DictOfH (tupleKind (bW P w)) a xs := by
  obtain ⟨z, y, xs, r, o, es, ep, h1, h2, h3, h4, h5⟩ := (show ObjOk P w H h a (.dT kvs) from yA ok e)
  refine ⟨z, y, xs, r, o, es, ep, h1, h2, h3, h4, fun x hx => ?_, h5⟩
  have all : ∀ {l : List (List Key × V)} {m : List (List Key × Addr × Value)}, KT H l m → ∀ x ∈ m, (tupleKind (bW P w)).is h x.1 x.2.1 := by
    intro l m q
    induction q with
    | nil => intro x hx; exact nomatch hx
    | @cons p q ps qs hq t ih =>
      intro x hx
      rcases List.mem_cons.mp hx with e | hx
      · subst e
        exact ly ok (by rw [← hq.1]; exact hq.2.1)
      · exact ih x hx
  exact all r x hx
theorem yB {kvs : List (List Key × V)} (ok : HOk P w H h) (e : H a = some (.dT kvs)) : kvs.length ≤ sizeLine ∧ (a == sysModules) = false ∧
    ∃ xs, KT H kvs xs ∧ h.DictOfH (tupleKind (bW P w)) a xs := mE ok (.inl e)
end
def DGet (H : Hp) (a : Addr) (y : V) (r : Option V) : Prop :=
  (∃ kvs k, Rd H a (.dK kvs) ∧ y = kV k ∧ r = h_ kvs k) ∨ ∃ kvs k b, Rd H a (.dT kvs) ∧ y = .ref b ∧ H b = some (.tup (k.map kV)) ∧ r = h_ kvs k
def DPut (H : Hp) (a : Addr) (y v : V) (H' : Hp) : Prop :=
  (∃ kvs k, H a = some (.dK kvs) ∧ y = kV k ∧ kvs.length < sizeLine ∧ H' = upd H a (.dK (gp kvs k v))) ∨
  ∃ kvs k b, H a = some (.dT kvs) ∧ y = .ref b ∧ H b = some (.tup (k.map kV)) ∧ kvs.length < sizeLine ∧ H' = upd H a (.dT (gp kvs k v))
theorem DGet.k {H : Hp} {a : Addr} {kvs : List (Key × V)} {k : Key} (e : H a = some (.dK kvs)) : DGet H a (kV k) (h_ kvs k) := .inl ⟨kvs, k, .inl e, rfl, rfl⟩
theorem DGet.t {H : Hp} {a b : Addr} {kvs : List (List Key × V)} {k : List Key} (e : H a = some (.dT kvs)) (eb : H b = some (.tup (k.map kV))) : DGet H a (.ref b) (h_ kvs k) := .inr ⟨kvs, k, b, .inl e, rfl, eb, rfl⟩
theorem DPut.k {H : Hp} {a : Addr} {kvs : List (Key × V)} {k : Key} {v : V} (e : H a = some (.dK kvs)) (hl : kvs.length < sizeLine) : DPut H a (kV k) v (upd H a (.dK (gp kvs k v))) := .inl ⟨kvs, k, e, rfl, hl, rfl⟩
theorem DPut.t {H : Hp} {a b : Addr} {kvs : List (List Key × V)} {k : List Key} {v : V} (e : H a = some (.dT kvs)) (eb : H b = some (.tup (k.map kV))) (hl : kvs.length < sizeLine) :
    DPut H a (.ref b) v (upd H a (.dT (gp kvs k v))) := .inr ⟨kvs, k, b, e, rfl, eb, hl, rfl⟩
section
variable {X : Cx} {pins : List (Addr × Obj)} {σ : St} {H : Hp} {s : Shared} {a : Addr} {y v : V} {u r : Value} {o : Option V} {A : Around} {E : Value → Shared → Prop}
theorem Inv.big (I : Inv X pins σ H s) : sysModules < s.heap.objs.size := by
  have h : mainGlobals < s.heap.objs.size := (I.mod.glob.keeps I.bk).lt
  exact Nat.lt_trans (by decide) h
theorem uq {Q : Value → Shared → Prop} (hu : A.units + 1 < cLine) (I : Inv X pins σ H s) (g : DGet H a y (some v)) (ry : RelV y u) (h : ∀ w' s', Inv X pins σ H s' → RelV v w' → Q w' s') :
    wpAny (model X.prog X.w) A (getItem (.ref a) u) Q E s := by
  rcases g with ⟨kvs, k, e, ey, l⟩ | ⟨kvs, k, b, e, ey, eb, l⟩
  · subst ey
    obtain ⟨z, hd, vs, rel, dd⟩ := mV I.hok e
    obtain ⟨w', hw, rw'⟩ := RelO.some_of (v := v) (o := valueAt vs k) (by rw [l]; exact rel.val k)
    exact wpAny_getItem_of (pO ry) dd.mapOf hw (h w' _ (I.tok _) rw')
  · subst ey
    cases (show u = Value.ref b from ry)
    obtain ⟨z, hd, xs, rel, dd⟩ := mE I.hok e
    obtain ⟨w', hw, rw'⟩ := RelO.some_of (v := v) (o := (atKey xs k).map (·.2)) (by rw [l]; exact rel.val k)
    obtain ⟨p, hp, hp2⟩ := Option.map_eq_some_iff.mp hw
    refine wpAny_getItem_heap (tupleKind_room_in1 hu) (ly I.hok eb) dd hp ?_
    rw [hp2]
    exact h w' _ (I.tok _) rw'
theorem BC {Q : Value → Shared → Prop} (hu : A.units + 1 < cLine) (I : Inv X pins σ H s) (g : DGet H a y o) (ry : RelV y u) (h : ∀ s', Inv X pins σ H s' → Q (.bool o.isSome) s') :
    wpAny (model X.prog X.w) A (compareOp .In u (.ref a)) Q E s := by
  rcases g with ⟨kvs, k, e, ey, l⟩ | ⟨kvs, k, b, e, ey, eb, l⟩
  · subst ey
    obtain ⟨z, hd, vs, rel, dd⟩ := mV I.hok e
    refine wpAny_in_of (pO ry) hd dd.mapOf ?_
    rw [← (rel.val k).isSome_eq, ← l]
    exact h _ (I.tok _)
  · subst ey
    cases (show u = Value.ref b from ry)
    obtain ⟨z, hd, xs, rel, dd⟩ := mE I.hok e
    refine wpAny_in_heap (tupleKind_room_in1 hu) (ly I.hok eb) hd dd ?_
    have q := (rel.val k).isSome_eq
    rw [Option.isSome_map] at q
    rw [← q, ← l]
    exact h _ (I.tok _)
theorem sy {h' : Heap} {t' : Nat} {ob : HO} (I : Inv X pins σ H s) (mu : Mut (H a)) (hs : Heap.SameBut a s.heap h') (he : ∃ q, h'.get? a = some q) (new : ObjOk X.prog X.w (upd H a ob) h' a ob) :
    Inv X pins σ (upd H a ob) { s with heap := h', toks := t' } :=
  I.write (x := a) (e := a) mu (.inl rfl) (fun b q hb z => (hs.2 b hb).trans z) he new
theorem yU {P : Program} {w : World} {H' : Hp} {h' : Heap} {kvs : List (Key × V)} {vs : List (Key × Value)} (z : kvs.length ≤ sizeLine) (hd : (a == sysModules) = false) (rel : KV kvs vs) (dd : h'.DictOf (bW P w) a vs) :
    ObjOk P w H' h' a (.dK kvs) := ⟨z, hd, vs, rel, dd⟩
theorem uy {H' : Hp} {Q : Unit → Shared → Prop} (hu : A.units + 1 < cLine) (I : Inv X pins σ H s) (g : DPut H a y v H') (ry : RelV y u) (rv : RelV v r) (h : ∀ s', Inv X pins σ H' s' → Q () s') :
    wpAny (model X.prog X.w) A (setItem (.ref a) u r) Q E s := by
  rcases g with ⟨kvs, k, e, ey, l, eH⟩ | ⟨kvs, k, b, e, ey, eb, l, eH⟩
  · subst ey eH
    obtain ⟨z, hd, vs, rel, dd⟩ := AN I.hok e
    have hz : vs.length ≤ sizeLine := by rw [← rel.length]; exact z
    have hl : (gp kvs k v).length ≤ sizeLine := by have := jy kvs k v; omega
    refine wpAny_setItem_pairs (hsz := hz) (pO ry) dd fun h' dd' hs => h _ ?_
    have he : ∃ q, h'.get? a = some q := let ⟨q, _, _, hq, _⟩ := dd'; ⟨q, hq⟩
    exact sy I (by rw [e]; exact True.intro) hs he (yU hl hd (rel.put k rv) dd')
  · subst ey eH
    cases (show u = Value.ref b from ry)
    obtain ⟨z, hd, xs, rel, dd⟩ := yB I.hok e
    have hz : xs.length ≤ sizeLine := by rw [← Paired.length rel]; exact z
    have hl : (gp kvs k v).length ≤ sizeLine := by have := jy kvs k v; omega
    refine wpAny_setItem_heap (hsz := hz) (tupleKind_room_in1 hu) (ly I.hok eb) dd fun h' dd' hs => h _ ?_
    obtain ⟨q, es, ep, hq, h2, h3, h4, _, h5⟩ := dd'
    refine sy I (by rw [e]; exact True.intro) hs ⟨q, hq⟩ ⟨hl, hd, _, (rel.put k eb rv).keeps fun c ys ec => ?_, q, es, ep, hq, h2, h3, h4, h5⟩
    rw [ap (AU ec e (fun z => nomatch z))]
    exact ec
end
section
variable {X : Cx} {pins : List (Addr × Obj)} {σ : St} {H : Hp} {s : Shared} {a : Addr} {kvs : List (Key × V)} {k : Key} {u : Value} {A : Around} {E : Value → Shared → Prop}
end
def AW (i : Expr) : Prop := ∀ ov iv, subscripted i false ov iv = operate [ov, iv] (getItem ov iv)
theorem yq {prog : Program} {w : World} {A : Around} {E : Value → Shared → Prop} {s : Shared} {env : Env} {value slice : Expr} {pos : Pos} {T id : String} {Q : Value → Shared → Prop}
    (hl : typeLookup (.type T) "__getitem__" = pure (some (.builtin id))) (hs : AW slice)
    (h : wpAny (model prog w) A (eval value env) (fun o s₁ => wpAny (model prog w) A (eval slice env) (fun i s₂ => s₂.TypeIs o T ∧ wpAny (model prog w) A (getItem o i) Q E s₂) E s₁) E s) :
    wpAny (model prog w) A (eval (.Subscript value slice pos) env) Q E s := by
  refine Subscript_ (wpAny_mono h (fun o s₁ h₁ => wpAny_mono h₁ (fun i s₂ h₂ => ?_) fun _ _ x => x) fun _ _ x => x)
  obtain ⟨hT, h₂⟩ := h₂
  unfold subscriptTail
  refine wpAny_bind ?_
  rw [getitemInPython_of_ne hT.not_modules]
  refine wpAny_bind (wpAny_specialOf hT hl ?_)
  have fin : wpAny (model prog w) A (subscripted slice false o i) (fun r s₃ => wpAny (model prog w) A (letTemporaryGo value o r >>= fun _ => pure r) Q E s₃) E s₂ := by
    rw [hs o i]
    exact wpAny_operating (wpAny_mono h₂ (fun r s₃ h₃ => wpAny_bind (wpAny_letTemporaryGo (wpAny_pure h₃))) fun _ _ x => x)
  first
    | exact wpAny_pure (wpAny_bind fin)
    | exact wpAny_bind (wpAny_pure (wpAny_bind fin))
    | exact wpAny_bind fin
theorem pF {X : Cx} {pins : List (Addr × Obj)} {σ : St} {H : Hp} {s : Shared} {a : Addr} {y : V} {o : Option V} (I : Inv X pins σ H s) (g : DGet H a y o) : s.TypeIs (.ref a) "dict" := by
  rcases g with ⟨kvs, k, e, _, _⟩ | ⟨kvs, k, b, e, _, _, _⟩
  · obtain ⟨_, _, vs, _, dd⟩ := mV I.hok e
    exact dd.typeIs
  · obtain ⟨_, _, xs, _, dd⟩ := mE I.hok e
    exact dd.typeIs
def yE (td ty : TE) : TE := fun σ H Q => td σ H fun x H1 => ty σ H1 fun y H2 => ∃ a v, x = .ref a ∧ DGet H2 a y (some v) ∧ Q v H2
def A4 (ty td : TE) : TE := fun σ H Q => ty σ H fun y H1 => td σ H1 fun x H2 => ∃ a o, x = .ref a ∧ DGet H2 a y o ∧ Q (.bl o.isSome) H2
def yL (td ty tv : TE) : TS := fun D σ H => tv σ H fun v H1 => td σ H1 fun x H2 => ty σ H2 fun y H3 => ∃ a H4, x = .ref a ∧ DPut H3 a y v H4 ∧ D.nx σ H4
section
variable {X : Cx} {o i e value : Expr} {pos pos' tpos : Pos} {td ty tv : TE}
theorem iH (hu : X.A.units + 1 < cLine) (ho : PE X o td) (hi : PE X i ty) (hs : AW i) : PE X (.Subscript o i pos) (yE td ty) := by
  intro pins s σ H Q I h
  refine yq PySem.F.slot_dict_getitem.lookup hs (thn (ho pins s σ H _ I h) fun u s1 ⟨x, H1, I1, rx, q1⟩ => thn (hi pins s1 σ H1 _ I1 q1) fun iv s2 ⟨y, H2, I2, ry, a, v, ex, g, q2⟩ => ?_)
  subst ex
  obtain rfl : u = Value.ref a := rx
  exact ⟨pF I2 g, uq hu I2 g ry fun w' s3 I3 rw' => ⟨v, H2, I3, rw', q2⟩⟩
theorem qX (hu : X.A.units + 1 < cLine) (hi : PE X i ty) (ho : PE X o td) : PC X .In i o (A4 ty td) := by
  intro pins s σ H Q I h
  refine thn (hi pins s σ H _ I h) fun iv s1 ⟨y, H1, I1, ry, q1⟩ => thn (ho pins s1 σ H1 _ I1 q1) fun u s2 ⟨x, H2, I2, rx, a, ov, ex, g, q2⟩ => ?_
  subst ex
  obtain rfl : u = Value.ref a := rx
  exact BC hu I2 g ry fun s3 I3 => ⟨.bl ov.isSome, H2, I3, rfl, q2⟩
theorem iu (hu : X.A.units + 1 < cLine) (ho : PE X o td) (hi : PE X i ty) (hv : PE X value tv) (hs : swapsWith value (some (.Subscript o i pos')) pos.line X.env = pure false) :
    PS X (.Assign [.Subscript o i pos'] value pos) (yL td ty tv) := by
  intro pins s σ H D I h
  refine wpAny_Assign_Subscript (thn (hv pins s σ H _ I h) fun r s1 ⟨v, H1, I1, rv, q1⟩ => thn (ho pins s1 σ H1 _ I1 q1) fun u s2 ⟨x, H2, I2, rx, q2⟩ => thn (hi pins s2 σ H2 _ I2 q2) fun iv s3 ⟨y, H3, I3, ry, a, H4, ex, g, q3⟩ => ?_) hs
  subst ex
  obtain rfl : u = Value.ref a := rx
  exact uy hu I3 g ry rv fun s4 I4 => ⟨σ, H4, I4, q3⟩
end
theorem vH {P : Program} {w : World} {H : Hp} (h : Heap) (hb : sysModules < h.objs.size) : ObjOk P w H (h.push { cls := .type "dict", data := .dict #[] }) h.objs.size (.dT []) :=
  ⟨Nat.zero_le _, beq_eq_false_iff_ne.mpr (Ne.symm (Nat.ne_of_lt hb)), [], .nil, _, #[], 0, Heap.get?_push_size _ rfl, ⟨rfl, rfl, rfl⟩, rfl, rfl, List.nodup_nil⟩
def vG : TE := fun _ H Q => ∀ p, H p = none → Q (.ref p) (upd H p (.dT []))
section
variable {X : Cx} {pos : Pos}
theorem pI : PE X (.Dict [] [] pos) vG := fun pins s σ H Q I h =>
  wpAny_Dict_empty ⟨.ref s.heap.objs.size, _, I.laid (a := s.heap.objs.size) (o := .dT []) (t' := s.toks) (fun _ _ q => Heap.get?_push_of_some _ q) (Nat.le_refl _) (vH s.heap I.big), rfl, h _ (I.hok.fresh (Nat.le_refl _))⟩
end
structure M1 (X : Cx) (o : Expr) (m : Str) (apos : Pos) (e : Expr) (cpos : Pos) : Prop where
  base : attributeBase o m X.env (eval o X.env) = eval o X.env
  few : ((backTo cpos (starEach [e] X.env)).all (fun x => !x.1) && (backToKw cpos (keywordEach [] X.env)).all (fun x => x.1.isSome)
    && decide (([e] : List Expr).length + ([] : List Keyword).length + (if ([] : List Keyword).isEmpty then 0 else 1) < 30)) = true
  line : (apos.endLine == cpos.line) = true
  trees : backTo cpos (starEach [e] X.env) = [(false, eval e X.env)]
structure M2 (X : Cx) (o : Expr) (m : Str) (apos : Pos) (e f : Expr) (cpos : Pos) : Prop where
  base : attributeBase o m X.env (eval o X.env) = eval o X.env
  few : ((backTo cpos (starEach [e, f] X.env)).all (fun x => !x.1) && (backToKw cpos (keywordEach [] X.env)).all (fun x => x.1.isSome)
    && decide (([e, f] : List Expr).length + ([] : List Keyword).length + (if ([] : List Keyword).isEmpty then 0 else 1) < 30)) = true
  line : (apos.endLine == cpos.line) = true
  trees : backTo cpos (starEach [e, f] X.env) = [(false, eval e X.env), (false, eval f X.env)]
def IsD (H : Hp) (a : Addr) : Prop := (∃ kvs, Rd H a (.dK kvs)) ∨ ∃ kvs, Rd H a (.dT kvs)
theorem As {X : Cx} {pins : List (Addr × Obj)} {σ : St} {H : Hp} {s : Shared} {a : Addr} (I : Inv X pins σ H s) (d : IsD H a) :
    s.TypeIs (.ref a) "dict" ∧ (∀ b, Value.ref a = .ref b → ∃ ob, s.heap.get? b = some ob ∧ ob.dict = none) ∧ (a == sysModules) = false := by
  rcases d with ⟨kvs, e⟩ | ⟨kvs, e⟩
  · obtain ⟨_, hd, vs, _, dd⟩ := mV I.hok e
    refine ⟨dd.typeIs, fun b q => ?_, hd⟩
    cases q
    obtain ⟨ob, _, _, h1, h2, _⟩ := dd
    exact ⟨ob, h1, h2.2.1⟩
  · obtain ⟨_, hd, xs, _, dd⟩ := mE I.hok e
    refine ⟨dd.typeIs, fun b q => ?_, hd⟩
    cases q
    obtain ⟨ob, _, _, h1, h2, _⟩ := dd
    exact ⟨ob, h1, h2.2.1⟩
section
variable {X : Cx} {pins : List (Addr × Obj)} {σ : St} {H : Hp} {s : Shared} {a : Addr} {y d : V} {u r : Value} {o : Option V} {A : Around} {E : Value → Shared → Prop}
theorem zX {Q : Value → Shared → Prop} (hu : A.units + 1 < cLine) (I : Inv X pins σ H s) (g : DGet H a y o) (ry : RelV y u) (rd : RelV d r) (h : ∀ w' s', Inv X pins σ H s' → RelV (o.getD d) w' → Q w' s') :
    wpAny (model X.prog X.w) A (call (.builtin "dict.get") [.ref a, u, r]) Q E s := by
  rcases g with ⟨kvs, k, e, ey, l⟩ | ⟨kvs, k, b, e, ey, eb, l⟩
  · subst ey
    obtain ⟨z, hd, vs, rel, dd⟩ := mV I.hok e
    refine call_meetsIn PySem.F.slot_dict_get dd.typeIs PySem.F.entry_dict_get (PySem.F.args_dict_get_3 _ _ _) (meets_dict_get_default (bW X.prog X.w) a (pO ry) hd r) ⟨_, dd.mapOf, h _ _ (I.tok _) ?_⟩
    rw [l]
    exact (rel.val k).getD rd
  · subst ey
    cases (show u = Value.ref b from ry)
    obtain ⟨z, hd, xs, rel, dd⟩ := mE I.hok e
    refine call_meetsIn PySem.F.slot_dict_get dd.typeIs PySem.F.entry_dict_get (PySem.F.args_dict_get_3 _ _ _) (meetsH_dict_get_default (tupleKind (bW X.prog X.w)) a b hd r) ⟨tupleKind_room_in1 hu, k, xs, ly I.hok eb, dd, h _ _ (I.tok _) ?_⟩
    rw [l]
    exact (rel.val k).getD rd
end
def vY (td ty tx : TE) : TE := fun σ H Q => td σ H fun x H1 => ∃ a, x = .ref a ∧ IsD H1 a ∧ ty σ H1 fun y H2 => tx σ H2 fun z H3 => ∃ o, DGet H3 a y o ∧ Q (o.getD z) H3
section
variable {X : Cx} {o e f : Expr} {apos cpos : Pos} {td ty tx : TE}
theorem pw (hu : X.A.units + 1 < cLine) (ho : PE X o td) (he : PE X e ty) (hf : PE X f tx) (m : M2 X o "get" apos e f cpos) : PE X (.Call (.Attribute o "get" apos) [e, f] [] cpos) (vY td ty tx) := by
  intro pins s σ H Q I h
  refine wpAny_Call_method m.base m.few m.line PySem.F.plainAttrs_dict PySem.F.slot_dict_get PySem.F.type_dict_get (thn (ho pins s σ H _ I h) fun u s1 ⟨x, H1, I1, rx, a, ex, d, q1⟩ => ?_)
  subst ex
  obtain rfl : u = Value.ref a := rx
  obtain ⟨t1, t2, _⟩ := As I1 d
  refine ⟨t1, t2, ?_⟩
  rw [m.trees]
  refine Calls.callWith_builtin rfl (Calls.evalArgs_plain (Calls.spliced_cons (thn (he pins s1 σ H1 _ I1 q1) fun iv s2 ⟨y, H2, I2, ry, q2⟩ =>
    Calls.spliced_cons (thn (hf pins s2 σ H2 _ I2 q2) fun fv s3 ⟨z, H3, I3, rz, ov, g, q3⟩ => Calls.spliced_nil ?_))))
  exact zX hu I3 g ry rz fun w' s4 I4 rw' => ⟨_, H3, I4, rw', q3⟩
end
section
variable {X : Cx} {pins : List (Addr × Obj)} {σ : St} {H : Hp} {s : Shared} {a : Addr} {kvs : List (Key × V)} {A : Around} {E : Value → Shared → Prop}
end
section
variable {X : Cx} {pins : List (Addr × Obj)} {σ : St} {H : Hp} {s : Shared} {a : Addr} {y : V} {u : Value} {A : Around} {E : Value → Shared → Prop}
end
end L2
set_option Elab.async false
set_option linter.all false
set_option maxRecDepth 100000
namespace L2
open PySem PySem.Spec PyProof.Rows
section
variable {X : Cx} {e o value : Expr} {f : Str} {ta tv : TE} {pos pos' : Pos}
def AC (K : PySem.W.Frag) (f : Str) : V → Hp → VK → Prop
  | .ref p, H, Q => ∃ C dx fs v, H p = some (.ins C dx fs) ∧ Cls K C ∧ NoAttr K C f ∧ fs.lookup f = some v ∧ Q v H
  | _, _, _ => False
def yF (K : PySem.W.Frag) (ta : TE) (f : Str) : TE := fun σ H Q => ta σ H fun x H1 => AC K f x H1 Q
theorem bV (K : PySem.W.Frag) (he : PE X e ta) (hK : X.K = K := by rfl) (hb : attributeBase e f X.env (eval e X.env) = eval e X.env := by rfl) : PE X (.Attribute e f pos) (yF K ta f) := by
  subst hK
  intro pins s σ H Q I h
  refine xt hb (thn (he pins s σ H _ I h) fun u s1 ⟨x, H1, I1, rx, q⟩ => ?_)
  dsimp only at q
  unfold AC at q
  split at q
  · rename_i a
    obtain ⟨C, dx, fs, v, ea, c, n, l, q⟩ := q
    obtain rfl : u = Value.ref a := rx
    exact ra I1 ea c n l fun u' s2 I2 ru => ⟨v, H1, I2, ru, q⟩
  · exact q.elim
def vL (K : PySem.W.Frag) (f : Str) (y : V) : V → Hp → (Hp → Prop) → Prop
  | .ref p, H, Q => ∃ C dx fs, H p = some (.ins C dx fs) ∧ Cls K C ∧ NoAttr K C f ∧ fs.length < 1000 ∧ Q (upd H p (.ins C dx (cW f y fs)))
  | _, _, _ => False
def yH (K : PySem.W.Frag) (ta tv : TE) (f : Str) : TS := fun D σ H => tv σ H fun y H1 => ta σ H1 fun x H2 => vL K f y x H2 fun H3 => D.nx σ H3
theorem er (K : PySem.W.Frag) (ha : PE X o ta) (hv : PE X value tv) (hK : X.K = K := by rfl) (hs : swapsWith value (some (.Attribute o f pos')) pos.line X.env = pure false := by rfl) : PS X (.Assign [.Attribute o f pos'] value pos) (yH K ta tv f) := by
  subst hK
  intro pins s σ H D I h
  refine plainObj_wpAny_Assign_Attribute (thn (hv pins s σ H _ I h) fun u s1 ⟨y, H1, I1, ry, q⟩ => thn (ha pins s1 σ H1 _ I1 q) fun ov s2 ⟨x, H2, I2, rx, q2⟩ => ?_) hs
  dsimp only at q2
  unfold vL at q2
  split at q2
  · rename_i a
    obtain ⟨C, dx, fs, ea, c, n, l, q2⟩ := q2
    obtain rfl : ov = Value.ref a := rx
    exact rG I2 ea c n l ry fun s3 I3 => ⟨σ, _, I3, q2⟩
  · exact q2.elim
end
section
variable {X : Cx} {CX : CXT} {k : Nat} {f C : Addr} {fd : FuncData} {ps : List Str} {sp : Sp} {dvs : List V} {ds : List Value} {E : XKs} {x m : Str} {p pos apos : Pos} {e o : Expr} {es : List Expr} {ta : TE} {t : TA}
def sN (C : Addr) (m : Str) : V → Hp → (V → Prop) → Prop
  | .ref p, H, Q => ∃ dx fs, H p = some (.ins C dx fs) ∧ fs.lookup m = none ∧ Q (.ref p)
  | _, _, _ => False
def r8 (C : Addr) (m : Str) (sp : Sp) (dvs : List V) (E : XKs) (ta : TE) (t : TA) : TE := fun σ H Q => ta σ H fun x0 H1 => sN C m x0 H1 (fun x => t σ H1 fun vs H2 => sp (x :: (vs ++ dvs)) H2 Q (E σ))
theorem eE {pl : Sem Bool} (he : PE X o ta) (c : Cls X.K C) (hm : h7 X.K C m f) (F : bt X.prog X.w X.K X.mg X.base CX k f fd ps sp) (hr : Room k X.A) (hb : Binds X.K fd ps ds) (hd : Vals dvs ds) (hx : dM CX X E) (ha : PA X (e :: es) t)
    (hst : starEach (e :: es) X.env = (false, eval e X.env) :: starEach es X.env := by rfl) (hpl : (backTo pos (starEach es X.env)).any (·.1) = false := by rfl)
    (ht : eval (.Call (.Attribute o m apos) (e :: es) [] pos) X.env = (do
      let ov ← eval o X.env
      standAt apos.atName
      let (f, first) ← holding [ov] (getMethod ov m pl)
      callWith pos f first (backTo pos (starEach (e :: es) X.env)) (backToKw pos (keywordEach [] X.env))) := by rfl) :
    PE X (.Call (.Attribute o m apos) (e :: es) [] pos) (r8 C m sp dvs E ta t) := by
  intro pins s σ H Q I h
  refine PySem.W.methodCall_KW (pl := pl) (thn (he pins s σ H _ I h) fun u s1 ⟨xo, H1, I1, rx, q⟩ => ?_) ht
  dsimp only at q
  unfold sN at q
  split at q
  · rename_i a
    obtain ⟨dx, fs, ea, l, q⟩ := q
    obtain rfl : u = Value.ref a := rx
    refine kJ I1 ea c hm l ?_
    refine PySem.W.callWith_K (first := [.ref a]) (h₀ := X.base) I.ok.mod.kin hm.kp (thn (ha pos pins s1 σ _ _ I1 q) fun us s2 ⟨vs, H2, I2, r, q2⟩ => ⟨I2.kIn, ?_⟩) hst hpl
    exact og (us := .ref a :: us) (vs := .ref a :: vs) F hr hb hd hx I2 (.cons rfl r) q2
  · exact q.elim
theorem uw {pl : Sem Bool} (he : PE X o ta) (c : Cls X.K C) (hm : h7 X.K C m f) (F : bt X.prog X.w X.K X.mg X.base CX k f fd ps sp) (hr : Room k X.A) (hb : Binds X.K fd ps ds) (hd : Vals dvs ds) (hx : dM CX X E)
    (ht : eval (.Call (.Attribute o m apos) [] [] pos) X.env = (do
      let ov ← eval o X.env
      standAt apos.atName
      let (f, first) ← holding [ov] (getMethod ov m pl)
      callWith pos f first (backTo pos (starEach [] X.env)) (backToKw pos (keywordEach [] X.env))) := by rfl) :
    PE X (.Call (.Attribute o m apos) [] [] pos) (r8 C m sp dvs E ta vU) := by
  intro pins s σ H Q I h
  refine PySem.W.methodCall_KW (pl := pl) (thn (he pins s σ H _ I h) fun u s1 ⟨xo, H1, I1, rx, q⟩ => ?_) ht
  dsimp only at q
  unfold sN at q
  split at q
  · rename_i a
    obtain ⟨dx, fs, ea, l, q⟩ := q
    obtain rfl : u = Value.ref a := rx
    refine kJ I1 ea c hm l ?_
    exact PySem.W.callWith_K0 (first := [.ref a]) I1.kIn hm.kp (og (us := [.ref a]) (vs := [.ref a]) F hr hb hd hx I1 (.cons rfl .nil) q)
  · exact q.elim
def rK (C : Addr) (sp : Sp) (dvs : List V) (E : XKs) (t : TA) : TE := fun σ H Q => t σ H fun vs H1 => ∀ x dx, H1 x = none → H1 dx = none → dx ≠ x →
  sp (.ref x :: (vs ++ dvs)) (upd (upd H1 dx (.own x)) x (.ins C dx [])) (fun v H2 => v = .non ∧ Q (.ref x) H2) (E σ)
theorem mz {pins : List (Addr × Obj)} {σ : St} {H : Hp} {s : Shared} {Q : VK} {us : List Value} {vs : List V} (M : Mk X.K C f) (F : bt X.prog X.w X.K X.mg X.base CX k f fd ps sp) (hr : Room (k + 1) X.A) (hb : Binds X.K fd ps ds) (hd : Vals dvs ds)
    (hx : dM CX X E) (I : Inv X pins σ H s) (r : Vals vs us)
    (h : ∀ x dx, H x = none → H dx = none → dx ≠ x → sp (.ref x :: (vs ++ dvs)) (upd (upd H dx (.own x)) x (.ins C dx [])) (fun v H2 => v = .non ∧ Q (.ref x) H2) (E σ)) :
    wpAny (model X.prog X.w) X.A (call (.ref C) us) (EP X pins σ Q) X.xe s := by
  have hq := h (s.heap.objs.size + 1) s.heap.objs.size (I.hok.fresh (Nat.le_succ _)) (I.hok.fresh (Nat.le_refl _)) (Nat.ne_of_lt (Nat.lt_succ_self _))
  have I2 := Inv.made (C := C) I
  have r2 : Vals (V.ref (s.heap.objs.size + 1) :: (vs ++ dvs)) (Value.ref (s.heap.objs.size + 1) :: (us ++ ds)) := .cons rfl (r.append hd)
  have hl : (Value.ref (s.heap.objs.size + 1) :: us ++ ds).length = ps.length := by
    have e := r2.length
    rw [F.len _ _ _ _ hq] at e
    exact e.symm
  refine wpAny_call (wG (f := f) I.kIn M.makes M.init (beq_iff_eq.mp M.fn) (codeAny_mono (F.run _ X.stack _ _ ⟨Value.ref (s.heap.objs.size + 1) :: us, []⟩ (Value.ref (s.heap.objs.size + 1) :: (us ++ ds)) _ _ (E σ) (hr.make C us [])
    (I2.env0.make C us []) (hb _ (Value.ref (s.heap.objs.size + 1) :: us) I2.kIn hl) r2 hq) fun r s' hq' => ?_))
  cases r with
  | error e => exact hx pins σ _ _ e s' I2 hq'
  | ok fl =>
    cases fl with
    | ret u =>
      obtain ⟨v, H', I3, rv, ev, q3⟩ := I2.after hq'
      subst ev
      exact ⟨rv, ⟨V.ref (s.heap.objs.size + 1), H', I3, rfl, q3⟩⟩
    | next => exact False.elim hq'
    | brk => exact False.elim hq'
    | cont => exact False.elim hq'
theorem o5 (M : Mk X.K C f) (F : bt X.prog X.w X.K X.mg X.base CX k f fd ps sp) (hr : Room (k + 1) X.A) (hg : Gl X x) (hm : X.mg x = some (.ref C)) (hb : Binds X.K fd ps ds) (hd : Vals dvs ds) (hx : dM CX X E)
    (ha : PA X (e :: es) t) (hdb : (x == ("__debug__" : Str)) = false := by decide) (he : starEach (e :: es) X.env = (false, eval e X.env) :: starEach es X.env := by rfl) (hpl : (backTo pos (starEach es X.env)).any (·.1) = false := by rfl) :
    PE X (.Call (.Name x p) (e :: es) [] pos) (rK C sp dvs E t) := by
  intro pins s σ H Q I h
  refine wpAny_Call_Name_kw (ik I hg hm ?_ hdb)
  refine PySem.W.callWith_K (h₀ := X.base) I.ok.mod.kin M.kp (thn (ha pos pins s σ H _ I h) fun us s1 ⟨vs, H1, I1, r, q⟩ => ⟨I1.kIn, ?_⟩) he hpl
  exact mz M F hr hb hd hx I1 r q
theorem i7 (M : Mk X.K C f) (F : bt X.prog X.w X.K X.mg X.base CX k f fd ps sp) (hr : Room (k + 1) X.A) (hg : Gl X x) (hm : X.mg x = some (.ref C)) (hb : Binds X.K fd ps ds) (hd : Vals dvs ds) (hx : dM CX X E)
    (hdb : (x == ("__debug__" : Str)) = false := by decide) : PE X (.Call (.Name x p) [] [] pos) (rK C sp dvs E vU) := by
  intro pins s σ H Q I h
  refine wpAny_Call_Name_kw (ik I hg hm ?_ hdb)
  exact PySem.W.callWith_K0 I.kIn M.kp (mz (us := []) M F hr hb hd hx I .nil h)
end
end L2
set_option Elab.async false
set_option linter.all false
set_option maxRecDepth 100000
namespace L2
open PySem PySem.Spec PyProof.Rows
def hR (wi : TI) (n : Nat) (g : TG) (ks : List Nat) (tt : TT) (te : TE) : TE := fun σ H Q => wi σ H fun J H1 => ∀ D, H1 D = none → ∃ W : Nat → Nat → List V → Hp → Prop, (∃ m, W 0 m [] (upd H1 D (.lst []))) ∧
  ∀ i m ys H2, W i m ys H2 → H2 D = some (.lst ys) ∧ ((J.stop i H2 ∧ Q (.ref D) H2) ∨ (J.go i H2 ∧ ∀ x H3, J.yld i H2 x H3 → ∀ zs : St, zs.length = n →
    g x (zs ++ ks.map fun k => (σ[k]?).join) H3 fun σ4 H4 => (∃ zs4 : St, zs4.length = n ∧ σ4 = zs4 ++ ks.map fun k => (σ[k]?).join) ∧
      tt σ4 H4 fun b H5 => if b = true then te σ4 H5 fun y H6 => H6 D = some (.lst ys) ∧ ys.length < sizeLine ∧ ∃ m', m' < m ∧ W (i + 1) m' (ys ++ [y]) (upd H6 D (.lst (ys ++ [y])))
        else ∃ m', m' < m ∧ W (i + 1) m' ys H5))
theorem uO {X : Cx} {elt iter : Expr} {x : Str} {xs : List Str} {tg : Expr} {g : TG} {pos : Pos} {ifs : List Expr} {scope : Scope} {cl : List (Str × Addr)} {fr : List Str} {ks : List Nat} {wi : TI} {tt : TT} {te : TE} (hc : X.calm = true) (S : CompScope X scope cl x fr)
    (hks : ks.map (fun k => X.N[k]?) = fr.map some) (hi : PI X tg iter wi) (hg : ∀ C s₂ H₂ ex pn, PG (cA X (xs ++ fr) scope cl C s₂ H₂ ex pn) tg g)
    (ht : ∀ C s₂ H₂ ex pn, PTs (cA X (xs ++ fr) scope cl C s₂ H₂ ex pn) ifs tt) (he : ∀ C s₂ H₂ ex pn, PE (cA X (xs ++ fr) scope cl C s₂ H₂ ex pn) elt te)
    (hs : ∀ x, foldedSetIterable iter X.env x = pure x := by intro _; rfl)
    {pins : List (Addr × Obj)} {s : Shared} {σ : St} {H : Hp} {Q : VK} (I : Inv X pins σ H s) (h : hR wi xs.length g ks tt te σ H Q) (use : Option (Value → Sem Unit)) (Qp : Value → Shared → Prop)
    (hend : ∀ (D C : Addr) (H' : Hp) (s' : Shared) (mC : Str → Option Value) (f : Flow), Inv X pins σ H' s' → lN X pins H' C → s'.heap.Ns C mC → Q (.ref D) H' → compPost (model X.prog X.w) X.A X.xe use Qp (.ref D) C (.ok f) s') :
    wpAny (model X.prog X.w) X.A (comprehension (.ListComp elt [⟨tg, iter, ifs, 0⟩] scope pos) scope X.env (firstIterPos [⟨tg, iter, ifs, 0⟩] pos) (newList []) false (firstIter [⟨tg, iter, ifs, 0⟩] X.env) use) Qp X.xe s := by
  refine wpAny_comprehension_free (use := use) rfl hs S.clos S.kind S.names (thn (hi pins s σ H _ I h) fun v s1 h1 => thn h1 fun itv s2 h2 => ?_)
  obtain ⟨it, fp, tn, J, H2, e, I2, T, st2, f2, hW⟩ := h2
  subst e
  refine wpAny_newObj_type (wpAny_newFunctionEnv S.nocell (by intro y hy; simp at hy) (fun h₁ hns₁ hsb₁ => ?_) S.kind)
  dsimp only at hns₁ hsb₁ ⊢
  have hD0 : H2 s2.heap.objs.size = none := I2.hok.fresh (Nat.le_refl _)
  obtain ⟨W, ⟨m0, w0⟩, turn⟩ := hW s2.heap.objs.size hD0
  generalize hs3 : s2.heap.push { cls := .type "list", dict := none, data := .seq ([] : List Value).toArray } = g3 at hns₁ hsb₁ ⊢
  have hsz3 : g3.objs.size = s2.heap.objs.size + 1 := by rw [← hs3, Heap.size_push]
  have up3 : ∀ b o, s2.heap.get? b = some o → g3.get? b = some o := fun b o e => by rw [← hs3]; exact Heap.get?_push_of_some _ e
  have gD : g3.get? s2.heap.objs.size = some { cls := .type "list", dict := none, data := .seq ([] : List Value).toArray } := by rw [← hs3]; exact Heap.get?_push_size _ rfl
  have I3 : Inv X pins σ (upd H2 s2.heap.objs.size (.lst [])) { s2 with heap := g3 } := I2.laid (t' := s2.toks) up3 (Nat.le_refl _) ⟨by simp, [], 0, .nil, gD⟩
  have keep4 : ∀ b o, g3.get? b = some o → h₁.get? b = some o := fun b o e => (hsb₁.2 b (Nat.ne_of_lt (Heap.lt_size e))).trans (Heap.get?_push_of_some _ e)
  have hCn : (upd H2 s2.heap.objs.size (.lst [])) g3.objs.size = none := I3.hok.fresh (Nat.le_refl _)
  have fpD : ∀ b ∈ fp, b ≠ s2.heap.objs.size := fun b hb z => by
    obtain ⟨o, e, _⟩ := T.obj 0 _ st2 b hb
    exact absurd (Heap.lt_size e) (by rw [z]; exact Nat.lt_irrefl _)
  have fpC : ∀ b ∈ fp, b ≠ g3.objs.size := fun b hb z => by
    obtain ⟨o, e, _⟩ := T.obj 0 _ st2 b hb
    exact absurd (Heap.lt_size (up3 b o e)) (by rw [z]; exact Nat.lt_irrefl _)
  have fpN : ∀ b ∈ fp, (upd H2 s2.heap.objs.size (.lst [])) b = none := fun b hb => by rw [ap (fpD b hb)]; exact (f2 b hb).1
  have Ok : (cA X (xs ++ fr) scope cl g3.objs.size { s2 with heap := g3 } (upd H2 s2.heap.objs.size (.lst [])) fp (X.pn ++ pins)).Ok := by
    refine ⟨I.ok.mod, S.kind, I.ok.glob, I.ok.blt, Nat.le_refl _, fun y z c e1 e2 => I.ok.inj y z c (S.sub e1) (S.sub e2), fun y hy => ?_, (fun y c z => nomatch z), I.ok.hd, I.ok.frames, .inl rfl, fun b hb => ⟨fpC b hb, fun y c e => (f2 b hb).2.2.2.2.1 y c (S.sub e)⟩, I3.bs, Nat.le_trans I.ok.bsz I3.sz, fun b o e hb => ?_, fun b hb z => ?_, I3.stack, I3.stkFree⟩
    · have hy' : y ∈ fr := S.only y hy
      obtain ⟨c, e⟩ := I.ok.has y (S.kinds y hy')
      exact ⟨c, (S.cell hy').trans e⟩
    · rcases (f2 b hb).2.2.2.1 with q | q
      · exact I.ok.noex b o e q
      · exact absurd (Heap.lt_size e) (Nat.not_lt.mpr (Nat.le_trans I.ok.bsz q))
    · rcases List.mem_cons.mp (I3.stkSub b z) with q | q
      · exact (f2 b hb).2.1 q
      · exact (f2 b hb).2.2.1 q
  have I4 : Inv (cA X (xs ++ fr) scope cl g3.objs.size { s2 with heap := g3 } (upd H2 s2.heap.objs.size (.lst [])) fp (X.pn ++ pins)) [] ((xs.map fun _ => none) ++ ks.map fun k => (σ[k]?).join) (upd H2 s2.heap.objs.size (.lst [])) { s2 with heap := h₁, toks := s2.toks + ([] : List (Str × Value)).length } := by
    refine ⟨Ok, rfl, I3.bare, Un.kept keep4, ⟨_, hns₁, fun i y v e1 e2 e3 => ?_⟩, fun y c e => ?_, hCn, fun y c e => I3.freeC y c (S.sub e), fun p hp => ?_, I3.hok.kept keep4, ?_⟩
    · have e1' : (xs ++ fr)[i]? = some y := e1
      by_cases hix : i < xs.length
      · rw [List.getElem?_append_left (by simpa using hix)] at e2
        simp [hix] at e2
      · obtain ⟨i, rfl⟩ : ∃ i', i = xs.length + i' := ⟨i - xs.length, by omega⟩
        rw [List.getElem?_append_right (by omega)] at e1'
        rw [List.getElem?_append_right (by simp)] at e2
        have e1' : fr[i]? = some y := by simpa using e1'
        have e2 : (ks.map fun k => (σ[k]?).join)[i]? = some (some v) := by simpa using e2
        have hy : y ∈ fr := List.mem_of_getElem? e1'
        have ek : (ks.map (fun k => X.N[k]?))[i]? = (fr.map some)[i]? := by rw [hks]
        rw [List.getElem?_map, List.getElem?_map, e1'] at ek
        have e2' := e2
        rw [List.getElem?_map] at e2'
        cases hk : ks[i]? with
        | none => rw [hk] at ek; cases ek
        | some k =>
          rw [hk] at ek e2'
          have ek' : X.N[k]? = some y := by simpa using ek
          have e2'' : (σ[k]?).join = some v := by simpa using e2'
          have es : σ[k]? = some (some v) := by
            cases q : σ[k]? with
            | none => rw [q] at e2''; cases e2''
            | some z => rw [q] at e2''; rw [show z = some v from e2'']
          obtain ⟨m, hn, hl⟩ := I3.loc
          have hkd := S.kinds y hy
          obtain ⟨u, r, lk⟩ := hl k y v ek' es (by rcases hkd with q | q; exact .inr (.inl q); exact .inr (.inr q))
          refine ⟨u, r, .inr ⟨S.kin y hy, ?_⟩⟩
          rcases lk with ⟨q, _⟩ | ⟨_, c, ec, hcell⟩
          · rcases hkd with z | z <;> (rw [q] at z; cases z)
          · obtain ⟨o, ho, hd⟩ := hcell
            exact ⟨c, (S.cell hy).trans ec, o, keep4 _ _ ho, hd⟩
    · obtain ⟨v, o, ho, hd⟩ := I3.cell y c (S.sub e)
      exact ⟨v, o, keep4 _ _ ho, hd⟩
    · have hp' : p ∈ X.pn ++ pins := by simpa [cA] using hp
      obtain ⟨a1, a2, a3, a4, a5⟩ := I3.pin p hp'
      refine ⟨keep4 _ _ a1, a2, Nat.ne_of_lt (Heap.lt_size a1), fun z => ?_, a5⟩
      rcases List.mem_cons.mp (I3.stkSub p.1 z) with q | q
      · exact a3 q
      · exact a4 q
    · show ((xs.map fun _ => none) ++ ks.map _).length = (xs ++ fr).length
      have := congrArg List.length hks
      simp at this
      simp [this]
  have st4 : tn 0 h₁ := T.keep 0 _ _ st2 fun b hb o e => keep4 _ _ (up3 _ _ e)
  have stat : ∀ {H' : Hp}, (∀ b ∈ fp, H' b = none) → ∀ b ∈ fp, lN (cA X (xs ++ fr) scope cl g3.objs.size { s2 with heap := g3 } (upd H2 s2.heap.objs.size (.lst [])) fp (X.pn ++ pins)) [] H' b := fun hn b hb =>
    ⟨hn b hb, fpC b hb, Ok.exfs b hb, .inl hb, fun y c e => (f2 b hb).2.2.2.2.1 y c (S.sub e), fun p hp => (f2 b hb).2.2.2.2.2 p (by simpa [cA] using hp)⟩
  have loop : codeAny (model X.prog X.w) X.A (.compLoop (.ListComp elt [⟨tg, iter, ifs, 0⟩] scope pos) 0 (.ref it) (.ref s2.heap.objs.size) (compEnvC scope cl g3.objs.size X.env))
      (compPost (model X.prog X.w) X.A X.xe use Qp (.ref s2.heap.objs.size) g3.objs.size) { s2 with heap := h₁, toks := s2.toks + ([] : List (Str × Value)).length } := by
    refine nA (fun n s' => ∃ i ys σ' H', Inv (cA X (xs ++ fr) scope cl g3.objs.size { s2 with heap := g3 } (upd H2 s2.heap.objs.size (.lst [])) fp (X.pn ++ pins)) [] σ' H' s' ∧ (∃ zs, zs.length = xs.length ∧ σ' = zs ++ ks.map fun k => (σ[k]?).join) ∧ tn i s'.heap ∧ (∀ b ∈ fp, H' b = none) ∧ W i n ys H') ?_ m0
      ⟨0, [], _, _, I4, ⟨xs.map fun _ => none, by simp, rfl⟩, st4, fpN, w0⟩
    rintro n s' ⟨i, ys, σ', H', I5, ⟨zs, hzs, rfl⟩, st5, fr5, w5⟩
    obtain ⟨hD, hor⟩ := turn i n ys H' w5
    rcases hor with ⟨stop, qn⟩ | ⟨go, step⟩
    · refine wpAny_mono (T.done (cA X (xs ++ fr) scope cl g3.objs.size { s2 with heap := g3 } (upd H2 s2.heap.objs.size (.lst [])) fp (X.pn ++ pins)) rfl rfl rfl hc i [] s' _ H' (fun _ _ => False) I5 (stat fr5) st5 stop) (fun r s6 ⟨hr, I6⟩ => ?_) (fun _ _ f => f.elim)
      subst hr
      obtain ⟨mC, hnC, _⟩ := I6.loc
      have tr : ∀ b o, b ≠ g3.objs.size → s6.heap.get? b = some o → s6.heap.get? b = some o := fun b o hb e => e
      have U := I6.base
      have neC : ∀ b o, g3.get? b = some o → b ≠ g3.objs.size := fun b o e => Nat.ne_of_lt (Heap.lt_size e)
      have U' : Un (frs X.stack) fp (upd H2 s2.heap.objs.size (.lst [])) H' g3 s6.heap := ⟨fun b o q n hb hx => tr b o (neC b o q) (U.keep b o q n hb hx), fun b o q n hb hx => let ⟨sl, e⟩ := U.slot b o q n hb hx; ⟨sl, tr _ _ (neC b o q) e⟩, U.free, fun b o q hx => let ⟨o', e⟩ := U.there b o q hx; ⟨o', tr _ _ (neC b o q) e⟩, U.tups, U.frzs, U.tbls⟩
      have ok' : HOk X.prog X.w H' s6.heap := fun a o e => (I6.hok a o e).stay (fun b u hb q => tr b u (fun z => by
          have fC : H' g3.objs.size = none := I6.free
          rcases hb with r | r
          · rw [← z, r, e] at fC; cases fC
          · rw [← z, r] at fC; cases fC) q) (fun _ q => q) fun _ _ q => q
      have J6 : Inv X pins σ H' s6 := I3.call' (s' := s6) (ch := fp) I6.os U' ok' I6.bare fun b hb => ⟨(f2 b hb).2.2.2.1, (f2 b hb).2.1, (f2 b hb).2.2.2.2.1, (f2 b hb).2.2.2.2.2⟩
      exact hend s2.heap.objs.size g3.objs.size H' s6 mC _ J6 (I3.fpOk (Nat.le_refl _) I6.free) hnC qn
    · refine wpAny_mono (T.item (cA X (xs ++ fr) scope cl g3.objs.size { s2 with heap := g3 } (upd H2 s2.heap.objs.size (.lst [])) fp (X.pn ++ pins)) rfl rfl rfl hc i [] s' _ H' (fun _ _ => False) I5 (stat fr5) st5 go) (fun r s6 ⟨u, hr, h6⟩ => ?_) (fun _ _ f => f.elim)
      subst hr
      refine wpAny_mono h6 (fun _ s7 ⟨xv, H7, I7, r7, y7, st7, fr7⟩ => ?_) (fun _ _ f => f.elim)
      have I7' := I7.pinned (stat fr7) (T.obj _ _ st7)
      have pinsTo : ∀ {σ9 : St} {H9 : Hp} {s9 : Shared}, Inv (cA X (xs ++ fr) scope cl g3.objs.size { s2 with heap := g3 } (upd H2 s2.heap.objs.size (.lst [])) fp (X.pn ++ pins)) ([] ++ j6 fp s7.heap) σ9 H9 s9 → tn (i + 1) s9.heap ∧ ∀ b ∈ fp, H9 b = none := fun {σ9 H9 s9} I9 =>
        ⟨T.keep _ _ _ st7 fun b hb o e => (I9.pin (b, o) (List.mem_append_right _ (List.mem_append_right _ (fj hb e)))).1, fun b hb => by
          obtain ⟨o, e, d⟩ := T.obj _ _ st7 b hb
          exact (I9.pin (b, o) (List.mem_append_right _ (List.mem_append_right _ (fj hb e)))).2.1⟩
      refine wpAny_mono (hg _ _ _ _ _ _ s7 _ H7 xv u _ I7' r7 (step xv H7 y7 zs hzs)) (fun _ s8 ⟨σ8, H8, I8, ⟨zs4, hz4, e8⟩, q8⟩ => ?_) (fun _ _ f => f.elim)
      subst e8
      refine wpAny_mono (ht _ _ _ _ _ _ s8 _ H8 _ I8 q8) (fun ok s9 ⟨H9, I9, q9⟩ => ?_) (fun _ _ f => f.elim)
      cases ok with
      | false =>
        rw [if_neg Bool.false_ne_true] at q9 ⊢
        obtain ⟨m', hm, w9⟩ := q9
        obtain ⟨t9, f9⟩ := pinsTo I9
        exact ⟨m', hm, i + 1, ys, _, H9, I9.unpinned, ⟨zs4, hz4, rfl⟩, t9, f9, w9⟩
      | true =>
        rw [if_pos rfl] at q9 ⊢
        refine wpAny_mono (he _ _ _ _ _ _ s9 _ H9 _ I9 q9) (fun yv s10 ⟨y, H10, I10, r10, hD10, hlen, m', hm, w10⟩ => ?_) (fun _ _ f => f.elim)
        refine wpAny_mono (cv (X := cA X (xs ++ fr) scope cl g3.objs.size { s2 with heap := g3 } (upd H2 s2.heap.objs.size (.lst [])) fp (X.pn ++ pins)) _ s10 _ H10 (.ref s2.heap.objs.size) [y] (.ref s2.heap.objs.size) [yv]
          (fun _ H' => H' = upd H10 s2.heap.objs.size (.lst (ys ++ [y]))) I10 rfl (.cons r10 .nil) ⟨_, ys, y, rfl, rfl, hD10, hlen, rfl⟩) (fun _ s11 ⟨_, H11, I11, _, e11⟩ => ?_) (fun _ _ f => f.elim)
        subst e11
        obtain ⟨t11, f11⟩ := pinsTo I11
        exact ⟨m', hm, i + 1, ys ++ [y], _, _, I11.unpinned, ⟨zs4, hz4, rfl⟩, t11, f11, w10⟩
  exact codeAny_compStart_list loop (T.self X.A 0 _ _ _ st4 loop)
theorem cP {X : Cx} {elt iter : Expr} {x : Str} {xs : List Str} {tg : Expr} {g : TG} {pos : Pos} {ifs : List Expr} {scope : Scope} {cl : List (Str × Addr)} {fr : List Str} {ks : List Nat} {wi : TI} {tt : TT} {te : TE} (hc : X.calm = true) (S : CompScope X scope cl x fr)
    (hks : ks.map (fun k => X.N[k]?) = fr.map some) (hi : PI X tg iter wi) (hg : ∀ C s₂ H₂ ex pn, PG (cA X (xs ++ fr) scope cl C s₂ H₂ ex pn) tg g)
    (ht : ∀ C s₂ H₂ ex pn, PTs (cA X (xs ++ fr) scope cl C s₂ H₂ ex pn) ifs tt) (he : ∀ C s₂ H₂ ex pn, PE (cA X (xs ++ fr) scope cl C s₂ H₂ ex pn) elt te)
    (hs : ∀ x, foldedSetIterable iter X.env x = pure x := by intro _; rfl) : PE X (.ListComp elt [⟨tg, iter, ifs, 0⟩] scope pos) (hR wi xs.length g ks tt te) := by
  intro pins s σ H Q I h
  rw [eval_ListComp]
  refine uO hc S hks hi hg ht he hs I h none _ fun D C H' s' mC f J fp hn q => ⟨mC, hn, fun h' sb => ?_⟩
  obtain ⟨f0, f1, f2, f3, f4, f5⟩ := fp
  exact ⟨.ref D, H', J.turned (t' := s'.toks) (fun b o hb e => (sb.2 b hb).trans e) f0 f1 f3 f4 f5, rfl, q⟩
end L2
set_option Elab.async false
set_option linter.all false
set_option maxRecDepth 100000
namespace L2
open PySem PySem.Spec PyProof.Rows Builtin Builtin.Str
section
variable {prog : Program} {w : World} {A : Around} {E : Value → Shared → Prop} {s : Shared} {t : Addr}
end
section
variable {X : Cx} {e a b c : Expr} {pos : Pos}
def BS (K : PySem.W.Frag) : List V → Hp → VK → Prop
  | [.ref p], H, Q => ∃ ns : List Int, (SqL K H p (ns.map V.int) ∨ SqT K H p (ns.map V.int)) ∧ Q (.int ns.sum) H
  | _, _, _ => False
def yW (K : PySem.W.Frag) (neg : Bool) : R2
  | x, .ref p, H, Q => ∃ xs, (SqL K H p xs ∨ SqT K H p xs) ∧ dt x = true ∧ xs.all dt = true ∧ Q (.bl (neg ^^ inV x xs)) H
  | _, _, _, _ => False
theorem mG (K : PySem.W.Frag) (hK : X.K = K := by rfl) : OpR X (compareOp .NotIn) (yW K true) := by
  subst hK
  refine ny.imp fun x y H Q h => ?_
  unfold yW at h
  split at h
  · obtain ⟨xs, h1, h2, h3, q⟩ := h
    exact ⟨_, xs, rfl, h1, h2, h3, by simpa using q⟩
  · exact h.elim
section
variable {T name id : String} {r : V → List V → Hp → VK → Prop} {o : Expr} {to : TE} {apos cpos : Pos}
theorem xb (K : PySem.W.Frag) (pa : PlainAttrs T) (slot : Slot T name id) (hty : typeOf (.builtin id) = pure (.type "method_descriptor")) (hm : MtR X id r) (ho : PE X o to) (hK : X.K = K := by rfl)
    (hbase : attributeBase o name X.env (eval o X.env) = eval o X.env := by rfl) (hline : (apos.endLine == cpos.line) = true := by rfl) : PE X (.Call (.Attribute o name apos) [] [] cpos) (zI K T r to) := by
  subst hK; exact zc pa slot hty hm ho hbase hline
end
end
end L2
namespace L2
theorem gX {l : List PySem.Str} (h : l.Nodup) : l.Nodup := h
end L2
namespace L2
def sp5 (f : V → V → V → V → V → Hp → VK → XK → Prop) : Sp := fun vs H Q E => match vs with
  | [x, y, z, u, v] => f x y z u v H Q E
  | _ => False
theorem sp5.inv {vs : List V} {H : Hp} {Q : VK} {E : XK} {f} (h : sp5 f vs H Q E) : ∃ x y z u v, vs = [x, y, z, u, v] ∧ f x y z u v H Q E := by
  unfold sp5 at h; split at h
  · exact ⟨_, _, _, _, _, rfl, h⟩
  · exact h.elim
theorem sp5.len {vs : List V} {H : Hp} {Q : VK} {E : XK} {f} (h : sp5 f vs H Q E) : vs.length = 5 := by obtain ⟨_, _, _, _, _, rfl, _⟩ := sp5.inv h; rfl
theorem ja {n : PySem.Str} {v : V} {l : List (PySem.Str × V)} : List.lookup n ((n, v) :: l) = some v := by simp [List.lookup]
theorem bn {n m : PySem.Str} {v : V} {l : List (PySem.Str × V)} (h : (n == m) = false) : List.lookup n ((m, v) :: l) = List.lookup n l := by simp [List.lookup, h]
end L2
set_option Elab.async false
set_option linter.all false
set_option maxRecDepth 100000
set_option maxHeartbeats 1000000
namespace L2
open PySem PySem.Spec PyProof.Rows
structure BY (k : Nat) (A : Around) : Prop where
  dp : A.depth + 3 * k + 5 < recursionLimit
  un : A.units + 16 * k + 200 < cLine
section
variable {X : Cx} {CX : CXT} {k : Nat} {f : Addr} {fd : FuncData} {ps : List Str} {sp : Sp} {dvs : List V} {ds : List Value} {E : XKs} {x : Str} {p pos : Pos} {e : Expr} {es : List Expr} {t : TA}
end
end L2
set_option Elab.async false
set_option linter.all false
set_option maxRecDepth 100000
set_option maxHeartbeats 1000000
namespace L2
open PySem PySem.Spec PyProof.Rows
section
variable {X : Cx} {tg : Expr}
end
end L2
namespace L2
theorem ex1 {α : Type} {us : List α} (hl : us.length = 1) : ∃ a0, us = [a0] := by
  match us, hl with
  | [a0], _ => exact ⟨a0, rfl⟩
theorem ex2 {α : Type} {us : List α} (hl : us.length = 2) : ∃ a0 a1, us = [a0, a1] := by
  match us, hl with
  | [a0, a1], _ => exact ⟨a0, a1, rfl⟩
theorem ex3 {α : Type} {us : List α} (hl : us.length = 3) : ∃ a0 a1 a2, us = [a0, a1, a2] := by
  match us, hl with
  | [a0, a1, a2], _ => exact ⟨a0, a1, a2, rfl⟩
theorem ex4 {α : Type} {us : List α} (hl : us.length = 4) : ∃ a0 a1 a2 a3, us = [a0, a1, a2, a3] := by
  match us, hl with
  | [a0, a1, a2, a3], _ => exact ⟨a0, a1, a2, a3, rfl⟩
theorem ex5 {α : Type} {us : List α} (hl : us.length = 5) : ∃ a0 a1 a2 a3 a4, us = [a0, a1, a2, a3, a4] := by
  match us, hl with
  | [a0, a1, a2, a3, a4], _ => exact ⟨a0, a1, a2, a3, a4, rfl⟩
end L2
set_option Elab.async false
set_option linter.all false
namespace L2
open Lean Meta Simp
def y_ : List Name := [`L2.zo, `L2.tC, `L2.tOp, `L2.tUn, `L2.gEqN, `L2.sw, `L2.wQ, `L2.AV, `L2.fOr, `L2.A9, `L2.vX, `L2.fPickT, `L2.AQ, `L2.By, `L2.AO, `L2.tRetN, `L2.yD, `L2.yu, `L2.Br, `L2.jE, `L2.tIf, `L2.AY, `L2.tOr, `L2.Bq, `L2.vI, `L2.vU, `L2.tCB, `L2.vh, `L2.A3, `L2.A_, `L2.Bb, `L2.yM, `L2.tIsB, `L2.yG, `L2.tI, `L2.tSl, `L2.cs, `L2.zL, `L2.CMul, `L2.zA, `L2.wO, `L2.tTry, `L2.gcE, `L2.A5, `L2.tGc, `L2.tBM, `L2.yQ, `L2.fJoinRev, `L2.CDivB, `L2.s_, `L2.zn, `L2.yS, `L2.AR, `L2.gSub, `L2.rSetL, `L2.yF, `L2.yH, `L2.r8, `L2.rK, `L2.tDGet1, `L2.vY, `L2.yL, `L2.zI, `L2.vn]
def zh : List Name := [`L2.At, `L2.gI, `L2.gIC, `L2.Ax, `L2.gLe, `L2.gLt, `L2.eqS, `L2.kB, `L2.BU, `L2.yV, `L2.zq, `L2.xg, `L2.xL, `L2.gInt, `L2.gIx, `L2.sp0, `L2.sp1, `L2.sp2, `L2.sp3, `L2.sp4, `L2.asI, `L2.asT, `L2.asB, `L2.asR, `L2.tyV, `L2.gSt, `L2.gEn, `L2.gZf, `L2.gStr, `L2.u6, `L2.gIn, `L2.gSl, `L2.BW, `L2.gMulS, `L2.Ag, `L2.gRep, `L2.gRepT, `L2.gIsiT, `L2.wR, `L2.rC, `L2.zN, `L2.gStM, `L2.AC, `L2.vL, `L2.sN, `L2.BS, `L2.gMulT]
def rdI := And.intro @L2.xK (And.intro @L2.BO (And.intro @L2.V.bl.injEq (And.intro @L2.V.str.injEq (And.intro @L2.tU (And.intro @L2.AM (And.intro @L2.AD (And.intro @L2.zi (And.intro @L2.yX (And.intro @L2.AF (And.intro @L2.jN (And.intro @L2.oZ (And.intro @L2.q_ (And.intro @L2.rY (And.intro @L2.qM (And.intro @L2.oz (And.intro @L2.pB (And.intro @L2.xG (And.intro @L2.jc (And.intro @L2.oA (And.intro @L2.pL (And.intro @L2.qc (And.intro @L2.nv (And.intro @L2.lM (And.intro @L2.nr (And.intro @L2.Az (And.intro @L2.jM (And.intro @L2.pV (And.intro @L2.ro (And.intro @L2.qW (And.intro @L2.pE (And.intro @L2.oQ (And.intro @L2.p_ (And.intro @L2.w_ (And.intro @L2.jf (And.intro @L2.oM (And.intro @L2.qG (And.intro @L2.qj (And.intro @L2.ou (And.intro @L2.l_ (And.intro @L2.nE (And.intro @L2.wC (And.intro @L2.iF (And.intro @L2.lV (And.intro @L2.on (And.intro @L2.nY (And.intro @L2.lE (And.intro @L2.jV (And.intro @L2.lZ (And.intro @L2.xi (And.intro @L2.jk (And.intro @L2.oq (And.intro @L2.qK (And.intro @L2.pf (And.intro @L2.ox (And.intro @L2.lX (And.intro @L2.ow (And.intro @L2.AX (And.intro @L2.AI (And.intro @L2.Ap (And.intro @L2.za (And.intro @L2.xj (And.intro @L2.zS (And.intro @L2.xf (And.intro @L2.xT (And.intro @L2.yp (And.intro @L2.xO (And.intro @L2.y4 (And.intro @L2.yg (And.intro @L2.w4 (And.intro @L2.xP (And.intro @true_and (And.intro @and_true (And.intro @and_self (And.intro @true_or (And.intro @or_true (And.intro @decide_eq_true_eq (And.intro @Bool.true_eq_false (And.intro @Bool.false_xor (And.intro @Bool.true_xor (And.intro @Bool.not_true (And.intro @Bool.not_false (And.intro @Bool.false_eq_true (And.intro @Bool.not_eq_true' (And.intro @decide_eq_false_iff_not @Classical.not_not))))))))))))))))))))))))))))))))))))))))))))))))))))))))))))))))))))))))))))))))))))
end L2
set_option Elab.async false
set_option linter.all false
set_option maxRecDepth 100000
namespace L2
namespace Srt
open PySem PyProof.Rows
def kv (κ : Keyed → Int) (xs : Array Keyed) (i : Nat) : Int := (xs[i]?.map κ).getD 0
def Up (κ : Keyed → Int) (xs : Array Keyed) (k : Nat) : Prop := ∀ i j, i ≤ j → j < k → kv κ xs i ≤ kv κ xs j
def Dn (κ : Keyed → Int) (xs : Array Keyed) (k : Nat) : Prop := ∀ i j, i ≤ j → j < k → kv κ xs j ≤ kv κ xs i
structure SB (kd : SortKind) (z : Array Keyed) (t : SortSt) : Prop where
  pm : (arrOf t).Perm z
  kn : kindOf t = kd
  fl : failedOf t = none
  pn : pendingOf t = #[]
theorem SB.sz {kd : SortKind} {z : Array Keyed} {t : SortSt} (b : SB kd z t) : (arrOf t).size = z.size := b.pm.size_eq
theorem SB.put {kd : SortKind} {z : Array Keyed} {t : SortSt} {xs : Array Keyed} (b : SB kd z t) (p : xs.Perm (arrOf t)) : SB kd z (setArr t xs) :=
  ⟨p.trans b.pm, b.kn, b.fl, b.pn⟩
theorem mn {κ : Keyed → Int} {xs : Array Keyed} {i : Nat} (h : i < xs.size) : kv κ xs i = κ xs[i] := by
  unfold kv; rw [Array.getElem?_eq_getElem h]; rfl
theorem tL {κ : Keyed → Int} {xs ys : Array Keyed} {i j : Nat} (h : xs[i]? = ys[j]?) : kv κ xs i = kv κ ys j := by unfold kv; rw [h]
theorem wF {κ : Keyed → Int} {xs : Array Keyed} {u d : Nat} (hs : u < xs.size) (hd : d ≤ u) (k : Nat) :
    kv κ (bubble xs u d) k = if k = u - d then kv κ xs u else if u - d < k ∧ k ≤ u then kv κ xs (k - 1) else kv κ xs k := by
  have e := getElem?_bubble hs d hd k
  by_cases h1 : k = u - d
  · rw [if_pos h1] at e ⊢
    exact tL e
  · rw [if_neg h1] at e ⊢
    by_cases h2 : u - d < k ∧ k ≤ u
    · rw [if_pos h2] at e ⊢
      exact tL e
    · rw [if_neg h2] at e ⊢
      exact tL e
theorem vi {κ : Keyed → Int} {xs : Array Keyed} {n : Nat} (hj : n ≤ xs.size) {k : Nat} (hk : k < n) :
    kv κ (mirror xs 0 n ((n - 0) / 2)) k = kv κ xs (n - 1 - k) := by
  have e := getElem?_mirror_all (i := 0) hj k
  rw [if_pos ⟨Nat.zero_le _, hk⟩, Nat.zero_add] at e
  exact tL e
section
variable {prog : Program} {w : World} {A : Around} {E : Value → Shared → Prop} {s : Shared} {z : Array Keyed} {κ : Keyed → Int} {kd : SortKind} {t : SortSt}
def Lts (prog : Program) (w : World) (A : Around) (s : Shared) (kd : SortKind) (κ : Keyed → Int) (z : Array Keyed) : Prop :=
  ∀ (E : Value → Shared → Prop) (p q : Keyed) (Q : Bool → Shared → Prop), p ∈ z.toList → q ∈ z.toList → Q (decide (κ p < κ q)) s → wpAny (model prog w) A (keyLt' kd p.1 q.1) Q E s
theorem SB.mem (b : SB kd z t) {i : Nat} (h : i < (arrOf t).size) : (arrOf t)[i] ∈ z.toList :=
  (Array.perm_iff_toList_perm.mp b.pm).mem_iff.mp (by simp)
theorem qm {i j : Nat} {Q : Option Bool → SortSt → Prop} (L : Lts prog w A s kd κ z) (b : SB kd z t) (hi : i < z.size) (hj : j < z.size)
    (h : Q (some (decide (kv κ (arrOf t) i < kv κ (arrOf t) j))) t) : wpS (model prog w) A E s (ltAt' i j) Q t := by
  have i' : i < (arrOf t).size := b.sz ▸ hi
  have j' : j < (arrOf t).size := b.sz ▸ hj
  rw [mn i', mn j'] at h
  rw [ltAt'_eq]
  refine wpS_bind (wpS_get ?_)
  show wpS (model prog w) A E s (elem' (arrOf t) i >>= fun p => elem' (arrOf t) j >>= fun q => lt' p q) Q t
  rw [elem'_eq, elem'_eq, Array.getElem?_eq_getElem i', Array.getElem?_eq_getElem j']
  refine wpS_bind (wpS_pure (wpS_bind (wpS_pure ?_)))
  rw [lt'_eq]
  refine wpS_bind (wpS_get ?_)
  rw [b.kn]
  exact wpS_bind (wpS_lift (wpAny_attempt (L _ _ _ _ (b.mem i') (b.mem j') ⟨rfl, wpS_pure h⟩)))
def m_ (κ : Keyed → Int) (z : Array Keyed) : Prop := (z.toList.map κ).Nodup
theorem apart (b : SB kd z t) (D : m_ κ z) {i j : Nat} (hj : j < z.size) (h : i < j) : kv κ (arrOf t) i ≠ kv κ (arrOf t) j := by
  have j' : j < (arrOf t).size := b.sz ▸ hj
  have i' : i < (arrOf t).size := Nat.lt_trans h j'
  have d : ((arrOf t).toList.map κ).Nodup := ((Array.perm_iff_toList_perm.mp b.pm).map κ).nodup_iff.mpr D
  rw [mn i', mn j']
  intro e
  have := List.pairwise_iff_getElem.mp d i j (by simpa using i') (by simpa using j') h
  simp at this
  exact this e
theorem xN {xs : Array Keyed} {n : Nat} (u : Up κ xs n) (h : n = 0 ∨ kv κ xs (n - 1) ≤ kv κ xs n) : Up κ xs (n + 1) := by
  intro i j a c
  by_cases e : j < n
  · exact u i j a e
  · have : j = n := by omega
    subst this
    by_cases e2 : i = j
    · subst e2; exact Int.le_refl _
    · exact Int.le_trans (u i (j - 1) (by omega) (by omega)) (h.resolve_left (by omega))
theorem tm {xs : Array Keyed} {n : Nat} (u : Dn κ xs n) (h : n = 0 ∨ kv κ xs n ≤ kv κ xs (n - 1)) : Dn κ xs (n + 1) := by
  intro i j a c
  by_cases e : j < n
  · exact u i j a e
  · have : j = n := by omega
    subst this
    by_cases e2 : i = j
    · subst e2; exact Int.le_refl _
    · exact Int.le_trans (h.resolve_left (by omega)) (u i (j - 1) (by omega) (by omega))
theorem asc {a r : Nat} {Q : AscSt → SortSt → Prop} (L : Lts prog w A s kd κ z) (hr : r ≤ z.size) (ha : 1 ≤ a) (har : a ≤ r) (b : SB kd z t) (u : Up κ (arrOf t) a)
    (h : ∀ n, a ≤ n → n ≤ r → Up κ (arrOf t) n → (n = r ∨ kv κ (arrOf t) n < kv κ (arrOf t) (n - 1)) → Q (none, n) t) : wpS (model prog w) A E s (ascLoop a r) Q t := by
  unfold ascLoop
  refine wpS_forRange (fun x c t' => t' = t ∧ c = (none, x) ∧ Up κ (arrOf t) x) ?_ ?_ ⟨rfl, rfl, u⟩
  · rintro x c t' x1 x2 ⟨rfl, rfl, u'⟩
    refine wpS_bind (qm L b (by omega) (by omega) ?_)
    by_cases l : kv κ (arrOf t') x < kv κ (arrOf t') (x - 1)
    · simp only [decide_eq_true l, if_true]
      exact wpS_pure (h x x1 (by omega) u' (.inr l))
    · simp only [decide_eq_false l, Bool.false_eq_true, if_false]
      exact wpS_pure ⟨rfl, rfl, xN u' (.inr (by omega))⟩
  · rintro c t' ⟨rfl, rfl, u'⟩
    rw [Nat.max_eq_right har] at u' ⊢
    exact h r har (Nat.le_refl _) u' (.inl rfl)
theorem t3 {n r : Nat} {Q : Option Nat → SortSt → Prop} (L : Lts prog w A s kd κ z) (hr : r ≤ z.size) (h1 : 1 ≤ n) (hn : n ≤ r) (b : SB kd z t) (u : Dn κ (arrOf t) n)
    (h : ∀ m t', SB kd z t' → 1 ≤ m → m ≤ r → Up κ (arrOf t') m → Q (some m) t') : wpS (model prog w) A E s (tail3 n r) Q t := by
  unfold tail3
  refine wpS_bind (wpS_reverse ?_)
  have b' := b.put (mirror_perm (arrOf t) 0 n ((n - 0) / 2))
  refine wpS_bind (asc L hr h1 hn b' ?_ fun m m1 m2 u' _ => wpS_pure (h m _ b' (by omega) m2 u'))
  intro i j a c
  have g : n ≤ (arrOf t).size := by rw [b.sz]; omega
  show kv κ (mirror (arrOf t) 0 n ((n - 0) / 2)) i ≤ kv κ (mirror (arrOf t) 0 n ((n - 0) / 2)) j
  rw [vi g (by omega), vi g c]
  exact u _ _ (by omega) (by omega)
theorem BE {n r : Nat} {Q : DescSt → SortSt → Prop} (L : Lts prog w A s kd κ z) (D : m_ κ z) (hr : r ≤ z.size) (h1 : 1 ≤ n) (hn : n ≤ r) (b : SB kd z t) (u : Dn κ (arrOf t) n)
    (h : ∀ m, n ≤ m → m ≤ r → Dn κ (arrOf t) m → Q (none, m, 0) t) : wpS (model prog w) A E s (descLoop n r) Q t := by
  unfold descLoop
  refine wpS_forRange (fun x c t' => t' = t ∧ c = (none, x, 0) ∧ Dn κ (arrOf t) x) ?_ ?_ ⟨rfl, rfl, u⟩
  · rintro x c t' x1 x2 ⟨rfl, rfl, u'⟩
    dsimp only
    refine wpS_bind (qm L b (by omega) (by omega) ?_)
    by_cases l : kv κ (arrOf t') x < kv κ (arrOf t') (x - 1)
    · simp only [decide_eq_true l, if_true]
      rw [if_neg (Nat.lt_irrefl 0)]
      exact wpS_pure ⟨rfl, rfl, tm u' (.inr (Int.le_of_lt l))⟩
    · simp only [decide_eq_false l, Bool.false_eq_true, if_false]
      refine wpS_bind (qm L b (by omega) (by omega) ?_)
      have d := apart b D (i := x - 1) (j := x) (by omega) (by omega)
      simp only [decide_eq_true (show kv κ (arrOf t') (x - 1) < kv κ (arrOf t') x by omega), if_true]
      exact wpS_pure (h x x1 (by omega) u')
  · rintro c t' ⟨rfl, rfl, u'⟩
    rw [Nat.max_eq_right hn] at u' ⊢
    exact h r hn (Nat.le_refl _) u'
theorem count {r : Nat} {Q : Option Nat → SortSt → Prop} (L : Lts prog w A s kd κ z) (D : m_ κ z) (hr : r ≤ z.size) (h1 : 1 ≤ r) (b : SB kd z t)
    (h : ∀ m t', SB kd z t' → 1 ≤ m → m ≤ r → Up κ (arrOf t') m → Q (some m) t') : wpS (model prog w) A E s (countRun' 0 r) Q t := by
  rw [countRun0_eq]
  refine wpS_bind (asc L hr (Nat.le_refl 1) h1 b (fun i j a c => by have : i = j := (by omega); subst this; exact Int.le_refl _) fun n n1 n2 u o => ?_)
  dsimp only
  by_cases e : n = r
  · rw [if_pos (by simpa using e)]
    exact wpS_pure (h n t b n1 n2 u)
  rw [if_neg (by simpa using e)]
  by_cases g : n > 1
  · rw [if_pos g]
    refine wpS_bind (qm L b (by omega) (by omega) ?_)
    have d := apart b D (i := 0) (j := n - 1) (by omega) (by omega)
    have l := u 0 (n - 1) (by omega) (by omega)
    simp only [decide_eq_true (show kv κ (arrOf t) 0 < kv κ (arrOf t) (n - 1) by omega), if_true]
    exact wpS_pure (h n t b n1 n2 u)
  · rw [if_neg g]
    have : n = 1 := by omega
    subst this
    unfold descPart
    refine wpS_bind (wpS_lift (wpAny_rule ⟨rfl, ?_⟩))
    refine wpS_bind (BE L D hr (by omega) (by omega) b ?_ fun m m1 m2 u' => ?_)
    · refine tm (fun i j a c => by have : i = j := (by omega); subst this; exact Int.le_refl _) (.inr ?_)
      have := o.resolve_left e
      omega
    · dsimp only
      rw [if_neg (Nat.lt_irrefl 0)]
      exact t3 L hr (by omega) m2 b u' h
theorem AB {n k₀ : Nat} {Q : Bool → SortSt → Prop} (L : Lts prog w A s kd κ z) (hn : n ≤ z.size) (hk : k₀ ≤ n) (h0 : 1 ≤ k₀) (b : SB kd z t) (u : Up κ (arrOf t) k₀)
    (h : ∀ t', SB kd z t' → Up κ (arrOf t') n → Q true t') : wpS (model prog w) A E s (binarySort' 0 n k₀) Q t := by
  rw [binarySort'_eq]
  simp only [Nat.zero_add]
  rw [Nat.max_eq_left h0]
  refine wpS_bind (wpS_mono (wpS_forRange (fun k c t' => c = (none, ()) ∧ SB kd z t' ∧ Up κ (arrOf t') k) (Q := fun c t' => c = (none, ()) ∧ SB kd z t' ∧ Up κ (arrOf t') n) ?_ ?_ ⟨rfl, b, u⟩) ?_)
  · rintro k c t' k1 k2 ⟨rfl, b', u'⟩
    refine wpS_bind (wpS_mono (wpS_forRange (fun x c t2 => t2 = t' ∧ ∃ l r, c = (none, l, r) ∧ l ≤ r ∧ r ≤ k ∧ r - l ≤ k - x ∧
        (∀ i, i < l → kv κ (arrOf t') i ≤ kv κ (arrOf t') k) ∧ ∀ i, r ≤ i → i < k → kv κ (arrOf t') k ≤ kv κ (arrOf t') i)
      (Q := fun c t2 => t2 = t' ∧ ∃ l r, c = (none, l, r) ∧ l ≤ k ∧ (∀ i, i < l → kv κ (arrOf t') i ≤ kv κ (arrOf t') k) ∧ ∀ i, l ≤ i → i < k → kv κ (arrOf t') k ≤ kv κ (arrOf t') i) ?_ ?_
        ⟨rfl, 0, k, rfl, Nat.zero_le _, Nat.le_refl _, Nat.le_refl _, fun i q => absurd q (Nat.not_lt_zero _), fun i q q' => absurd q' (Nat.not_lt.mpr q)⟩) ?_)
    · rintro x c t2 _ x2 ⟨rfl, l, r, rfl, lr, rk, m, lo, hi⟩
      dsimp only
      by_cases g : l ≥ r
      · rw [if_pos g]
        have : l = r := by omega
        subst this
        exact wpS_pure ⟨rfl, l, l, rfl, rk, lo, hi⟩
      rw [if_neg g]
      refine wpS_bind (qm L b' (by omega) (by omega) ?_)
      by_cases q : kv κ (arrOf t2) k < kv κ (arrOf t2) ((l + r) / 2)
      · simp only [decide_eq_true q, if_true]
        exact wpS_pure ⟨rfl, l, (l + r) / 2, rfl, by omega, by omega, by omega, lo, fun i a c => Int.le_trans (Int.le_of_lt q) (u' _ _ a c)⟩
      · simp only [decide_eq_false q, Bool.false_eq_true, if_false]
        exact wpS_pure ⟨rfl, (l + r) / 2 + 1, r, rfl, by omega, by omega, by omega, fun i a => Int.le_trans (u' i ((l + r) / 2) (by omega) (by omega)) (by omega), hi⟩
    · rintro c t2 ⟨rfl, l, r, rfl, lr, rk, m, lo, hi⟩
      have : l = r := by omega
      subst this
      exact ⟨rfl, l, l, rfl, rk, lo, hi⟩
    · rintro c t2 ⟨rfl, l, r, rfl, lk, lo, hi⟩
      show wpS (model prog w) A E s (moveDown' k l >>= fun _ => pure (ForInStep.yield (none, ()))) _ t2
      rw [moveDown'_eq]
      refine wpS_bind (wpS_modify (wpS_pure ⟨rfl, b'.put (bubble_perm _ _ _), ?_⟩))
      have g : k < (arrOf t2).size := by rw [b'.sz]; omega
      intro i j a c
      show kv κ (bubble (arrOf t2) k (k - l)) i ≤ kv κ (bubble (arrOf t2) k (k - l)) j
      rw [wF g (by omega), wF g (by omega), Nat.sub_sub_self lk]
      by_cases e1 : i = l
      · rw [if_pos e1]
        by_cases e2 : j = l
        · rw [if_pos e2]; exact Int.le_refl _
        · rw [if_neg e2, if_pos (by omega)]; exact hi _ (by omega) (by omega)
      · rw [if_neg e1]
        by_cases e3 : l < i ∧ i ≤ k
        · rw [if_pos e3, if_neg (by omega), if_pos (by omega)]; exact u' _ _ (by omega) (by omega)
        · rw [if_neg e3]
          by_cases e2 : j = l
          · rw [if_pos e2]; exact lo _ (by omega)
          · rw [if_neg e2]
            by_cases e4 : l < j ∧ j ≤ k
            · rw [if_pos e4]; exact u' _ _ (by omega) (by omega)
            · rw [if_neg e4]; exact u' _ _ a (by omega)
  · rintro c t' ⟨e, b', u'⟩
    rw [Nat.max_eq_right hk] at u'
    exact ⟨e, b', u'⟩
  · rintro c t' ⟨rfl, b', u'⟩
    exact wpS_pure (h t' b' u')
theorem BL {Q : Unit → SortSt → Prop} (L : Lts prog w A s kd κ z) (D : m_ κ z) (b : SB kd z t) (h2 : 2 ≤ z.size) (h64 : z.size < 64)
    (h : ∀ t', (arrOf t').Perm z → failedOf t' = none → Up κ (arrOf t') z.size → Q () t') : wpS (model prog w) A E s sortRuns' Q t := by
  rw [sortRuns'_eq]
  refine wpS_bind (wpS_get ?_)
  dsimp only
  have mr : minRun' z.size z.size 0 = z.size := by
    obtain ⟨f, e⟩ : ∃ f, z.size = f + 1 := ⟨z.size - 1, by omega⟩
    rw [e, minRun'_succ, if_pos (by omega), Nat.add_zero]
  simp only [b.sz, mr]
  refine wpS_bind (wpS_mono (wpS_forRange
    (fun x c t' => (x = 0 ∧ c = (none, 0) ∧ SB kd z t') ∨ (1 ≤ x ∧ c = (none, z.size) ∧ (arrOf t').Perm z ∧ failedOf t' = none ∧ pendingOf t' = #[(0, z.size, 0)] ∧ Up κ (arrOf t') z.size))
    (Q := fun c t' => c = (none, z.size) ∧ (arrOf t').Perm z ∧ failedOf t' = none ∧ pendingOf t' = #[(0, z.size, 0)] ∧ Up κ (arrOf t') z.size) ?_ ?_ (.inl ⟨rfl, rfl, b⟩)) ?_)
  · rintro x c t' _ x2 (⟨rfl, rfl, b'⟩ | ⟨x1, rfl, d⟩)
    · dsimp only
      rw [if_neg (by omega)]
      simp only [Nat.sub_zero, Nat.min_self, Nat.zero_add]
      refine wpS_bind (count L D (Nat.le_refl _) (by omega) b' fun m t2 b2 m1 m2 u2 => ?_)
      dsimp only
      by_cases g : m < z.size
      · rw [if_pos g]
        refine wpS_bind (wpS_lift (wpAny_rule ⟨rfl, ?_⟩))
        refine wpS_bind (AB L (Nat.le_refl _) m2 m1 b2 u2 fun t3 b3 u3 => ?_)
        simp only [Bool.not_true, Bool.false_eq_true, if_false]
        refine wpS_bind (wpS_get ?_)
        rw [show (pendingOf t3).back? = none by rw [b3.pn]; rfl]
        exact wpS_bind (wpS_modify (wpS_pure (.inr ⟨by omega, rfl, b3.pm, b3.fl, by show (pendingOf t3).push _ = _; rw [b3.pn]; rfl, u3⟩)))
      · rw [if_neg g]
        have : m = z.size := by omega
        subst this
        refine wpS_bind (wpS_get ?_)
        rw [show (pendingOf t2).back? = none by rw [b2.pn]; rfl]
        exact wpS_bind (wpS_modify (wpS_pure (.inr ⟨by omega, rfl, b2.pm, b2.fl, by show (pendingOf t2).push _ = _; rw [b2.pn]; rfl, u2⟩)))
    · dsimp only
      rw [if_pos (Nat.le_refl _)]
      exact wpS_pure ⟨rfl, d⟩
  · rintro c t' (⟨x, _, _⟩ | ⟨_, e, d⟩)
    · omega
    · exact ⟨e, d⟩
  · rintro c t' ⟨rfl, p1, p2, p3, p4⟩
    dsimp only
    refine wpS_bind (wpS_mono (wpS_forRange (fun _ c t2 => t2 = t' ∧ c = (none, ())) (Q := fun c t2 => t2 = t' ∧ c = (none, ())) ?_ (fun _ _ q => q) ⟨rfl, rfl⟩) ?_)
    · rintro x c t2 _ _ ⟨rfl, rfl⟩
      refine wpS_bind (wpS_get ?_)
      rw [if_pos (by rw [p3]; exact Nat.le_refl 1)]
      exact wpS_pure ⟨rfl, rfl⟩
    · rintro c t2 ⟨rfl, rfl⟩
      exact wpS_pure (h _ p1 p2 p4)
end
section
variable {prog : Program} {w : World} {A : Around} {E : Value → Shared → Prop} {s : Shared}
structure Cmp (prog : Program) (w : World) (h : Heap) (os : OsState) (kd : SortKind) (κ : Value → Int) (vs : List Value) : Prop where
  kind : ∀ (A : Around) (E : Value → Shared → Prop) (s : Shared) (Q : SortKind → Shared → Prop), s.heap = h → Q kd s → wpAny (model prog w) A (keyKind' vs.toArray) Q E s
  lt : ∀ (A : Around) (E : Value → Shared → Prop) (s : Shared) (p q : Value) (Q : Bool → Shared → Prop), s.heap = h → p ∈ vs → q ∈ vs → Q (decide (κ p < κ q)) s → wpAny (model prog w) A (keyLt' kd p q) Q E s
theorem jm {vs : List Value} {p : Keyed} (h : p ∈ (vs.toArray.zip vs.toArray).toList) : p.1 ∈ vs ∧ p.2 = p.1 := by
  rw [Array.toList_zip] at h
  simp at h
  rw [List.zip_eq_zipWith, List.zipWith_self] at h
  obtain ⟨a, ha, e⟩ := List.mem_map.mp h
  subst e
  exact ⟨ha, rfl⟩
theorem mw (vs : List Value) : (vs.toArray.zip vs.toArray).toList.map (·.1) = vs := by
  rw [Array.toList_zip]
  exact List.map_fst_zip (Nat.le_refl _)
theorem sort_by {a : Addr} {vs : List Value} {n : Nat} {kd : SortKind} {κ : Value → Int} {P : Fin → Shared → Prop} (ho : s.heap.get? a = some (seqObj "list" vs.toArray n)) (h64 : vs.length < 64) (hd : (vs.map κ).Nodup)
    (hC : 2 ≤ vs.length → Cmp prog w (((s.heap.update a (Obj.mapSeq fun _ => #[])).push (seqObj "tuple" vs.toArray 0)).push (seqObj "list" #[] 0)) s.os kd κ vs)
    (h : ∀ out : List Value, out.Perm vs → out.Pairwise (fun x y => κ x < κ y) → P (.done (.ret .none)) { s with heap := sortedHeap s.heap a vs out.toArray }) :
    wpAny (model prog w) A (Builtin.«list.sort» ⟨[.ref a], []⟩) P E s := by
  rw [list_sort_plain]
  have la : a < s.heap.objs.size := Heap.lt_size ho
  refine wpAny_bind (listItems_at ho rfl (wpAny_bind (listUpdate_at ho rfl ?_ (hsz := by rw [List.size_toArray, sizeLine_eq]; omega))))
  obtain ⟨e1, ho1⟩ : ∃ e, (s.heap.update a (Obj.mapSeq fun _ => #[])).get? a = some (seqObj "list" #[] e) := ⟨_, get?_update_seq ho fun _ => #[]⟩
  refine wpAny_bind (seqEpoch_at ho1 rfl (wpAny_bind (wpAny_newTuple (wpAny_bind (wpAny_newList (wpAny_holding ?_))) (by show vs.length ≤ _; rw [sizeLine_eq]; omega))))
  have ho3 : (((s.heap.update a (Obj.mapSeq fun _ => #[])).push (seqObj "tuple" vs.toArray 0)).push (seqObj "list" #[] 0)).get? a = some (seqObj "list" #[] e1) :=
    Heap.get?_push_of_some _ (Heap.get?_push_of_some _ ho1)
  show wpAny (model prog w) A _ P E { s with heap := ((s.heap.update a (Obj.mapSeq fun _ => #[])).push (seqObj "tuple" vs.toArray 0)).push (seqObj "list" #[] 0) }
  dsimp only
  have fin : ∀ t : SortSt, (arrOf t).Perm (vs.toArray.zip vs.toArray) → failedOf t = none → Up (fun p => κ p.1) (arrOf t) (vs.toArray.zip vs.toArray).size →
      (((arrOf t).map (·.2)).toList.Perm vs ∧ ((arrOf t).map (·.2)).toList.Pairwise fun x y => κ x < κ y) := fun t pm _ u => by
    have pl := Array.perm_iff_toList_perm.mp pm
    have e2 : ((arrOf t).map (·.2)).toList = (arrOf t).toList.map (·.1) := by
      rw [Array.toList_map]
      exact List.map_congr_left fun p hp => (jm (pl.mem_iff.mp hp)).2
    have p1 : ((arrOf t).map (·.2)).toList.Perm vs := by
      rw [e2]
      have := pl.map (·.1)
      rwa [mw] at this
    refine ⟨p1, ?_⟩
    have nd : (((arrOf t).map (·.2)).toList.map κ).Nodup := (p1.map κ).nodup_iff.mpr hd
    rw [e2] at nd ⊢
    have sz : (arrOf t).size = (vs.toArray.zip vs.toArray).size := pm.size_eq
    refine List.pairwise_iff_getElem.mpr fun i j hi hj hij => ?_
    have hi' : i < (arrOf t).size := by simpa using hi
    have hj' : j < (arrOf t).size := by simpa using hj
    have l := u i j (Nat.le_of_lt hij) (by omega)
    rw [mn hi', mn hj'] at l
    have d := List.pairwise_iff_getElem.mp nd i j (by simpa using hi) (by simpa using hj) hij
    simp at d l ⊢
    omega
  by_cases c2 : vs.toArray.size < 2
  · rw [if_pos c2, if_pos c2]
    refine wpAny_bind (wpAny_pure ?_)
    rw [StateT.run_pure]
    refine wpAny_bind (wpAny_pure ?_)
    dsimp only
    refine wpAny_bind (seqEpoch_at ho3 rfl ?_)
    obtain ⟨f1, f2⟩ := fin (SortSt.mk' general' (vs.toArray.zip vs.toArray) #[] 7 none) (Array.Perm.refl _) rfl fun i j hij hj => by
      have : i = j := by simp at hj c2; omega
      subst this; exact Int.le_refl _
    have sz2 : ((vs.toArray.zip vs.toArray).map (·.2)).size ≤ sizeLine + 1 := by simp; rw [sizeLine_eq]; omega
    refine wpAny_bind (listUpdate_at ho3 rfl ?_ (hsz := by rw [sizeLine_eq]; decide) (hsz2 := sz2))
    simp only [bne_self_eq_false, Bool.false_eq_true, if_false]
    exact wpAny_pure (h _ f1 f2)
  · rw [if_neg c2, if_neg c2]
    have C := hC (by simp at c2; omega)
    refine wpAny_bind (C.kind _ _ _ _ rfl ?_)
    have zs : (vs.toArray.zip vs.toArray).size = vs.length := by simp
    have L : Lts prog w A { s with heap := ((s.heap.update a (Obj.mapSeq fun _ => #[])).push (seqObj "tuple" vs.toArray 0)).push (seqObj "list" #[] 0) } kd (fun p => κ p.1) (vs.toArray.zip vs.toArray) :=
      fun E p q Q hp hq k => C.lt _ _ _ _ _ _ rfl (jm hp).1 (jm hq).1 k
    have D : m_ (fun p => κ p.1) (vs.toArray.zip vs.toArray) := by
      unfold m_
      rw [show (vs.toArray.zip vs.toArray).toList.map (fun p => κ p.1) = ((vs.toArray.zip vs.toArray).toList.map (·.1)).map κ by rw [List.map_map]; rfl, mw]
      exact hd
    refine wpAny_bind (wpAny_mono (BL (z := vs.toArray.zip vs.toArray) (t := SortSt.mk' kd (vs.toArray.zip vs.toArray) #[] 7 none) (Q := fun _ t' => (arrOf t').Perm (vs.toArray.zip vs.toArray) ∧ failedOf t' = none ∧ Up (fun p => κ p.1) (arrOf t') (vs.toArray.zip vs.toArray).size)
      L D ⟨Array.Perm.refl _, rfl, rfl, rfl⟩ (by rw [zs]; simp at c2; omega) (by omega) fun t' a1 a2 a3 => ⟨a1, a2, a3⟩) ?_ fun _ _ e => e)
    rintro ⟨⟨⟩, t'⟩ s' ⟨rfl, a1, a2, a3⟩
    dsimp only
    refine wpAny_bind (seqEpoch_at ho3 rfl ?_)
    obtain ⟨f1, f2⟩ := fin t' a1 a2 a3
    have sz2 : ((arrOf t').map (·.2)).size ≤ sizeLine + 1 := by
      have := f1.length_eq
      rw [Array.length_toList] at this
      rw [this, sizeLine_eq]; omega
    refine wpAny_bind (listUpdate_at ho3 rfl ?_ (hsz := by rw [sizeLine_eq]; decide) (hsz2 := sz2))
    rw [a2]
    simp only [bne_self_eq_false, Bool.false_eq_true, if_false]
    exact wpAny_pure (h _ f1 f2)
end
end Srt
end L2
set_option Elab.async false
set_option linter.all false
set_option maxRecDepth 100000
namespace L2
namespace Srt
open PySem PyProof.Rows
def Two (h : Heap) (p : Addr) (x y : Int) : Prop := ∃ (o : Obj) (t u : Tok) (n : Nat), h.get? p = some o ∧ o.cls = .type "tuple" ∧ o.data = .seq #[.int x t, .int y u] n
section
variable {prog : Program} {w : World} {A : Around} {E : Value → Shared → Prop} {s : Shared}
end
end Srt
end L2
set_option Elab.async false
set_option linter.all false
set_option maxRecDepth 100000
namespace L2
namespace Srt
open PySem PyProof.Rows
section
variable {prog : Program} {w : World} {A : Around} {E : Value → Shared → Prop} {R : Result → Shared → Prop} {s : Shared} {I S ax : Addr} {items : Array Value} {h₀ : Heap} {κ : Value → Int}
def Prs (h : Heap) (κ : Value → Int) (lo : Int) (v : Value) : Prop := ∃ p x y, v = .ref p ∧ Two h p x y ∧ κ v = x * 64 + y ∧ lo ≤ y ∧ y < lo + 64
end
end Srt
end L2
set_option Elab.async false
set_option linter.all false
set_option maxRecDepth 100000
namespace L2
open PySem PyProof.Rows
section
variable {X : Cx} {pins : List (Addr × Obj)} {σ : St} {H : Hp} {s : Shared}
def Ite (K : PySem.W.Frag) (a : Addr) : It :=
  ⟨fun i H => ∃ xs x, SqL K H a xs ∧ xs[i]? = some x, fun i H x H' => ∃ p y, H p = none ∧ x = .ref p ∧ H' = upd H p (.tup [.int i, y]) ∧ ∀ xs, SqL K H a xs → xs[i]? = some y, fun i H => ∃ xs, SqL K H a xs ∧ xs.length ≤ i⟩
theorem Inv.turned2 {h' : Heap} {t' : Nat} {e it : Addr} {oe oi : Obj} (I : Inv X pins σ H s) (ge : s.heap.get? e = some oe) (gi : s.heap.get? it = some oi) (ne : e ≠ it) (he : ∃ o, h'.get? e = some o ∧ o.isFreed = false) (hi : ∃ o, h'.get? it = some o ∧ o.isFreed = false)
    (k : ∀ b o, b ≠ e → b ≠ it → s.heap.get? b = some o → h'.get? b = some o) (fe : lN X pins H e) (fi : lN X pins H it) : ∃ h2 : Heap, h2.objs.size = s.heap.objs.size ∧ Inv X pins σ H { s with heap := h2, toks := t' } ∧ ∀ b o, h2.get? b = some o → h'.get? b = some o := by
  obtain ⟨o1, g1, z1⟩ := he
  obtain ⟨o2, g2, z2⟩ := hi
  refine ⟨(s.heap.update it fun _ => o2).update e fun _ => o1, by rw [Heap.size_update, Heap.size_update], ?_, ?_⟩
  · have I1 : Inv X pins σ H { s with heap := s.heap.update it fun _ => o2, toks := t' } := I.turned (fun b o hb q => (Heap.get?_update_other _ _ (Ne.symm hb)).trans q) fi.1 fi.2.1 fi.2.2.2.1 fi.2.2.2.2.1 fi.2.2.2.2.2
    exact I1.turned (t' := t') (fun b o hb q => (Heap.get?_update_other _ _ (Ne.symm hb)).trans q) fe.1 fe.2.1 fe.2.2.2.1 fe.2.2.2.2.1 fe.2.2.2.2.2
  · intro b o q
    by_cases b1 : b = e
    · subst b1
      have ge' : (s.heap.update it fun _ => o2).get? b = some oe := (Heap.get?_update_other _ _ (Ne.symm ne)).trans ge
      rw [Heap.get?_update_self _ ge' z1] at q
      cases q; exact g1
    · rw [Heap.get?_update_other _ _ (Ne.symm b1)] at q
      by_cases b2 : b = it
      · subst b2
        rw [Heap.get?_update_self _ gi z2] at q
        cases q; exact g2
      · rw [Heap.get?_update_other _ _ (Ne.symm b2)] at q
        exact k b o b1 b2 q
theorem uQ {P : Program} {w : World} {K : PySem.W.Frag} {elts : List Expr} {cx : _} {pos : Pos} (a e it : Addr) (ne : e ≠ it) :
    uh P w K (.Tuple elts cx pos) (Ite K a) [e, it] e (fun i h => ∃ old, IsEnum h e it (i : Nat) old ∧ h.IsListIter it a i) where
  mem := by simp
  obj := fun i h st b hb => by
    obtain ⟨old, h1, o, h2, c, d⟩ := st
    rcases List.mem_cons.mp hb with rfl | hb
    · exact ⟨_, h1, fun v z => by
        have z' : Data.fields _ = Data.cell v := z
        cases z'⟩
    · have z := List.mem_singleton.mp hb
      subst z
      exact ⟨o, h2, fun v z => by rw [d] at z; cases z⟩
  keep := fun i h h' st k => by
    obtain ⟨old, h1, h2⟩ := st
    exact ⟨old, k e (by simp) _ h1, h2.at fun o q => k it (by simp) o q⟩
  item := by
    intro X hP hw hK hc i pins s σ H E I hf st hg
    subst hP hw hK
    obtain ⟨xs, x, hq, hx⟩ := hg
    obtain ⟨its, rv, p, hz⟩ := I.list hq
    obtain ⟨u, hu, ru⟩ := rv.get hx
    have fe := hf e (by simp)
    have fi := hf it (by simp)
    obtain ⟨old, h1, h2⟩ := st
    obtain ⟨oi, gi, ci, di⟩ := id h2
    refine wpAny_pyNext_enum_item h1 h2 p.isList (x := u) (by simpa using hu) ne fun h' e1 i1 t1 z1 k1 => ?_
    obtain ⟨oi', gi', ci', di'⟩ := id i1
    obtain ⟨h3, z3, I3, k3⟩ := I.turned2 (t' := s.toks + 1) (h' := h') h1 gi ne ⟨_, e1, rfl⟩ ⟨_, gi', Obj.isFreed_of_fields di'⟩ k1 fe fi
    have hn := I.hok.fresh (Nat.le_refl s.heap.objs.size)
    have I4 : Inv X pins σ (upd H s.heap.objs.size (.tup [.int i, x])) { s with heap := h', toks := s.toks + 1 } :=
      I3.laid (t' := s.toks + 1) k3 (Nat.le_of_eq z3) (show ObjOk X.prog X.w _ h' _ (.tup [.int i, x]) from ⟨by show 2 ≤ sizeLine; rw [sizeLine_eq]; decide, [.int i s.toks, u], .cons ⟨_, rfl⟩ (.cons ru .nil), ⟨_, t1, rfl, 0, rfl⟩⟩)
    have le : e < s.heap.objs.size := Heap.lt_size h1
    have li : it < s.heap.objs.size := Heap.lt_size gi
    have nH : ∀ b, b < s.heap.objs.size → upd H s.heap.objs.size (.tup [.int i, x]) b = H b := fun b l => ap (Nat.ne_of_lt l)
    refine ⟨_, rfl, wpAny_letOwnedTupleGo_enum (s := { s with heap := h', toks := s.toks + 1 }) e1 fun h5 e5 s5 => ?_⟩
    have I5 : Inv X pins σ (upd H s.heap.objs.size (.tup [.int i, x])) { s with heap := h5, toks := s.toks + 1 } :=
      I4.turned (t' := s.toks + 1) (fun b o hb q => (s5.2 b hb).trans q) ((nH e le).trans fe.1) fe.2.1 fe.2.2.2.1 fe.2.2.2.2.1 fe.2.2.2.2.2
    refine ⟨.ref s.heap.objs.size, _, I5, rfl, ⟨_, x, hn, rfl, rfl, fun ys hy => by rw [I.list_inj hy hq]; exact hx⟩, ⟨u, e5, i1.at fun o q => (s5.2 it (Ne.symm ne)).trans q⟩, fun b hb => ?_⟩
    rcases List.mem_cons.mp hb with rfl | hb
    · exact (nH _ le).trans fe.1
    · rw [List.mem_singleton.mp hb]; exact (nH _ li).trans fi.1
  done := by
    intro X hP hw hK hc i pins s σ H E I hf st hg
    subst hP hw hK
    obtain ⟨xs, hq, hx⟩ := hg
    obtain ⟨its, rv, p, hz⟩ := I.list hq
    have fi := hf it (by simp)
    have hl := rv.length
    obtain ⟨old, h1, h2⟩ := st
    exact wpAny_pyNext_enum_end (I.ok.hd hc) h1 h2 p.isList (by simp; omega) fun h' eb => ⟨rfl, I.turned (t' := s.toks) (fun b o hb q => eb b o hb q) fi.1 fi.2.1 fi.2.2.2.1 fi.2.2.2.2.1 fi.2.2.2.2.2⟩
  self := fun _ _ _ _ _ ⟨_, st, _⟩ h => wpAny_pyIter_enum st h
def yK (K : PySem.W.Frag) (ta : TA) : TI := fun σ H R => ta σ H fun vs H1 => ∃ a, vs = [.ref a] ∧ (∃ xs, SqL K H1 a xs) ∧ R (Ite K a) H1
theorem xX {arg : Expr} {ta : TA} {p pos : Pos} {elts : List Expr} {cx : _} {tp : Pos} (K : PySem.W.Frag) (hg : Gl X "enumerate") (hm : X.mg "enumerate" = none) (ha : PA X [arg] ta) (hs : starEach [arg] X.env = [(false, eval arg X.env)] := by rfl) (hK : X.K = K := by rfl) :
    PI X (.Tuple elts cx tp) (.Call (.Name "enumerate" p) [arg] [] pos) (yK K ta) := by
  subst hK
  intro pins s σ H R I h
  refine Call_ (jj I hg hm PyProof.Rows.boot_enumerate (PyProof.Rows.callWith_type1 (thn (ha pos pins s σ H _ I h) fun us s1 ⟨vs, H1, I1, r1, q1⟩ => ?_) hs rfl))
  obtain ⟨a, e, ⟨xs, hq⟩, q⟩ := q1
  subst e
  obtain ⟨u, rfl, ru⟩ := fG r1
  cases (show u = Value.ref a from ru)
  obtain ⟨its, rv, pl, hz⟩ := I1.list hq
  refine call_enumerate_list pl.isList fun h' e1 i1 z1 k1 => wpAny_pyIter_enum (s := { s1 with heap := h' }) e1 ?_
  refine ⟨_, [s1.heap.objs.size + 1, s1.heap.objs.size], _, _, H1, rfl, I1.kept (t' := s1.toks) k1, uQ a _ _ (Nat.succ_ne_self _), ⟨_, e1, i1⟩, fun b hb => ?_, q⟩
  rcases List.mem_cons.mp hb with rfl | hb
  · exact I1.fpOk (Nat.le_succ _) (I1.hok.fresh (Nat.le_succ _))
  · rw [List.mem_singleton.mp hb]; exact I1.fpOk (Nat.le_refl _) (I1.hok.fresh (Nat.le_refl _))
end
end L2
set_option Elab.async false
set_option linter.all false
set_option maxRecDepth 100000
namespace L2
open PySem PyProof.Rows
section
variable {X : Cx} {pins : List (Addr × Obj)} {σ : St} {H : Hp} {s : Shared}
end
section
variable {X : Cx} {tg : Expr}
end
open Lean Meta Simp
def xZ : List Name := y_ ++ [`L2.A4, `L2.tDNotIn, `L2.yE, `L2.tTryN]
def yl : List Name := zh ++ [`L2.gSortS, `L2.gSortD, `L2.gListD, `L2.gAny, `L2.yW, `L2.Ae]
end L2
set_option Elab.async false
set_option linter.all false
set_option maxRecDepth 100000
namespace L2
open PySem PyProof.Rows
theorem vx {l : List Nat} {c : Nat} (h : l ≠ []) (hc : c < 256) : Txt.count ⟨⟨l⟩⟩ ⟨#[c]⟩ = ((spN c l).length : Int) - 1 := by
  have e := congrArg List.length (ph l c)
  rw [List.length_map] at e
  have h1 : (decide ((⟨⟨l⟩⟩ : Str).length < (⟨#[c]⟩ : Str).length) || decide (Builtin.Str.strKind ⟨⟨l⟩⟩ < Builtin.Str.strKind ⟨#[c]⟩)) = false := by
    have a1 : ¬ (⟨⟨l⟩⟩ : Str).length < (⟨#[c]⟩ : Str).length := by
      have : 0 < l.length := List.length_pos_iff.mpr h
      show ¬ l.length < 1
      omega
    have a2 : Builtin.Str.strKind ⟨#[c]⟩ = 1 := by
      unfold Builtin.Str.strKind
      rw [if_pos (by simp [hc])]
    have a3 : ¬ Builtin.Str.strKind ⟨⟨l⟩⟩ < 1 := by
      unfold Builtin.Str.strKind
      split
      · decide
      · split <;> decide
    rw [a2, decide_eq_false a1, decide_eq_false a3]; rfl
  unfold Txt.split at e
  rw [if_neg (ne_true_of_eq_false h1)] at e
  unfold Txt.count
  by_cases hf : (Builtin.Str.occurrences ⟨⟨l⟩⟩ ⟨#[c]⟩ 0 (⟨⟨l⟩⟩ : Str).length ((⟨⟨l⟩⟩ : Str).length + 1)).isEmpty = true
  · rw [if_pos hf] at e
    rw [← e, List.isEmpty_iff.mp hf]; rfl
  · rw [if_neg hf, length_partsBetween] at e
    rw [← e]; omega
section
variable {X : Cx} {pins : List (Addr × Obj)} {σ : St} {H : Hp} {s : Shared}
def zr : V → List V → Hp → VK → Prop
  | .str x, [.str y], H, Q => ∃ c, cs y = [c] ∧ c < 256 ∧ cs x ≠ [] ∧ Q (.int ((spN c (cs x)).length - 1)) H
  | _, _, _, _ => False
theorem wc : MtR X "str.count" zr := by
  intro pins s σ H x xs v us Q I rx rs h
  unfold zr at h
  split at h
  · rename_i x y
    obtain ⟨c, hc, h2, h0, q⟩ := h
    obtain ⟨t, rfl⟩ := rx
    obtain ⟨u, rfl, t', rfl⟩ := fG rs
    have hy := rN hc
    subst hy
    obtain ⟨⟨l⟩⟩ := x
    refine SC.count ⟨.int _, H, I.kept (t' := s.toks + 1) (fun b o e => e), ⟨_, rfl⟩, ?_⟩
    rw [vx (l := l) h0 h2]; exact q
  · exact h.elim
end
namespace Srt
section
variable {prog : Program} {w : World} {A : Around} {E : Value → Shared → Prop} {s : Shared}
end
end Srt
section
variable {X : Cx} {pins : List (Addr × Obj)} {σ : St} {H : Hp} {s : Shared}
end
end L2
set_option Elab.async false
set_option linter.all false
set_option maxRecDepth 100000
namespace L2
namespace Rv
open PySem PyProof.Rows
section
variable {prog : Program} {w : World} {A : Around} {E : Value → Shared → Prop} {s : Shared}
end
end Rv
open PySem PyProof.Rows
section
variable {X : Cx} {pins : List (Addr × Obj)} {σ : St} {H : Hp} {s : Shared}
end
end L2
set_option Elab.async false
set_option linter.all false
set_option maxRecDepth 100000
namespace L2
open PySem PyProof.Rows
def FE (J : It) (g : TG) (tb : TS) (D : gO) (σ : St) (H : Hp) : Prop := ∃ W : Nat → Nat → St → Hp → Prop, (∃ m, W 0 m σ H) ∧ ∀ i m σ H, W i m σ H →
  (J.stop i H ∧ D.nx σ H) ∨ (J.go i H ∧ ∃ N : St → Hp → Prop, (∀ σ' H', N σ' H' → ∃ m', m' < m ∧ W (i + 1) m' σ' H') ∧ ∀ x H', J.yld i H x H' → g x σ H' fun σ2 H2 => tb { D with nx := N, ct := N, bk := D.nx } σ2 H2)
theorem w8 {K : PySem.W.Frag} {ta : TA} {g : TG} {tb : TS} {D : gO} {σ : St} {H : Hp} (h : ta σ H fun vs H1 => ∃ a, vs = [.ref a] ∧ (∃ xs, SqL K H1 a xs) ∧ FE (Ite K a) g tb D σ H1) : lI (yK K ta) g tb D σ H := h
theorem xM {K : PySem.W.Frag} {a : Addr} {xs : List V} {g : TG} {tb : TS} {D : gO} {σ : St} {H : Hp} (Pv : Nat → St → Hp → Prop) (h0 : Pv 0 σ H) (hl : ∀ i σ H, i ≤ xs.length → Pv i σ H → SqL K H a xs)
    (hs : ∀ i x σ H p, xs[i]? = some x → H p = none → Pv i σ H → g (.ref p) σ (upd H p (.tup [.int i, x])) fun σ2 H2 => tb { D with nx := Pv (i + 1), ct := Pv (i + 1), bk := D.nx } σ2 H2) (hd : ∀ σ H, Pv xs.length σ H → D.nx σ H) : FE (Ite K a) g tb D σ H := by
  refine ⟨fun i m σ H => m = xs.length - i ∧ i ≤ xs.length ∧ Pv i σ H, ⟨_, rfl, Nat.zero_le _, h0⟩, ?_⟩
  rintro i m σ H ⟨rfl, hi, p⟩
  have q := hl i σ H hi p
  rcases Nat.lt_or_ge i xs.length with lt | ge
  · refine .inr ⟨⟨xs, xs[i], q, by simp [lt]⟩, Pv (i + 1), fun σ' H' p' => ⟨_, by omega, rfl, lt, p'⟩, ?_⟩
    rintro x H' ⟨r, y, hr, rfl, rfl, hy⟩
    exact hs i y σ H r (hy xs q) hr p
  · obtain rfl : i = xs.length := Nat.le_antisymm hi ge
    exact .inl ⟨⟨xs, q, Nat.le_refl _⟩, hd σ H p⟩
theorem gJ {J : It} {H1 : Hp} {D : Addr} {Q : VK} {σr : St} {tt : TT} {te : TE} (h : ∃ W : Nat → Nat → List V → Hp → Prop, (∃ m, W 0 m [] (upd H1 D (.lst []))) ∧
      ∀ i m ys H2, W i m ys H2 → H2 D = some (.lst ys) ∧ ((J.stop i H2 ∧ Q (.ref D) H2) ∨ (J.go i H2 ∧ ∀ x H3, J.yld i H2 x H3 →
        tt (some x :: σr) H3 fun b H4 => if b = true then te (some x :: σr) H4 fun y H5 => H5 D = some (.lst ys) ∧ ys.length < sizeLine ∧ ∃ m', m' < m ∧ W (i + 1) m' (ys ++ [y]) (upd H5 D (.lst (ys ++ [y])))
          else ∃ m', m' < m ∧ W (i + 1) m' ys H4))) :
    ∃ W : Nat → Nat → List V → Hp → Prop, (∃ m, W 0 m [] (upd H1 D (.lst []))) ∧
      ∀ i m ys H2, W i m ys H2 → H2 D = some (.lst ys) ∧ ((J.stop i H2 ∧ Q (.ref D) H2) ∨ (J.go i H2 ∧ ∀ x H3, J.yld i H2 x H3 → ∀ zs : St, zs.length = 1 →
        jE 0 x (zs ++ σr) H3 fun σ4 H4 => (∃ zs4 : St, zs4.length = 1 ∧ σ4 = zs4 ++ σr) ∧
          tt σ4 H4 fun b H5 => if b = true then te σ4 H5 fun y H6 => H6 D = some (.lst ys) ∧ ys.length < sizeLine ∧ ∃ m', m' < m ∧ W (i + 1) m' (ys ++ [y]) (upd H6 D (.lst (ys ++ [y])))
            else ∃ m', m' < m ∧ W (i + 1) m' ys H5)) := by
  obtain ⟨W, h0, h⟩ := h
  refine ⟨W, h0, fun i m ys H2 w => ?_⟩
  obtain ⟨h1, h2⟩ := h i m ys H2 w
  refine ⟨h1, h2.imp id fun ⟨g1, g2⟩ => ⟨g1, fun x H3 y zs hz => ?_⟩⟩
  obtain ⟨z, rfl⟩ := ex1 hz
  exact ⟨⟨[some x], rfl, rfl⟩, g2 x H3 y⟩
theorem cmS {tl : TE} {ks : List Nat} {σ : St} {H : Hp} {Q : VK} {tt : TT} {te : TE} (C : Hp → Prop) (hC : ∀ D ys, H D = none → C (upd H D (.lst ys))) (l : List Nat) (p : Nat → Bool) (f : Nat → V) (hl : ∀ R : VK, R (T l) H → tl σ H R) (ha : ∀ c ∈ l, c < 128) (hz : l.length ≤ sizeLine)
    (hp : ∀ c ∈ l, ∀ H (R : Bool → Hp → Prop), C H → R (p c) H → tt (some (T [c]) :: ks.map fun k => (σ[k]?).join) H R) (hf : ∀ c ∈ l, p c = true → ∀ H (R : VK), C H → R (f c) H → te (some (T [c]) :: ks.map fun k => (σ[k]?).join) H R)
    (q : ∀ D, H D = none → Q (.ref D) (upd H D (.lst ((l.filter p).map f)))) : hR (Bf tl) 1 (jE 0) ks tt te σ H Q := by
  refine hl _ ⟨by simpa [cs] using ha, fun D hD => ?_⟩
  have P : ∀ x ∈ l.map fun c => T [c], ∃ c ∈ l, x = T [c] := fun x hx => by
    obtain ⟨c, hc, rfl⟩ := List.mem_map.mp hx; exact ⟨c, hc, rfl⟩
  let hd : V → Nat := fun v => match v with | .str y => (cs y).headD 0 | _ => 0
  have hhd : ∀ c, hd (T [c]) = c := fun c => rfl
  refine gJ (jt (vq l) C (fun v => p (hd v)) (fun v => f (hd v)) (by simpa using hz) (fun x hx H R c r => ?_) (fun x hx hb H R c r => ?_) D hD (fun ys => hC D ys hD) ?_)
  · obtain ⟨y, hy, rfl⟩ := P x hx
    exact hp y hy H R c r
  · obtain ⟨y, hy, rfl⟩ := P x hx
    exact hf y hy hb H R c r
  · have e : ((l.map fun c => T [c]).filter fun v => p (hd v)).map (fun v => f (hd v)) = (l.filter p).map f := by
      rw [List.filter_map, List.map_map]
      rfl
    rw [e]; exact q D hD
theorem cmR {ta : TA} {ks : List Nat} {σ : St} {H : Hp} {Q : VK} {tt : TT} {te : TE} (C : Hp → Prop) (hC : ∀ D ys, H D = none → C (upd H D (.lst ys))) (n : Nat) (p : Nat → Bool) (f : Nat → V) (hl : ∀ R : List V → Hp → Prop, R [.int n] H → ta σ H R) (hz : n ≤ sizeLine)
    (hp : ∀ k, k < n → ∀ H (R : Bool → Hp → Prop), C H → R (p k) H → tt (some (.int k) :: ks.map fun k => (σ[k]?).join) H R) (hf : ∀ k, k < n → p k = true → ∀ H (R : VK), C H → R (f k) H → te (some (.int k) :: ks.map fun k => (σ[k]?).join) H R)
    (q : ∀ D, H D = none → Q (.ref D) (upd H D (.lst (((List.range n).filter p).map f)))) : hR (vj ta) 1 (jE 0) ks tt te σ H Q := by
  have hz' : (n : Int) < 2 ^ 62 := by
    have : sizeLine < 2 ^ 62 := by rw [sizeLine_eq]; decide
    have h2 : n < 2 ^ 62 := by omega
    have e : ((2 ^ 62 : Nat) : Int) = (2 : Int) ^ 62 := by decide
    omega
  refine hl _ ⟨n, rfl, by omega, hz', ?_⟩
  rw [Int.toNat_natCast]
  intro D hD
  have P : ∀ x ∈ (List.range n).map fun k => V.int (k : Nat), ∃ k, k < n ∧ x = .int (k : Nat) := fun x hx => by
    obtain ⟨c, hc, rfl⟩ := List.mem_map.mp hx; exact ⟨c, by simpa using hc, rfl⟩
  let hd : V → Nat := fun v => match v with | .int i => i.toNat | _ => 0
  have hhd : ∀ c : Nat, hd (.int c) = c := fun c => Int.toNat_natCast c
  refine gJ (jt (wg n) C (fun v => p (hd v)) (fun v => f (hd v)) (by simpa using hz) (fun x hx H R c' r => ?_) (fun x hx hb H R c' r => ?_) D hD (fun ys => hC D ys hD) ?_)
  · obtain ⟨c, hc, rfl⟩ := P x hx
    rw [hhd] at r
    exact hp c hc H R c' r
  · obtain ⟨c, hc, rfl⟩ := P x hx
    rw [hhd] at r hb
    exact hf c hc hb H R c' r
  · have e : (((List.range n).map fun k => V.int (k : Nat)).filter fun v => p (hd v)).map (fun v => f (hd v)) = ((List.range n).filter p).map f := by
      rw [List.filter_map, List.map_map]
      have e1 : ((fun v => p (hd v)) ∘ fun k : Nat => V.int (k : Nat)) = p := by funext k; simp only [Function.comp, hhd]
      have e2 : ((fun v => f (hd v)) ∘ fun k : Nat => V.int (k : Nat)) = f := by funext k; simp only [Function.comp, hhd]
      rw [e1, e2]
    rw [e]; exact q D hD
theorem cmL {K : PySem.W.Frag} {tl : TE} {ks : List Nat} {σ : St} {H H1 : Hp} {Q : VK} {tt : TT} {te : TE} (a : Addr) (vs : List V) (C : Hp → Prop) (hC : ∀ D ys, H1 D = none → C (upd H1 D (.lst ys))) (hT : ∀ H, C H → SqL K H a vs) (p : V → Bool) (f : V → V)
    (hl : ∀ R : VK, R (.ref a) H1 → tl σ H R) (h1 : SqL K H1 a vs) (hz : vs.length ≤ sizeLine)
    (hp : ∀ x ∈ vs, ∀ H (R : Bool → Hp → Prop), C H → R (p x) H → tt (some x :: ks.map fun k => (σ[k]?).join) H R) (hf : ∀ x ∈ vs, p x = true → ∀ H (R : VK), C H → R (f x) H → te (some x :: ks.map fun k => (σ[k]?).join) H R)
    (q : ∀ D, H1 D = none → Q (.ref D) (upd H1 D (.lst ((vs.filter p).map f)))) : hR (ku K tl) 1 (jE 0) ks tt te σ H Q :=
  hl _ ⟨a, rfl, ⟨vs, h1⟩, fun D hD => gJ (rm C (vo hT) p f hz hp hf D hD (fun ys => hC D ys hD) (q D hD))⟩
theorem BG {ta : TA} {ks : List Nat} {σ : St} {H : Hp} {Q : VK} {tt : TT} {te : TE} (C : Hp → Prop) (hC : ∀ D ys, H D = none → C (upd H D (.lst ys))) (lo hi : Int) (n : Nat) (hn : (hi - lo).toNat = n) (p : V → Bool) (f : V → V) (hl : ∀ R : List V → Hp → Prop, R [.int lo, .int hi] H → ta σ H R) (hb : -(2 ^ 62) ≤ lo ∧ lo < 2 ^ 62 ∧ -(2 ^ 62) ≤ hi ∧ hi < 2 ^ 62) (hz : n ≤ sizeLine)
    (hp : ∀ k : Nat, k < n → ∀ H (R : Bool → Hp → Prop), C H → R (p (.int (lo + k))) H → tt (some (.int (lo + k)) :: ks.map fun k => (σ[k]?).join) H R) (hf : ∀ k : Nat, k < n → p (.int (lo + k)) = true → ∀ H (R : VK), C H → R (f (.int (lo + k))) H → te (some (.int (lo + k)) :: ks.map fun k => (σ[k]?).join) H R)
    (q : ∀ D, H D = none → Q (.ref D) (upd H D (.lst ((((List.range n).map fun k : Nat => V.int (lo + k)).filter p).map f)))) : hR (wX ta) 1 (jE 0) ks tt te σ H Q := by
  refine hl _ ⟨lo, hi, rfl, hb, ?_⟩
  rw [hn]
  intro D hD
  have P : ∀ x ∈ (List.range n).map fun k : Nat => V.int (lo + k), ∃ k : Nat, k < n ∧ x = .int (lo + k) := fun x hx => by
    obtain ⟨c, hc, rfl⟩ := List.mem_map.mp hx; exact ⟨c, by simpa using hc, rfl⟩
  refine gJ (jt (ut lo n) C p f (by simpa using hz) (fun x hx H R c' r => ?_) (fun x hx hb H R c' r => ?_) D hD (fun ys => hC D ys hD) (q D hD))
  · obtain ⟨c, hc, rfl⟩ := P x hx
    exact hp c hc H R c' r
  · obtain ⟨c, hc, rfl⟩ := P x hx
    exact hf c hc hb H R c' r
inductive A2 {α β : Type} (R : α → β → Prop) : List α → List β → Prop
  | nil : A2 R [] []
  | cons {a : α} {b : β} {as : List α} {bs : List β} : R a b → A2 R as bs → A2 R (a :: as) (b :: bs)
namespace A2
variable {α β : Type} {R S : α → β → Prop}
theorem len {as : List α} {bs : List β} (h : A2 R as bs) : as.length = bs.length := by
  induction h with
  | nil => rfl
  | cons _ _ ih => simp [ih]
theorem imp {as : List α} {bs : List β} (h : A2 R as bs) (f : ∀ a b, a ∈ as → b ∈ bs → R a b → S a b) : A2 S as bs := by
  induction h with
  | nil => exact .nil
  | cons r _ ih => exact .cons (f _ _ (.head _) (.head _) r) (ih fun a b ha hb => f a b (.tail _ ha) (.tail _ hb))
theorem at_ {as : List α} {bs : List β} (h : A2 R as bs) : ∀ {i : Nat} {a : α}, as[i]? = some a → ∃ b, bs[i]? = some b ∧ R a b := by
  induction h with
  | nil => intro i a e; simp at e
  | cons r _ ih =>
    intro i a e
    cases i with
    | zero => cases e; exact ⟨_, rfl, r⟩
    | succ i => exact ih (i := i) (by simpa using e)
theorem mem {as : List α} {bs : List β} (h : A2 R as bs) {a : α} (m : a ∈ as) : ∃ b, b ∈ bs ∧ R a b := by
  induction h with
  | nil => cases m
  | cons r _ ih =>
    rcases List.mem_cons.mp m with rfl | m
    · exact ⟨_, .head _, r⟩
    · obtain ⟨b, h1, h2⟩ := ih m
      exact ⟨b, .tail _ h1, h2⟩
theorem app {as : List α} {bs : List β} (h : A2 R as bs) {cs : List α} {ds : List β} (g : A2 R cs ds) : A2 R (as ++ cs) (bs ++ ds) := by
  induction h with
  | nil => exact g
  | cons r _ ih => exact .cons r ih
theorem snoc {as : List α} {bs : List β} {a : α} {b : β} (h : A2 R as bs) (r : R a b) : A2 R (as ++ [a]) (bs ++ [b]) := h.app (.cons r .nil)
end A2
def sp6 (f : V → V → V → V → V → V → Hp → VK → XK → Prop) : Sp := fun vs H Q E => match vs with
  | [x, y, z, u, v, a] => f x y z u v a H Q E
  | _ => False
def sp7 (f : V → V → V → V → V → V → V → Hp → VK → XK → Prop) : Sp := fun vs H Q E => match vs with
  | [x, y, z, u, v, a, b] => f x y z u v a b H Q E
  | _ => False
open Lean Meta Simp
def xk : List Name := xZ ++ [`L2.fL, `Option.join]
def yj : List Name := yl ++ [`L2.zr, `L2.gSortT, `L2.sp5, `L2.sp6, `L2.sp7]
def zZ : Name → Bool
  | .str _ s => s.startsWith "sp_"
  | _ => false
end L2
set_option Elab.async false
set_option linter.all false
set_option maxRecDepth 100000
namespace L2
open PySem PyProof.Rows Builtin Builtin.Str
section
variable {X : Cx}
end
end L2
set_option Elab.async false
set_option linter.all false
set_option maxRecDepth 100000
namespace L2
open PySem PyProof.Rows
section
variable {prog : Program} {w : World} {A : Around} {E : Value → Shared → Prop} {s : Shared} {it d : Addr} {i ep : Nat} {od : Obj} {es : Array DictEntry}
theorem yn {Q : Value → Shared → Prop} (lo : (d == sysModules) = false) (ho : s.heap.get? d = some od) (ex : od.ExactDict) (hd : od.data = .dict es ep)
    (q : Q (.ref s.heap.objs.size) { s with heap := s.heap.push { cls := .type "dict_keyiterator", data := .fields #[.ref d, .int 0 0, .int es.size 0, .int ep 0] } }) : wpAny (model prog w) A (pyIter (.ref d)) Q E s := by
  have ty : s.TypeIs (.ref d) "dict" := ⟨od, ho, ex.1⟩
  refine wpAny_pyIter_slot ty F.slot_dict_iter (wpAny_call_entry F.slot_dict_iter ty F.entry_dict_iter ?_ (F.args_dict_iter_1 _))
  unfold Builtin.«dict.__iter__» Builtin.Dict.dictSlotNone
  refine wpAny_bind (wpAny_bind (wpAny_notOrdered_dict ty ?_)); show wpAny _ _ (pure (Value.ref d)) _ _ s
  refine wpAny_pure ?_; show wpAny _ _ (Builtin.Dict.showsAll d >>= _) _ _ s
  unfold Builtin.Dict.showsAll; rw [if_neg (by rw [lo]; exact Bool.false_ne_true)]
  refine wpAny_bind (wpAny_pure (wpAny_bind (wpAny_dictEntries ho hd (wpAny_bind (wpAny_dictEpoch ho hd ?_)))))
  refine wpAny_bind (wpAny_newObj_type (wpAny_pure ⟨_, rfl, "dict_keyiterator", _, ⟨_, Heap.get?_push_size _ rfl, rfl⟩, F.slot_dict_keyiterator_next.lookup, by simpa [rawInt] using q⟩))
theorem yd {e : DictEntry} {Q : Option Value → Shared → Prop} (hi : s.heap.IsKeyIter it d i es.size ep) (hod : s.heap.get? d = some od) (hdd : od.data = .dict es ep) (hx : es[i]? = some e)
    (q : ∀ h', h'.IsKeyIter it d (i + 1) es.size ep → Heap.SameBut it s.heap h' → Q (some e.key) { s with heap := h' }) : wpAny (model prog w) A (pyNext (.ref it)) Q E s := by
  obtain ⟨o, ho, hc, hd⟩ := id hi
  have ty := hi.typeIs
  unfold pyNext
  refine wpAny_bind (wpAny_attempt (wpAny_callSpecial?_slot (name := Str.ofString "__next__") ty F.slot_dict_keyiterator_next (wpAny_call_entry F.slot_dict_keyiterator_next ty F.entry_dict_keyiterator_next ?_ (F.args_dict_keyiterator_next_1 _))))
  refine wpAny_bind (wpAny_pure (wpAny_bind (wpAny_bind ?_)))
  first | refine wpAny_bind (wpAny_typeNameOfWhole_keyiter ty (wpAny_pure (wpAny_bind (wpAny_fieldsOf ho hd ?_)))) | refine wpAny_bind (wpAny_typeNameOf_keyiter ty (wpAny_pure (wpAny_bind (wpAny_fieldsOf ho hd ?_))))
  simp only [show Builtin.Dict_items.ownsTuple "dict_keyiterator" = false by decide, Bool.false_eq_true, if_false]
  show wpAny _ _ (if (Value.ref d == Value.none) = true then _ else _) _ _ s; rw [if_neg (show ¬ ((Value.ref d == Value.none) = true) from Bool.false_ne_true)]
  refine wpAny_bind (wpAny_pure (wpAny_bind (wpAny_dictEntries hod hdd ?_))); rw [if_neg (by simp)]
  refine wpAny_bind (wpAny_pure (wpAny_bind (wpAny_dictEpoch hod hdd ?_))); rw [if_neg (by simp)]
  refine wpAny_pure ?_
  have lt : i < es.size := (Array.getElem?_eq_some_iff.mp hx).1
  have ee : es[i] = e := (Array.getElem?_eq_some_iff.mp hx).2
  simp only [show ¬ ((i : Int) < 0) from by omega, if_false, Int.toNat_natCast, Array.getElem?_eq_getElem lt]; refine wpAny_bind ?_
  first | refine wpAny_bind (wpAny_typeNameOfWhole_keyiter ty (wpAny_pure (wpAny_bind (wpAny_isOneOf_keyiter ty ?_)))) | refine wpAny_bind (wpAny_typeNameOf_keyiter ty (wpAny_pure (wpAny_bind (wpAny_isOneOf_keyiter ty ?_))))
  show wpAny _ _ (setField (.ref it) 1 (rawInt ((i : Int) + 1)) >>= _) _ _ s; refine wpAny_bind (wpAny_setField ho hd (by simp) ?_)
  have hi' : (s.heap.update it (Obj.mapFields (·.setIfInBounds 1 (rawInt ((i : Int) + 1))))).IsKeyIter it d (i + 1) es.size ep := ⟨_, Heap.get?_update_self _ ho (Obj.isFreed_of_fields (Obj.data_mapFields hd _)), (Obj.cls_mapFields ..).trans hc, by rw [Obj.data_mapFields hd]; simp [rawInt]⟩
  refine wpAny_bind (wpAny_holding (wpAny_bind (wpAny_isOneOf_keyiter (s := { s with heap := s.heap.update it (Obj.mapFields (·.setIfInBounds 1 (rawInt ((i : Int) + 1)))) }) hi'.typeIs ?_)))
  show wpAny _ _ (pure es[i].key) _ _ _; rw [ee]
  exact wpAny_pure (wpAny_pure ⟨_, rfl, wpAny_pure (q _ hi' (Heap.SameBut.update ..))⟩)
theorem AJ {Q : Option Value → Shared → Prop} (hh : A.handled = none) (hi : s.heap.IsKeyIter it d i es.size ep) (hod : s.heap.get? d = some od) (hdd : od.data = .dict es ep) (hx : es.size ≤ i)
    (q : ∀ h', Heap.ExtBut it s.heap h' → Q none { s with heap := h' }) : wpAny (model prog w) A (pyNext (.ref it)) Q E s := by
  obtain ⟨o, ho, hc, hd⟩ := id hi
  have ty := hi.typeIs
  unfold pyNext
  refine wpAny_bind (wpAny_attempt (wpAny_callSpecial?_slot (name := Str.ofString "__next__") ty F.slot_dict_keyiterator_next (wpAny_call_entry F.slot_dict_keyiterator_next ty F.entry_dict_keyiterator_next ?_ (F.args_dict_keyiterator_next_1 _))))
  refine wpAny_bind (wpAny_pure (wpAny_bind (wpAny_bind ?_)))
  first | refine wpAny_bind (wpAny_typeNameOfWhole_keyiter ty (wpAny_pure (wpAny_bind (wpAny_fieldsOf ho hd ?_)))) | refine wpAny_bind (wpAny_typeNameOf_keyiter ty (wpAny_pure (wpAny_bind (wpAny_fieldsOf ho hd ?_))))
  simp only [show Builtin.Dict_items.ownsTuple "dict_keyiterator" = false by decide, Bool.false_eq_true, if_false]
  show wpAny _ _ (if (Value.ref d == Value.none) = true then _ else _) _ _ s; rw [if_neg (show ¬ ((Value.ref d == Value.none) = true) from Bool.false_ne_true)]
  refine wpAny_bind (wpAny_pure (wpAny_bind (wpAny_dictEntries hod hdd ?_))); rw [if_neg (by simp)]
  refine wpAny_bind (wpAny_pure (wpAny_bind (wpAny_dictEpoch hod hdd ?_))); rw [if_neg (by simp)]
  refine wpAny_pure ?_
  simp only [show ¬ ((i : Int) < 0) from by omega, if_false, Int.toNat_natCast, Array.getElem?_eq_none hx]; refine wpAny_bind ?_
  first | refine wpAny_bind (wpAny_typeNameOfWhole_keyiter ty (wpAny_pure ?_)) | refine wpAny_bind (wpAny_typeNameOf_keyiter ty (wpAny_pure ?_))
  show wpAny _ _ (setField (.ref it) 0 .none >>= _) _ _ s; refine wpAny_bind (wpAny_setField ho hd (by simp) ?_)
  show wpAny _ _ (newExc (.type "StopIteration") [] >>= _) _ _ _; refine wpAny_bind ?_
  simp only [newExc, newTuple]; refine wpAny_bind (wpAny_newObj_type ?_ (by size_fits))
  refine wpAny_bind (m := firstArgMember _ _) (wpAny_of_eq (a := Value.none) (by first | rfl | (simp only [firstArgMember]; rfl)) (wpAny_newObj_type ?_ (by size_fits)))
  simp only [raiseNew]; refine wpAny_bind (wpAny_handled ?_)
  rw [show A.in1.handled = none from hh]; refine wpAny_bind (wpAny_pure (wpAny_throw ?_))
  refine wpAny_bind (wpAny_isInstance (T := "StopIteration") (b := true) ⟨_, Heap.get?_push_size _ rfl, rfl⟩ isSubtype_stop (wpAny_pure (q _ (((Heap.SameBut.update ..).extBut.push _).push _))))
theorem ww (hh : A.handled = none) (I d : Addr) (ne : d ≠ I) (od : Obj) (es : Array DictEntry) (ep : Nat) (hdd : od.data = .dict es ep) :
    Walks prog w A I [I, d] [I] es.size (fun i v => ∃ e, es[i]? = some e ∧ v = e.key) (fun i h => h.IsKeyIter I d i es.size ep ∧ h.get? d = some od) where
  sub := fun b hb => by rw [List.mem_singleton.mp hb]; exact .head _
  frame := fun _ _ _ st hk => ⟨st.1.at fun o e => hk I (.head _) o e, hk d (.tail _ (.head _)) _ st.2⟩
  item := fun i s Q E hi st q => by
    have hx : es[i]? = some es[i] := by simp [hi]
    exact yd st.1 st.2 hdd hx fun h' a b => q _ h' s.toks ⟨_, hx, rfl⟩ ⟨a, (b.2 d ne).trans st.2⟩ fun c o hc z => (b.2 c fun y => hc (by rw [y]; exact .head _)).trans z
  done := fun s Q E st q => AJ hh st.1 st.2 hdd (Nat.le_refl _) fun h' b => q h' s.toks fun c o hc z => b c o (fun y => hc (by rw [y]; exact .head _)) z
  self := fun _ _ _ _ st q => wpAny_pyIter_keyiter st.1 q
theorem y6 (lo : (d == sysModules) = false) (ex : od.ExactDict) (hd : od.data = .dict es ep) : PySem.W.KdlSrc prog w "dict" d d es.size (fun i v => ∃ e, es[i]? = some e ∧ v = e.key) (fun h => h.get? d = some od) where
  type := fun _ h => ⟨od, h, ex.1⟩
  there := fun _ h => ⟨Heap.lt_size h, Heap.lt_size h⟩
  keep := fun _ _ h k => k d (.inl rfl) _ h
  notList := by decide
  notTuple := by decide
  hint := fun _ _ _ _ h q => PySem.W.kdl_hint_dict ⟨od, h, ex.1⟩ q
  iter := fun _ _ hh h => ⟨_, _, (fun _ _ q => yn lo h ex hd q), ww hh _ d (Nat.ne_of_lt (Heap.lt_size h)) od es ep hd, ⟨⟨_, Heap.get?_push_size _ rfl, rfl, rfl⟩, Heap.get?_push_of_some _ h⟩⟩
end
theorem wv {α : Type} {p q : α → Bool} (h : ∀ e, p e = true → q e = true) : ∀ {l : List α} {u : α}, u ∈ l → q u = true → p u = false → l.countP p < l.countP q
  | x :: r, u, m, hq, hp => by
    rw [List.countP_cons, List.countP_cons]
    have le : r.countP p ≤ r.countP q := List.countP_mono_left fun e _ => h e
    rcases List.mem_cons.mp m with rfl | m
    · rw [if_pos hq, if_neg (by rw [hp]; decide)]; omega
    · have := wv h m hq hp
      by_cases c : p x = true
      · rw [if_pos c, if_pos (h x c)]; omega
      · rw [if_neg c]; split <;> omega
abbrev Pt := List Nat × List Nat
def ltP (a b : Pt) : Prop := a.1 < b.1 ∨ (a.1 = b.1 ∧ a.2 < b.2)
instance (a b : Pt) : Decidable (ltP a b) := by unfold ltP; infer_instance
theorem rA (a : Pt) : ¬ ltP a a := fun h => h.elim (List.lt_irrefl _) fun h => List.lt_irrefl _ h.2
theorem u9 {a b c : Pt} (h : ltP a b) (g : ltP b c) : ltP a c := by
  unfold ltP at *
  rcases h with h | ⟨h1, h2⟩
  · rcases g with g | ⟨g1, g2⟩
    · exact .inl (List.lt_trans h g)
    · exact .inl (g1 ▸ h)
  · rcases g with g | ⟨g1, g2⟩
    · exact .inl (h1 ▸ g)
    · exact .inr ⟨h1.trans g1, List.lt_trans h2 g2⟩
theorem sU (a b : List Nat) : a < b ∨ a = b ∨ b < a := by
  by_cases h : a < b
  · exact .inl h
  · by_cases g : b < a
    · exact .inr (.inr g)
    · exact .inr (.inl (List.le_antisymm (List.not_lt.mp g) (List.not_lt.mp h)))
theorem sD (a b : Pt) : ltP a b ∨ a = b ∨ ltP b a := by
  obtain ⟨a1, a2⟩ := a
  obtain ⟨b1, b2⟩ := b
  rcases sU a1 b1 with h | rfl | h
  · exact .inl (.inl h)
  · rcases sU a2 b2 with h | rfl | h
    · exact .inl (.inr ⟨rfl, h⟩)
    · exact .inr (.inl rfl)
    · exact .inr (.inr (.inr ⟨rfl, h⟩))
  · exact .inr (.inr (.inl h))
def rnk (l : List Pt) (u : Pt) : Nat := l.countP fun e => decide (ltP e u)
theorem wb {l : List Pt} {u v : Pt} (mu : u ∈ l) (h : ltP u v) : rnk l u < rnk l v :=
  wv (fun e he => decide_eq_true (u9 (of_decide_eq_true he) h)) mu (decide_eq_true h) (decide_eq_false (rA u))
theorem jR {l : List Pt} {u v : Pt} (mu : u ∈ l) (mv : v ∈ l) : ltP u v ↔ (rnk l u : Int) < rnk l v := by
  refine ⟨fun h => by have := wb mu h; omega, fun h => ?_⟩
  rcases sD u v with g | rfl | g
  · exact g
  · exact absurd h (Int.lt_irrefl _)
  · have := wb mv g; omega
abbrev uz (l : List Pt) : Prop := l.Pairwise ltP
theorem jq : ∀ {a b : List Pt}, a.Perm b → uz a → uz b → a = b
  | [], _, p, _, _ => p.nil_eq
  | x :: r, b, p, ha, hb => by
    cases b with
    | nil => exact absurd p.length_eq (by simp)
    | cons y t =>
      have e : x = y := by
        rcases List.mem_cons.mp (p.mem_iff.mp (.head _)) with h | h
        · exact h
        · rcases List.mem_cons.mp (p.mem_iff.mpr (.head _)) with h' | h'
          · exact h'.symm
          · exact absurd (u9 ((List.pairwise_cons.mp ha).1 y h') ((List.pairwise_cons.mp hb).1 x h)) (rA x)
      subst e
      rw [jq (List.Perm.cons_inv p) (List.pairwise_cons.mp ha).2 (List.pairwise_cons.mp hb).2]
namespace Srt
def TwoS (h : Heap) (p : Addr) (e : Pt) : Prop := ∃ (o : Obj) (t u : Tok) (n : Nat), h.get? p = some o ∧ o.cls = .type "tuple" ∧ o.data = .seq #[.str ⟨⟨e.1⟩⟩ t, .str ⟨⟨e.2⟩⟩ u] n
section
variable {prog : Program} {w : World} {A : Around} {E : Value → Shared → Prop} {s : Shared}
theorem qx : ∀ (vs : List Value), (∀ v ∈ vs, ∃ p e, v = .ref p ∧ TwoS s.heap p e) → ∀ {Q : List (Option Value) → Shared → Prop}, (∀ fs ns, StrsAre fs ns → fs.length = vs.length → Q (fs.map some) s) →
    wpAny (model prog w) A (vs.mapM firstOfTuple') Q E s
  | [], _, Q, h => by rw [List.mapM_nil]; exact wpAny_pure (h [] [] .nil rfl)
  | v :: vs, hv, Q, h => by
    obtain ⟨p, e, rfl, o, t, u, n, ho, hc, hd⟩ := hv v (List.mem_cons_self ..)
    rw [List.mapM_cons]
    refine wpAny_bind ?_
    show wpAny _ _ (typeOf (.ref p) >>= _) _ _ s
    refine wpAny_bind (wpAny_typeOf (⟨o, ho, hc⟩ : s.TypeIs (.ref p) "tuple") ?_)
    rw [if_neg (by decide)]
    refine wpAny_bind (listItems_at ho hd (wpAny_pure ?_))
    show wpAny _ _ (vs.mapM firstOfTuple' >>= fun bs => pure (some (Value.str ⟨⟨e.1⟩⟩ t) :: bs)) Q E s
    exact wpAny_bind (qx vs (fun v hv' => hv v (List.mem_cons_of_mem _ hv')) fun fs ns hI hl => wpAny_pure (h (.str ⟨⟨e.1⟩⟩ t :: fs) (⟨⟨e.1⟩⟩ :: ns) (.cons _ t hI) (by simp [hl])))
theorem zt {vs : List Value} (hv : ∀ v ∈ vs, ∃ p e, v = .ref p ∧ TwoS s.heap p e) (h2 : 2 ≤ vs.length) {Q : SortKind → Shared → Prop} (h : Q (tuples' true) s) : wpAny (model prog w) A (keyKind' vs.toArray) Q E s := by
  rw [keyKind'_eq, List.mapM_toArray, map_eq_pure_bind]
  refine wpAny_bind (wpAny_bind (qx vs hv fun fs ns hI hl => wpAny_pure ?_))
  rw [if_pos (by simp)]
  refine wpAny_bind (wpAny_rule ?_)
  have e : (fs.map some).toArray.filterMap id = fs.toArray := by simp
  rw [e, oneTypeOnly'_eq, List.mapM_toArray, mapM_typeOf_strs hI]
  simp only [map_pure, pure_bind]
  have all : ((fs.map fun _ => Value.type "str").toArray.all fun x => x == Value.type "str") = true := by
    simp only [List.all_toArray, List.all_map, List.all_eq_true]
    exact fun _ _ => rfl
  have at0 : (fs.map fun _ => Value.type "str").toArray[0]? = some (Value.type "str") := by
    have : 0 < fs.length := by omega
    simp [this]
  rw [at0]
  simp only [all, if_true, pure_bind]
  exact wpAny_pure h
theorem wl {x y : List Nat} (h : x ≠ y) : decide ((⟨⟨x⟩⟩ : Str) = ⟨⟨y⟩⟩) = false := decide_eq_false fun z => h (by injection z with z; injection z)
theorem BH {p q : Addr} {a b : Pt} {Q : Bool → Shared → Prop} (hp : TwoS s.heap p a) (hq : TwoS s.heap q b) (h : Q (decide (ltP a b)) s) :
    wpAny (model prog w) A (keyLt' (tuples' true) (.ref p) (.ref q)) Q E s := by
  obtain ⟨x, y⟩ := a
  obtain ⟨x', y'⟩ := b
  obtain ⟨o, t, u, n, ho, hc, hd⟩ := hp
  obtain ⟨o', t', u', n', ho', hc', hd'⟩ := hq
  show wpAny _ _ (Builtin.List.listItems (.ref p) >>= fun xs => Builtin.List.listItems (.ref q) >>= fun ys => _) _ _ s
  refine wpAny_bind (listItems_at ho hd (wpAny_bind (listItems_at ho' hd' ?_)))
  show wpAny _ _ (forIn [((Value.str ⟨⟨x⟩⟩ t, Value.str ⟨⟨x'⟩⟩ t'), 0), ((Value.str ⟨⟨y⟩⟩ u, Value.str ⟨⟨y'⟩⟩ u'), 1)] (none, ()) _ >>= _) _ _ s
  rw [List.forIn_cons]
  refine wpAny_bind (wpAny_bind (wpAny_bind (wpAny_eqBool_str ?_)))
  by_cases e : x = x'
  · subst e
    simp only [decide_true, Bool.not_true, Bool.false_eq_true, if_false]
    refine wpAny_pure ?_
    simp only [List.forIn_cons]
    refine wpAny_bind (wpAny_bind (wpAny_eqBool_str ?_))
    by_cases e2 : y = y'
    · subst e2
      simp only [decide_true, Bool.not_true, Bool.false_eq_true, if_false]
      refine wpAny_pure ?_
      simp only [List.forIn_nil]
      refine wpAny_pure (wpAny_pure ?_)
      rw [decide_eq_false (rA _)] at h
      exact h
    · simp only [wl e2, Bool.not_false, if_true]
      refine wpAny_bind ?_
      show wpAny _ _ (oneLt' false (.str ⟨⟨y⟩⟩ u) (.str ⟨⟨y'⟩⟩ u')) _ _ s
      rw [oneLt'_eq]
      simp only [Bool.false_eq_true, if_false]
      refine wpAny_bind (PySem.P.lt_str (wpAny_truthy_bool (wpAny_pure (wpAny_pure (wpAny_pure ?_)))))
      rw [show decide (ltP (x, y) (x, y')) = decide (y < y') from decide_eq_decide.mpr ⟨fun z => z.elim (fun z => absurd z (List.lt_irrefl _)) (·.2), fun z => .inr ⟨rfl, z⟩⟩] at h
      exact h
  · simp only [wl e, Bool.not_false, if_true]
    refine wpAny_bind ?_
    show wpAny _ _ (oneLt' true (.str ⟨⟨x⟩⟩ t) (.str ⟨⟨x'⟩⟩ t')) _ _ s
    refine oneLt_str (wpAny_pure (wpAny_pure (wpAny_pure ?_)))
    rw [show decide (ltP (x, y) (x', y')) = decide (x < x') from decide_eq_decide.mpr ⟨fun z => z.elim id fun z => absurd z.1 e, .inl⟩] at h
    exact h
theorem cmp_S {h : Heap} {os : OsState} {vs : List Value} {κ : Value → Int} {f : Value → Pt} (h2 : 2 ≤ vs.length) (hv : ∀ v ∈ vs, ∃ p, v = .ref p ∧ TwoS h p (f v)) (hk : ∀ u ∈ vs, ∀ v ∈ vs, (ltP (f u) (f v) ↔ κ u < κ v)) : Cmp prog w h os (tuples' true) κ vs where
  kind A E s Q e q := by
    subst e
    exact zt (fun v m => let ⟨p, a, b⟩ := hv v m; ⟨p, _, a, b⟩) h2 q
  lt A E s u v Q e mu mv q := by
    subst e
    obtain ⟨p, rfl, b⟩ := hv u mu
    obtain ⟨p', rfl, b'⟩ := hv v mv
    refine BH b b' ?_
    rwa [decide_eq_decide.mpr (hk _ mu _ mv)]
end
end Srt
section
variable {X : Cx} {pins : List (Addr × Obj)} {σ : St} {H : Hp} {s : Shared}
abbrev tP (e : Pt) : List V := [T e.1, T e.2]
abbrev kP (e : Pt) : List Key := [.inr ⟨⟨e.1⟩⟩, .inr ⟨⟨e.2⟩⟩]
theorem A6 (e : Pt) : (kP e).map kV = tP e := rfl
theorem oX {a b : Pt} (h : kP a = kP b) : a = b := by
  obtain ⟨a1, a2⟩ := a
  obtain ⟨b1, b2⟩ := b
  simp only [kP, List.cons.injEq, and_true] at h
  obtain ⟨h1, h2⟩ := h
  injection h1 with h1; injection h1 with h1; injection h1 with h1
  injection h2 with h2; injection h2 with h2; injection h2 with h2
  rw [h1, h2]
theorem Au {a b : Pt} (h : tP a = tP b) : a = b := oX (tD (by rw [A6, A6, h]))
abbrev KAt (H : Hp) (a : Addr) (e : Pt) : Prop := H a = some (.tup (tP e))
theorem A0 {H : Hp} {kvs : List (List Key × V)} {xs : List (List Key × Addr × Value)} (r : KT H kvs xs) : ∀ {ks : List Pt}, kvs.map (·.1) = ks.map kP →
    ∃ ps : List (Addr × Pt), ps.map (·.2) = ks ∧ xs.map (fun x => Value.ref x.2.1) = ps.map (fun e => Value.ref e.1) ∧ (xs.map (·.1) = ks.map kP) ∧ ∀ e ∈ ps, KAt H e.1 e.2 := by
  induction r with
  | nil =>
    intro ks h
    cases ks with
    | nil => exact ⟨[], rfl, rfl, rfl, fun _ m => nomatch m⟩
    | cons => simp at h
  | @cons p q ps qs h t ih =>
    intro ks e
    cases ks with
    | nil => simp at e
    | cons k ks =>
      rw [List.map_cons, List.map_cons] at e
      injection e with e1 e2
      obtain ⟨l, a1, a2, a3, a4⟩ := ih e2
      obtain ⟨h1, h2, _⟩ := h
      rw [e1] at h1 h2
      refine ⟨(q.2.1, k) :: l, by rw [List.map_cons, a1], by rw [List.map_cons, List.map_cons, a2], by rw [List.map_cons, List.map_cons, a3, h1], fun z m => ?_⟩
      rcases List.mem_cons.mp m with rfl | m
      · exact h2
      · exact a4 z m
def fOf (ps : List (Addr × Pt)) : Value → Pt
  | .ref a => ((ps.find? fun e => e.1 == a).map (·.2)).getD ([], [])
  | _ => ([], [])
theorem wz {H : Hp} {ps : List (Addr × Pt)} (hp : ∀ e ∈ ps, KAt H e.1 e.2) {e : Addr × Pt} (m : e ∈ ps) : fOf ps (.ref e.1) = e.2 := by
  show ((ps.find? fun z => z.1 == e.1).map (·.2)).getD ([], []) = e.2
  cases f : ps.find? fun z => z.1 == e.1 with
  | none => exact absurd (List.find?_eq_none.mp f e m) (by simp)
  | some z =>
    have e1 : z.1 = e.1 := by simpa using List.find?_some f
    have t1 := hp z (List.mem_of_find?_eq_some f)
    have t2 := hp e m
    rw [e1] at t1
    have t3 := t1.symm.trans t2
    injection t3 with t3; injection t3 with t3
    exact Au t3
theorem yz {H : Hp} {ps : List (Addr × Pt)} (hp : ∀ e ∈ ps, KAt H e.1 e.2) : ∀ {out : List Value}, (∀ v ∈ out, v ∈ ps.map fun e => Value.ref e.1) → ∃ as : List Addr, Vals (as.map V.ref) out ∧ A2 (KAt H) as (out.map (fOf ps))
  | [], _ => ⟨[], .nil, .nil⟩
  | v :: out, h => by
    obtain ⟨as, a1, a2⟩ := yz hp fun u m => h u (List.mem_cons_of_mem _ m)
    obtain ⟨e, m, rfl⟩ := List.mem_map.mp (h v (List.mem_cons_self ..))
    refine ⟨e.1 :: as, .cons rfl a1, ?_⟩
    rw [List.map_cons, wz hp m]
    exact .cons (hp e m) a2
theorem Inv.twoS (I : Inv X pins σ H s) {p : Addr} {e : Pt} (h : KAt H p e) : Srt.TwoS s.heap p e := by
  obtain ⟨_, its, r, o, ho, hc, n, hd⟩ := (show ObjOk X.prog X.w H s.heap p (.tup (tP e)) from I.hok p _ h)
  match its, r with
  | [a, b], .cons r1 (.cons r2 .nil) =>
    obtain ⟨t, rfl⟩ := r1
    obtain ⟨u, rfl⟩ := r2
    exact ⟨o, t, u, n, ho, hc, hd⟩
theorem Srt.TwoS.keep {h h' : Heap} {p : Addr} {e : Pt} (x : Srt.TwoS h p e) (k : ∀ b o, h.get? b = some o → h'.get? b = some o) : Srt.TwoS h' p e := by
  obtain ⟨o, t, u, n, ho, r⟩ := x
  exact ⟨o, t, u, n, k _ _ ho, r⟩
def nR : List V → Hp → VK → Prop
  | [.ref d], H, Q => ∃ (kvs : List (List Key × V)) (ks : List Pt), H d = some (.dT kvs) ∧ kvs.map (·.1) = ks.map kP ∧ ks.length < 64 ∧
      ∀ (out : List Pt) (as : List Addr), out.Perm ks → uz out → A2 (KAt H) as out → ∀ l, H l = none → Q (.ref l) (upd H l (.lst (as.map V.ref)))
  | _, _, _ => False
theorem mL (hc : X.calm = true) : CallR X (.builtin "sorted") nR := by
  intro pins s σ H xs us Q I r h
  unfold nR at h
  split at h
  · rename_i d
    obtain ⟨kvs, ks, hd, hks, h64, q⟩ := h
    obtain ⟨u, rfl, rx⟩ := fG r
    cases (show u = Value.ref d from rx)
    obtain ⟨z, lo, xs, rel, o, es, ep, ho, ex, hdat, he, _, hn⟩ := yB I.hok hd
    obtain ⟨ps, p1, p2, p3, p4⟩ := A0 rel hks
    have ndk : ks.Nodup := by
      rw [p3] at hn
      exact (List.pairwise_map.mp hn).imp fun h e => h (by rw [e])
    have len : es.size = ks.length := by
      rw [← Array.length_toList, he, List.length_map, ← List.length_map (f := fun x => Value.ref x.2.1), p2, List.length_map, ← List.length_map (f := (·.2)), p1]
    refine Calls.call_function_entry kind_sorted plain_sorted entry_sorted (args_sorted1 _) ?_
    unfold Builtin.«sorted»
    refine wpAny_bind (m := checkCount "sorted" 1 1 _) (wpAny_pure ?_)
    refine wpAny_bind (PySem.W.kdu_collect (y6 lo ex hdat) (I.ok.hd hc) ho (by rw [len, sizeLine_eq]; omega) fun h' tk acc kp it => ?_)
    have ea : acc.toList = ps.map fun e => Value.ref e.1 := by
      rw [← p2]
      have ek : xs.map (fun x => Value.ref x.2.1) = es.toList.map (·.key) := by rw [he, List.map_map]; rfl
      rw [ek]
      refine List.ext_getElem? fun j => ?_
      rw [List.getElem?_map, Array.getElem?_toList, Array.getElem?_toList]
      cases ej : acc[j]? with
      | none =>
        have : acc.size ≤ j := Array.getElem?_eq_none_iff.mp ej
        rw [it.1] at this
        rw [Array.getElem?_eq_none this]; rfl
      | some v =>
        obtain ⟨e, g1, g2⟩ := it.2 j v ej
        rw [g1, g2]; rfl
    have inv : ∀ e ∈ ps, fOf ps (.ref e.1) = e.2 := fun e m => wz p4 m
    have em : (ps.map fun e => Value.ref e.1).map (fOf ps) = ks := by
      rw [List.map_map, ← p1]
      exact List.map_congr_left fun e m => inv e m
    have mk : ∀ v ∈ ps.map (fun e => Value.ref e.1), fOf ps v ∈ ks := fun v m => by rw [← em]; exact List.mem_map_of_mem m
    have nd : ((ps.map fun e => Value.ref e.1).map fun v => (rnk ks (fOf ps v) : Int)).Nodup := by
      rw [show (ps.map fun e => Value.ref e.1).map (fun v => (rnk ks (fOf ps v) : Int)) = ((ps.map fun e => Value.ref e.1).map (fOf ps)).map (fun e => (rnk ks e : Int)) by simp only [List.map_map]; rfl, em]
      refine List.pairwise_map.mpr (List.Pairwise.imp_of_mem (fun {a b} ma mb ne e => ?_) ndk)
      rcases sD a b with g | g | g
      · have := (jR ma mb).mp g; omega
      · exact ne g
      · have := (jR mb ma).mp g; omega
    have lv : (ps.map fun e => Value.ref e.1).length < 64 := by rw [List.length_map, ← List.length_map (f := (·.2)), p1]; exact h64
    rw [ea]
    refine wpAny_bind (wpAny_newList ?_ (by rw [sizeLine_eq]; omega))
    have hoL : (h'.push (seqObj "list" (ps.map fun e => Value.ref e.1).toArray 0)).get? h'.objs.size = some (seqObj "list" (ps.map fun e => Value.ref e.1).toArray 0) := Heap.get?_push_size _ rfl
    have kL : ∀ b ob, s.heap.get? b = some ob → (((h'.push (seqObj "list" (ps.map fun e => Value.ref e.1).toArray 0)).update h'.objs.size (Obj.mapSeq fun _ => #[])).push (seqObj "tuple" (ps.map fun e => Value.ref e.1).toArray 0) |>.push (seqObj "list" #[] 0)).get? b = some ob := fun b ob e => by
      have l1 := Heap.lt_size (kp _ _ e)
      refine Heap.get?_push_of_some _ (Heap.get?_push_of_some _ ?_)
      rw [Heap.get?_update_ne _ _ _ _ (Nat.ne_of_lt l1)]
      exact Heap.get?_push_of_some _ (kp _ _ e)
    refine wpAny_bind (wpAny_holding (wpAny_call_entry slot_list_sort ⟨_, hoL, rfl⟩ entry_list_sort (Srt.sort_by (kd := tuples' true) (κ := fun v => (rnk ks (fOf ps v) : Int)) hoL lv nd (fun h2 => Srt.cmp_S (f := fOf ps) h2 (fun v m => ?_) fun u mu v mv => jR (mk u mu) (mk v mv)) fun out pm sr => ⟨_, rfl, ?_⟩) (args_list_sort _)))
    · obtain ⟨e, me, rfl⟩ := List.mem_map.mp m
      refine ⟨e.1, rfl, ?_⟩
      rw [inv e me]
      exact (I.twoS (p4 e me)).keep kL
    · refine wpAny_pure ⟨_, rfl, ?_⟩
      obtain ⟨c, el⟩ := sortedHeap_at (out := out.toArray) hoL
      have I1 : Inv X pins σ H { s with heap := h', toks := tk } := I.kept kp
      have kp2 : ∀ b o, h'.get? b = some o → (sortedHeap (h'.push (seqObj "list" (ps.map fun e => Value.ref e.1).toArray 0)) h'.objs.size (ps.map fun e => Value.ref e.1) out.toArray).get? b = some o := fun b o e => by
        have l1 := Heap.lt_size e
        rw [sortedHeap_old (Nat.ne_of_lt l1) (by rw [size_push']; exact Nat.lt_succ_of_lt l1), Heap.get?_push_ne _ _ _ (Nat.ne_of_lt l1)]
        exact e
      obtain ⟨as, a1, a2⟩ := yz p4 (out := out) fun v m => pm.mem_iff.mp m
      have po : (out.map (fOf ps)).Perm ks := by have := pm.map (fOf ps); rwa [em] at this
      have so : uz (out.map (fOf ps)) := List.pairwise_map.mpr (List.Pairwise.imp_of_mem (fun {a b} ma mb l => (jR (mk a (pm.mem_iff.mp ma)) (mk b (pm.mem_iff.mp mb))).mpr l) sr)
      refine ⟨.ref h'.objs.size, _, I1.laid (t' := tk) (a := h'.objs.size) kp2 (Nat.le_refl _) (show ObjOk X.prog X.w _ _ _ (.lst (as.map V.ref)) from ⟨?_, out, c, a1, el⟩), rfl, q _ as po so a2 _ (I1.hok.fresh (Nat.le_refl _))⟩
      have := a1.length
      have := pm.length_eq
      rw [sizeLine_eq]; omega
  · exact h.elim
def yx : V → List V → Hp → VK → Prop := fun x vs H Q => ∃ l b xs zs, x = .ref l ∧ vs = [.ref b] ∧ H l = some (.lst xs) ∧ H b = some (.tup zs) ∧ xs.length + zs.length ≤ sizeLine ∧ Q .non (upd H l (.lst (xs ++ zs)))
theorem xR : MtM X "list.extend" yx := by
  intro pins s σ H x vs v us Q I rx rv h
  obtain ⟨l, b, xs, zs, rfl, rfl, hH, hB, hz, q⟩ := h
  cases rx
  obtain ⟨u, rfl, ru⟩ := rv.one
  cases ru
  obtain ⟨z, its, n, r, hl, e⟩ := I.lstM hH
  obtain ⟨z2, its2, r2, ⟨ob, eb, cb, n2, db⟩⟩ := (show ObjOk X.prog X.w H s.heap b (.tup zs) from I.hok b _ hB)
  have hl2 := r2.length
  have fin : Inv X pins σ (upd H l (.lst (xs ++ zs))) { s with heap := s.heap.update l (Obj.mapSeq (· ++ its2.toArray)) } := I.lset (its' := its ++ its2) hH e (by simp) (r.append r2) (by rw [List.length_append]; omega)
  refine wpAny_call_entry F.slot_list_extend ⟨_, e, rfl⟩ F.entry_list_extend ?_ (F.args_list_extend_2 _ _)
  show wpAny _ _ (Builtin.List.listExtendWith (.ref l) (.ref b) .none) _ _ s
  unfold Builtin.List.listExtendWith
  refine wpAny_bind (wpAny_typeOf ⟨ob, eb, cb⟩ ?_)
  rw [if_pos (by rw [show (Value.type "tuple" == Value.type "tuple") = true by decide, Bool.or_true])]
  refine wpAny_bind (listItems_at eb db (wpAny_bind (listItems_at e rfl ?_)))
  have hsz : its.toArray.size + its2.toArray.size ≤ sizeLine := by rw [List.size_toArray, List.size_toArray]; omega
  rw [if_neg (by rw [pC hsz, Bool.and_false]; exact Bool.false_ne_true)]
  refine wpAny_bind (listUpdate_at e rfl ?_ (hsz := by rw [List.size_toArray]; omega) (hsz2 := by rw [Array.size_append]; omega))
  exact wpAny_pure ⟨_, rfl, .non, _, fin, rfl, q⟩
end
def CEl (J : It) (n : Nat) (g : TG) (ks : List Nat) (tt : TT) (te : TE) (σ : St) (H1 : Hp) (Q : VK) : Prop := ∀ D, H1 D = none → ∃ W : Nat → Nat → List V → Hp → Prop, (∃ m, W 0 m [] (upd H1 D (.lst []))) ∧
  ∀ i m ys H2, W i m ys H2 → H2 D = some (.lst ys) ∧ ((J.stop i H2 ∧ Q (.ref D) H2) ∨ (J.go i H2 ∧ ∀ x H3, J.yld i H2 x H3 → ∀ zs : St, zs.length = n →
    g x (zs ++ ks.map fun k => (σ[k]?).join) H3 fun σ4 H4 => (∃ zs4 : St, zs4.length = n ∧ σ4 = zs4 ++ ks.map fun k => (σ[k]?).join) ∧
      tt σ4 H4 fun b H5 => if b = true then te σ4 H5 fun y H6 => H6 D = some (.lst ys) ∧ ys.length < sizeLine ∧ ∃ m', m' < m ∧ W (i + 1) m' (ys ++ [y]) (upd H6 D (.lst (ys ++ [y])))
        else ∃ m', m' < m ∧ W (i + 1) m' ys H5))
theorem uX {K : PySem.W.Frag} {tl : TE} {n : Nat} {g : TG} {ks : List Nat} {tt : TT} {te : TE} {σ : St} {H : Hp} {Q : VK} (h : tl σ H fun x H1 => ∃ a, x = .ref a ∧ (∃ xs, SqL K H1 a xs) ∧ CEl (Itl K a) n g ks tt te σ H1 Q) : hR (ku K tl) n g ks tt te σ H Q := h
theorem uZ {K : PySem.W.Frag} {n : Nat} {g : TG} {ks : List Nat} {tt : TT} {te : TE} {σ : St} {H1 : Hp} {Q : VK} (a : Addr) (xs : List V) (P : Addr → Nat → List V → Hp → Prop) (hz : xs.length < sizeLine)
    (h0 : ∀ D, H1 D = none → P D 0 [] (upd H1 D (.lst []))) (hD : ∀ D i ys H', P D i ys H' → H' D = some (.lst ys) ∧ SqL K H' a xs ∧ ys.length ≤ i)
    (hs : ∀ D i y ys H' (zs : St) (N1 : VK) (N0 : Hp → Prop), xs[i]? = some y → P D i ys H' → zs.length = n → (∀ v H6, H6 D = some (.lst ys) → P D (i + 1) (ys ++ [v]) (upd H6 D (.lst (ys ++ [v]))) → N1 v H6) → (∀ H6, P D (i + 1) ys H6 → N0 H6) →
      g y (zs ++ ks.map fun k => (σ[k]?).join) H' fun σ4 H4 => (∃ zs4 : St, zs4.length = n ∧ σ4 = zs4 ++ ks.map fun k => (σ[k]?).join) ∧ tt σ4 H4 fun b H5 => if b = true then te σ4 H5 N1 else N0 H5)
    (hd : ∀ D ys H', P D xs.length ys H' → Q (.ref D) H') : CEl (Itl K a) n g ks tt te σ H1 Q := by
  intro D hDn
  refine ⟨fun i m ys H' => m = xs.length - i ∧ i ≤ xs.length ∧ P D i ys H', ⟨_, rfl, Nat.zero_le _, h0 D hDn⟩, ?_⟩
  rintro i m ys H' ⟨rfl, hi, p⟩
  obtain ⟨d1, d2, d3⟩ := hD D i ys H' p
  refine ⟨d1, ?_⟩
  rcases Nat.lt_or_ge i xs.length with lt | ge
  · refine .inr ⟨⟨xs, xs[i], d2, by simp [lt]⟩, ?_⟩
    rintro x H3 ⟨rfl, hx⟩ zs hzs
    exact hs D i x ys _ zs _ _ (hx xs d2) p hzs (fun v H6 h6 p6 => ⟨h6, by omega, _, by omega, rfl, lt, p6⟩) fun H6 p6 => ⟨_, by omega, rfl, lt, p6⟩
  · obtain rfl : i = xs.length := Nat.le_antisymm hi ge
    exact .inl ⟨⟨xs, d2, Nat.le_refl _⟩, hd D ys H' p⟩
section
variable {X : Cx} {pos : Pos}
def yJ (i j k : Nat) (ta : TA) : TS := fun D σ H => ta σ H fun vs H1 => ∃ v w z, vs = [v, w, z] ∧ D.nx (((σ.set i (some v)).set j (some w)).set k (some z)) H1
theorem xx {i j k : Nat} {x y n : Str} {a b c : Expr} {ta : TA} {px py pz pt : Pos} {kt k2 pt2} (hc : X.calm = true) (hN : X.N.Nodup) (hi : X.N[i]? = some x) (hj : X.N[j]? = some y) (hk : X.N[k]? = some n) (hij : i ≠ j) (hik : i ≠ k) (hjk : j ≠ k)
    (hx : X.env.scope.names.lookup x = some .local) (hy : X.env.scope.names.lookup y = some .local) (hn : X.env.scope.names.lookup n = some .local) (ha : PA X [a, b, c] ta)
    (hw : swappedStores [.Tuple [.Name x px, .Name y py, .Name n pz] kt pt] (.Tuple [a, b, c] k2 pt2) X.env = pure (some [x, y, n]))
    (hs : swapsWithSole [.Tuple [.Name x px, .Name y py, .Name n pz] kt pt] (.Tuple [a, b, c] k2 pt2) pos.line X.env = pure false := by rfl) :
    PS X (.Assign [.Tuple [.Name x px, .Name y py, .Name n pz] kt pt] (.Tuple [a, b, c] k2 pt2) pos) (yJ i j k ta) := by
  intro pins s σ H D I h
  rw [exec_Assign_arm]
  refine wpAny_bind (wpAny_standAt ?_)
  rw [hs]
  refine wpAny_bind (wpAny_pure ?_)
  rw [if_neg (by decide)]
  refine wpAny_bind (Tuple_ (thn (ha _ pins s σ H _ I h) fun us s1 ⟨vs, H1, I1, r1, q1⟩ => ?_))
  obtain ⟨v, w, z, e1, q1⟩ := q1
  subst e1
  obtain ⟨u1, u2, u3, rfl, r1, r2, r3⟩ : ∃ u1 u2 u3, us = [u1, u2, u3] ∧ RelV v u1 ∧ RelV w u2 ∧ RelV z u3 := by
    cases r1 with
    | cons p q =>
      cases q with
      | cons p' q =>
        cases q with
        | cons p'' q =>
          cases q
          exact ⟨_, _, _, rfl, p, p', p''⟩
  · refine wpAny_newObj_type ?_ (by show 3 ≤ sizeLine; decide)
    have I2 : Inv X pins σ H1 { s1 with heap := s1.heap.push { cls := .type "tuple", data := .seq [u1, u2, u3].toArray } } := I1.kept (t' := s1.toks) fun b o e => Heap.get?_push_of_some _ e
    rw [hw]
    refine wpAny_bind (wpAny_pure ?_)
    show wpAny (model X.prog X.w) X.A (do rule "assign.swapped-stores"; let items ← unpackItems (.ref s1.heap.objs.size) 3 none; assignInOrder [fun v => bindName X.env n v, fun v => bindName X.env y v, fun v => bindName X.env x v] items.reverse; pure Flow.next) _ _ _
    refine wpAny_bind (wpAny_rule (wpAny_bind (unpackItems_tuple (items := #[u1, u2, u3]) (I.ok.hd hc) (IsTup.new s1.heap _) fun h' hx' => ?_)))
    have I3 := I2.kept (h' := h') (t' := s1.toks) fun b o e => hx' b o (Nat.ne_of_lt (Heap.lt_size e)) e
    show wpAny _ _ (assignInOrder [fun v => bindName X.env n v, fun v => bindName X.env y v, fun v => bindName X.env x v] [u3, u2, u1] >>= fun _ => pure Flow.next) _ _ _
    refine wpAny_bind (assignInOrder_cons (wpAny_bindName (gj I3 hN hk (.inl hn) r3 (fun s2 I4 => ?_) (.inr hn))))
    refine assignInOrder_cons (wpAny_bindName (gj I4 hN hj (.inl hy) r2 (fun s3 I5 => ?_) (.inr hy)))
    refine assignInOrder_cons (wpAny_bindName (gj I5 hN hi (.inl hx) r1 (fun s4 I6 => assignInOrder_nil (wpAny_pure ?_)) (.inr hx)))
    rw [List.set_comm _ _ (Ne.symm hjk), List.set_comm _ _ (Ne.symm hik), List.set_comm _ _ (Ne.symm hij)] at I6
    exact ⟨_, H1, I6, q1⟩
end
open Lean Meta Simp
def yo : List Name := xk ++ [`L2.vG, `L2.yx, `L2.yJ]
def xq : List Name := yj ++ [`L2.nR, `L2.gRp]
def yk (e : Lean.Expr) : MetaM (Option Lean.Expr) := do
  let .const n us := e.getAppFn | return none
  let fr := zZ n || yo.contains n
  unless fr || xq.contains n do return none
  let some (.defnInfo d) := (← getEnv).find? n | return none
  let v := d.value.instantiateLevelParams d.levelParams us
  if e.getAppNumArgs < v.getNumHeadLambdas then return none
  let b := v.beta e.getAppArgs
  if fr then return some b
  match ← reduceMatcher? b with
  | .reduced r => return some r
  | .notMatcher => return some b
  | _ => return none
dsimproc_decl v8 (_) := fun e => do
  match ← yk e with
  | some r => return .visit r
  | none => return .continue
end L2
set_option Elab.async false
set_option linter.all false
namespace K19
open PySem L2
structure Row where
  pa : List Nat
  cu : List Nat
  am : Int
structure Bk where
  k : Int
  d : Int
  rs : List Row
def sg (a s : Int) (k : Nat) : Nat := 97 + ((a + s * k) % 26).toNat
def wd (a s : Int) (n : Nat) : List Nat := (List.range n).map fun k => sg a s k
def nms (c : Int) (k : Nat) : List Nat :=
  if k < 6 then (wd (c / 250) (1 + c / 10 % 25) (1 + c % 10).toNat).take (c / 6500 % (1 + c % 10 + 1)).toNat ++ [97 + ((c / 71500 + 3 * k) % 26).toNat] ++ (wd (c / 250) (1 + c / 10 % 25) (1 + c % 10).toNat).drop (c / 6500 % (1 + c % 10 + 1)).toNat
  else wd (c / 250) (1 + c / 10 % 25) (1 + c % 10).toNat
theorem BA (a s : Int) (k : Nat) : 97 ≤ sg a s k ∧ sg a s k ≤ 122 := by unfold sg; omega
theorem kA {c : Int} {k : Nat} : 1 ≤ (nms c k).length ∧ (nms c k).length ≤ 11 ∧ ∀ x ∈ nms c k, 97 ≤ x ∧ x ≤ 122 := by
  have hw : (wd (c / 250) (1 + c / 10 % 25) (1 + c % 10).toNat).length = (1 + c % 10).toNat := by simp [wd]
  have hx : ∀ x ∈ wd (c / 250) (1 + c / 10 % 25) (1 + c % 10).toNat, 97 ≤ x ∧ x ≤ 122 := fun x hx => by
    obtain ⟨k, _, rfl⟩ := List.mem_map.mp hx; exact BA _ _ _
  unfold nms
  generalize wd (c / 250) (1 + c / 10 % 25) (1 + c % 10).toNat = w at hw hx
  split
  · refine ⟨by simp; omega, by simp [List.length_take, List.length_drop]; omega, fun x hm => ?_⟩
    rcases List.mem_append.mp hm with h | h
    · rcases List.mem_append.mp h with h | h
      · exact hx x (List.mem_of_mem_take h)
      · rw [List.mem_singleton.mp h]; omega
    · exact hx x (List.mem_of_mem_drop h)
  · exact ⟨by omega, by omega, hx⟩
theorem Af (c : Int) : nms c 0 ≠ nms c 6 := fun h => by
  have := congrArg List.length h
  unfold nms at this
  rw [if_pos (by decide), if_neg (by decide)] at this
  simp [List.length_take, List.length_drop] at this
  omega
inductive il (c : Int) : List (List Nat) → Prop
  | two : il c [nms c 0, nms c 6]
  | more {ps : List (List Nat)} {u : List Nat} {k : Nat} : il c ps → u ∈ ps → u ++ 58 :: nms c k ∉ ps → (spN 58 u).length ≤ 5 → il c (ps ++ [u ++ 58 :: nms c k])
def uY (d : List (Pt × Int)) (k : Pt) (v : Int) : List (Pt × Int) := if (d.any fun e => decide (e.1 = k)) = true then d.map (fun e => if e.1 = k then (e.1, v) else e) else d ++ [(k, v)]
def ql (d : List (Pt × Int)) (k : Pt) : Option Int := (d.find? fun e => decide (e.1 = k)).map (·.2)
def gQ (e : Pt × Int) : List Key × V := (kP e.1, .int e.2)
theorem xY (e : Pt × Int) (k : Pt) : decide ((gQ e).1 = kP k) = decide (e.1 = k) := decide_eq_decide.mpr ⟨fun h => oX h, fun h => by show kP e.1 = kP k; rw [h]⟩
theorem qg (d : List (Pt × Int)) (k : Pt) (v : Int) : gp (d.map gQ) (kP k) (.int v) = (uY d k v).map gQ := by
  unfold gp uY
  have e1 : ((d.map gQ).any fun kv => decide (kv.1 = kP k)) = d.any fun e => decide (e.1 = k) := by
    rw [List.any_map]
    exact congrArg (d.any ·) (funext fun e => xY e k)
  rw [e1]
  split
  · rw [List.map_map, List.map_map]
    apply List.map_congr_left
    intro e _
    show (if (gQ e).1 = kP k then ((gQ e).1, V.int v) else gQ e) = gQ (if e.1 = k then (e.1, v) else e)
    by_cases h : e.1 = k
    · rw [if_pos h, if_pos (by show kP e.1 = kP k; rw [h])]; rfl
    · rw [if_neg h]; exact if_neg fun z => h (oX z)
  · rw [List.map_append]; rfl
theorem fT (k : Pt) : ∀ d : List (Pt × Int), h_ (d.map gQ) (kP k) = (ql d k).map V.int
  | [] => rfl
  | e :: r => by
    have ih := fT k r
    by_cases h : e.1 = k
    · rw [List.map_cons, gh (by show kP e.1 = kP k; rw [h])]
      simp [ql, h, gQ]
    · rw [List.map_cons, gb (fun z => h (oX z)), ih]
      simp [ql, h]
def stp (d : List (Pt × Int)) (r : Row) : List (Pt × Int) := uY d (r.pa, r.cu) ((ql d (r.pa, r.cu)).getD 0 + r.am)
def dk (rs : List Row) : List (Pt × Int) := rs.foldl stp []
theorem oV (rs : List Row) (r : Row) : dk (rs ++ [r]) = stp (dk rs) r := by unfold dk; rw [List.foldl_append]; rfl
theorem uM (d : List (Pt × Int)) (k : Pt) (v : Int) : (uY d k v).map (·.1) = if k ∈ d.map (·.1) then d.map (·.1) else d.map (·.1) ++ [k] := by
  unfold uY
  have e : ((d.any fun e => decide (e.1 = k)) = true) ↔ k ∈ d.map (·.1) := by
    rw [List.any_eq_true]
    constructor
    · rintro ⟨x, hx, h⟩; exact List.mem_map.mpr ⟨x, hx, of_decide_eq_true h⟩
    · intro h
      obtain ⟨x, hx, h⟩ := List.mem_map.mp h
      exact ⟨x, hx, decide_eq_true h⟩
  by_cases h : k ∈ d.map (·.1)
  · rw [if_pos (e.mpr h), if_pos h, List.map_map]
    apply List.map_congr_left
    intro x _
    show (if x.1 = k then (x.1, v) else x).1 = x.1
    split <;> rfl
  · rw [if_neg fun z => h (e.mp z), if_neg h, List.map_append]; rfl
theorem yr {rs : List Row} {r : Row} : (dk (rs ++ [r])).map (·.1) = if (r.pa, r.cu) ∈ (dk rs).map (·.1) then (dk rs).map (·.1) else (dk rs).map (·.1) ++ [(r.pa, r.cu)] := by
  rw [oV]; exact uM _ _ _
theorem vZ {α : Type} {P : List α → Prop} (h0 : P []) (h1 : ∀ l x, P l → P (l ++ [x])) (l : List α) : P l := by
  have : ∀ r : List α, P r.reverse := by
    intro r
    induction r with
    | nil => exact h0
    | cons x r ih => rw [List.reverse_cons]; exact h1 _ _ ih
  have h := this l.reverse
  rwa [List.reverse_reverse] at h
theorem wt (rs : List Row) : ((dk rs).map (·.1)).Nodup ∧ (∀ e ∈ (dk rs).map (·.1), ∃ r ∈ rs, e = (r.pa, r.cu)) ∧ (dk rs).length ≤ rs.length := by
  induction rs using vZ with
  | h0 => exact ⟨.nil, (fun _ m => nomatch m), Nat.le_refl _⟩
  | h1 l x ih =>
    obtain ⟨i1, i2, i3⟩ := ih
    rw [← List.length_map (f := (·.1)) (as := dk (l ++ [x])), yr]
    rw [← List.length_map (f := (·.1))] at i3
    by_cases h : (x.pa, x.cu) ∈ (dk l).map (·.1)
    · rw [if_pos h]
      refine ⟨i1, fun e m => ?_, by rw [List.length_append]; omega⟩
      obtain ⟨r, hr, g⟩ := i2 e m
      exact ⟨r, List.mem_append_left _ hr, g⟩
    · rw [if_neg h]
      refine ⟨List.nodup_append.mpr ⟨i1, List.nodup_cons.mpr ⟨List.not_mem_nil, List.nodup_nil⟩, fun a ha b hb => by rw [List.mem_singleton.mp hb]; rintro rfl; exact h ha⟩, fun e m => ?_, by rw [List.length_append, List.length_append, List.length_singleton, List.length_singleton]; omega⟩
      rcases List.mem_append.mp m with m | m
      · obtain ⟨r, hr, g⟩ := i2 e m
        exact ⟨r, List.mem_append_left _ hr, g⟩
      · exact ⟨x, by simp, List.mem_singleton.mp m⟩
theorem mY {α : Type} [DecidableEq α] : ∀ {l m : List α}, l.Nodup → (∀ x ∈ l, x ∈ m) → l.length ≤ m.length
  | [], m, _, _ => Nat.zero_le _
  | x :: r, m, h, s => by
    obtain ⟨h1, h2⟩ := List.nodup_cons.mp h
    have hx := s x (.head _)
    have := mY (l := r) (m := m.erase x) h2 fun y hy => (List.mem_erase_of_ne (by rintro rfl; exact h1 hy)).mpr (s y (.tail _ hy))
    rw [List.length_erase_of_mem hx] at this
    have : 0 < m.length := List.length_pos_of_mem hx
    rw [List.length_cons]; omega
theorem pZ (cu : List (List Nat)) : ∀ ps : List (List Nat), (ps.flatMap fun p => cu.map fun c => (p, c)).length = ps.length * cu.length
  | [] => by simp
  | p :: r => by rw [List.flatMap_cons, List.length_append, List.length_map, pZ cu r, List.length_cons, Nat.succ_mul, Nat.add_comm]
theorem zY {rs : List Row} {ps cu : List (List Nat)} (h : ∀ r ∈ rs, r.pa ∈ ps ∧ r.cu ∈ cu) : (dk rs).length ≤ ps.length * cu.length := by
  obtain ⟨h1, h2, _⟩ := wt rs
  rw [← pZ, ← List.length_map (f := (·.1))]
  refine mY h1 fun e m => ?_
  obtain ⟨r, hr, rfl⟩ := h2 e m
  exact List.mem_flatMap.mpr ⟨r.pa, (h r hr).1, List.mem_map.mpr ⟨r.cu, (h r hr).2, rfl⟩⟩
theorem wP {d : List (Pt × Int)} {k : Pt} (h : k ∈ d.map (·.1)) : ∃ n, ql d k = some n := by
  obtain ⟨e, he, rfl⟩ := List.mem_map.mp h
  unfold ql
  cases f : d.find? fun x => decide (x.1 = e.1) with
  | none => exact absurd (List.find?_eq_none.mp f e he) (by simp)
  | some z => exact ⟨z.2, rfl⟩
def val (rs : List Row) (k : Pt) : Int := (ql (dk rs) k).getD 0
def res (rs : List Row) (out : List Pt) : List Row := (out.filter fun k => decide (val rs k ≠ 0)).map fun k => ⟨k.1, k.2, val rs k⟩
theorem sT (rs : List Row) (out : List Pt) : (res rs out).length ≤ out.length := by unfold res; rw [List.length_map]; exact List.length_filter_le _ _
theorem wm {rs : List Row} {k : Pt} (h : k ∈ (dk rs).map (·.1)) : ql (dk rs) k = some (val rs k) := by
  obtain ⟨n, e⟩ := wP h
  unfold val; rw [e]; rfl
theorem qk (rs : List Row) (out : List Pt) (k : Pt) : res rs (out ++ [k]) = res rs out ++ if val rs k ≠ 0 then [⟨k.1, k.2, val rs k⟩] else [] := by
  unfold res
  rw [List.filter_append, List.map_append]
  congr 1
  by_cases h : val rs k ≠ 0
  · rw [if_pos h]; simp [h]
  · rw [if_neg h]; simp at h; simp [h]
def rsd (t : Int) (bs : List Bk) : List Row := bs.flatMap fun b => if b.d ≤ t then b.rs else []
theorem vN (t : Int) (bs : List Bk) (b : Bk) : rsd t (bs ++ [b]) = rsd t bs ++ if b.d ≤ t then b.rs else [] := by
  unfold rsd; rw [List.flatMap_append]; simp
theorem kH (t : Int) : ∀ bs : List Bk, (bs.filter fun b => decide (b.d ≤ t)).flatMap (·.rs) = rsd t bs
  | [] => rfl
  | b :: r => by
    have ih := kH t r
    unfold rsd at ih ⊢
    rw [List.flatMap_cons]
    by_cases h : b.d ≤ t
    · rw [if_pos h, List.filter_cons_of_pos (by simpa using h), List.flatMap_cons, ih]
    · rw [if_neg h, List.filter_cons_of_neg (by simpa using h), ih]; rfl
theorem xW {t : Int} {bs : List Bk} {r : Row} (h : r ∈ rsd t bs) : ∃ b ∈ bs, r ∈ b.rs := by
  obtain ⟨b, hb, hr⟩ := List.mem_flatMap.mp h
  refine ⟨b, hb, ?_⟩
  split at hr
  · exact hr
  · exact nomatch hr
theorem nW {t : Int} : ∀ {bs : List Bk}, (∀ b ∈ bs, b.rs.length ≤ 10) → (rsd t bs).length ≤ 10 * bs.length
  | [], _ => Nat.le_refl _
  | b :: r, h => by
    have ih := nW (t := t) (bs := r) fun x m => h x (.tail _ m)
    have hb := h b (.head _)
    unfold rsd at ih ⊢
    rw [List.flatMap_cons, List.length_append, List.length_cons]
    split
    · omega
    · rw [List.length_nil]; omega
end K19
set_option maxHeartbeats 400000
namespace K19
open PySem L2
structure Adr where
  h9 : Addr
  jJ : FuncData
  ib : Addr
  jw : FuncData
  gk : Addr
  iw : FuncData
  jd : Addr
  kK : FuncData
  df : Addr
  gv : FuncData
  gF : Addr
  lD : FuncData
  fN : Addr
  iA : FuncData
  jg : Addr
  j_ : FuncData
  g_ : Addr
  ju : FuncData
  oK : Addr
  qh : FuncData
  i8 : Addr
  kc : FuncData
  c_ : Addr
  d8 : FuncData
  hX : Addr
  jx : FuncData
  kW : Addr
  mt : FuncData
  dS : Addr
  fM : FuncData
  eZ : Addr
  gS : FuncData
  eR : Addr
  gY : FuncData
  eT : Addr
  gU : FuncData
  fc : Addr
  g6 : FuncData
  e_ : Addr
  gT : FuncData
  cR : Addr
  dY : FuncData
  cN : Addr
  gZ : FuncData
  e6 : Addr
  jB : FuncData
  de : Addr
  fW : FuncData
  d9 : Addr
  iK : FuncData
  eS : Addr
  jz : FuncData
  dm : Addr
  iG : FuncData
  mS : Addr
  v_ : FuncData
  b9 : Addr
  dB : FuncData
  cB : Addr
  dq : FuncData
  cn : Addr
  d7 : FuncData
  cE : Addr
  eN : FuncData
  ed : Addr
  io : FuncData
  eg : Addr
  ir : FuncData
  cF : Addr
  eI : FuncData
  b6 : Addr
  dE : FuncData
  dg : Addr
  gr : FuncData
  gB : Addr
  jL : FuncData
  d6 : Addr
  hV : FuncData
  dv : Addr
  eG : FuncData
  nN : Addr
  mM : Addr
  pd : Addr
  g5 : Addr
  jn : Addr
  mq : Addr
  fO : Addr
  sW : Addr
  mH : Addr
  jI : Addr
  aV : Addr
  bX : Addr
  aK : Addr
  iq : Addr
structure Txt (K : PySem.W.Frag) (mg : Str → Option Value) (a : Adr) : Prop where
  ie : Fun K "is_whole" "is_whole" bY a.h9 a.jJ
  rB : mg "is_whole" = some (.ref a.h9)
  hU : Fun K "is_among" "is_among" b4 a.ib a.jw
  qU : mg "is_among" = some (.ref a.ib)
  fU : Fun K "signs_lie" "signs_lie" bR a.gk a.iw
  qC : mg "signs_lie" = some (.ref a.gk)
  eP : Fun K "is_name" "is_name" cw a.jd a.kK
  mK : mg "is_name" = some (.ref a.jd)
  ez : Fun K "is_currency" "is_currency" ba a.df a.gv
  lF : mg "is_currency" = some (.ref a.df)
  iV : Fun K "sums_of" "sums_of" ce a.gF a.lD
  um : mg "sums_of" = some (.ref a.gF)
  gu : Fun K "are_names" "are_names" bS a.fN a.iA
  qO : mg "are_names" = some (.ref a.fN)
  iY : Fun K "is_path" "is_path" cr a.jg a.j_
  t7 : mg "is_path" = some (.ref a.jg)
  hZ : Fun K "names_of" "names_of" bZ a.g_ a.ju
  r6 : mg "names_of" = some (.ref a.g_)
  om : Fun K "above" "above" dI a.oK a.qh
  ya : mg "above" = some (.ref a.oK)
  jp : Fun K "rows_of" "rows_of" cy a.i8 a.kc
  uJ : mg "rows_of" = some (.ref a.i8)
  cZ : Fun K "bookings_up_to" "bookings_up_to" aT a.c_ a.d8
  iU : mg "bookings_up_to" = some (.ref a.c_)
  fm : Fun K "balances" "balances" b5 a.hX a.jx
  lz : mg "balances" = some (.ref a.hX)
  j7 : Fun K "is_day" "is_day" cU a.kW a.mt
  v5 : mg "is_day" = some (.ref a.kW)
  br : Fun K "_law_cell_at" "_law_cell_at" bg a.dS a.fM
  ck : mg "_law_cell_at" = some (.ref a.dS)
  aU : Fun K "_law_mixed" "_law_mixed" bB a.eZ a.gS
  bC : mg "_law_mixed" = some (.ref a.eZ)
  eU : Fun K "_law_whole" "_law_whole" bz a.eR a.gY
  nQ : mg "_law_whole" = some (.ref a.eR)
  e9 : Fun K "_law_names" "_law_names" bD a.eT a.gU
  nX : mg "_law_names" = some (.ref a.eT)
  eW : Fun K "_law_paths" "_law_paths" bF a.fc a.g6
  nq : mg "_law_paths" = some (.ref a.fc)
  fo : Fun K "_law_chart" "_law_chart" bE a.e_ a.gT
  oj : mg "_law_chart" = some (.ref a.e_)
  cO : Fun K "_law_currencies" "_law_currencies" aM a.cR a.dY
  iP : mg "_law_currencies" = some (.ref a.cR)
  cQ : Fun K "_law_first" "_law_first" aZ a.cN a.gZ
  fw : mg "_law_first" = some (.ref a.cN)
  eQ : Fun K "_law_day" "_law_day" bT a.e6 a.jB
  kU : mg "_law_day" = some (.ref a.e6)
  eA : Fun K "_law_amount" "_law_amount" bc a.de a.fW
  lP : mg "_law_amount" = some (.ref a.de)
  f_ : Fun K "_law_rows" "_law_rows" bG a.d9 a.iK
  pX : mg "_law_rows" = some (.ref a.d9)
  g8 : Fun K "_law_due" "_law_due" bU a.eS a.jz
  rF : mg "_law_due" = some (.ref a.eS)
  eh : Fun K "_law_told" "_law_told" bj a.dm a.iG
  jC : mg "_law_told" = some (.ref a.dm)
  Bx : Fun K "law" "law" d_ a.mS a.v_
  B3 : mg "law" = some (.ref a.mS)
  cI : Fun K "__init__" "Account.__init__" aH a.b9 a.dB
  qT : h7 K a.aV "__init__" a.b9
  dA : Fun K "stands_on" "Account.stands_on" aD a.cB a.dq
  gt : h7 K a.aV "stands_on" a.cB
  eJ : Fun K "__init__" "Chart.__init__" aS a.cn a.d7
  tJ : h7 K a.bX "__init__" a.cn
  fJ : Fun K "add_top" "Chart.add_top" aR a.cE a.eN
  iX : h7 K a.bX "add_top" a.cE
  jD : Fun K "add" "Chart.add" bH a.ed a.io
  oB : h7 K a.bX "add" a.ed
  jG : Fun K "has" "Chart.has" bI a.eg a.ir
  nl : h7 K a.bX "has" a.eg
  fI : Fun K "account" "Chart.account" aQ a.cF a.eI
  iZ : h7 K a.bX "account" a.cF
  dZ : Fun K "__init__" "Journal.__init__" aF a.b6 a.dE
  qS : h7 K a.aK "__init__" a.b6
  g7 : Fun K "put" "Journal.put" a_ a.dg a.gr
  lg : h7 K a.aK "put" a.dg
  wY : Fun K "many" "Journal.many" bK a.gB a.jL
  uV : h7 K a.aK "many" a.gB
  tf : Fun K "booking" "Journal.booking" bf a.d6 a.hV
  qV : h7 K a.aK "booking" a.d6
  fE : Fun K "every" "Journal.every" aY a.dv a.eG
  jl : h7 K a.aK "every" a.dv
  yt : mg "HouseError" = some (.ref a.nN)
  uS : mg "BadName" = some (.ref a.mM)
  wZ : mg "BadDay" = some (.ref a.pd)
  mm : mg "BadCurrency" = some (.ref a.g5)
  mW : mg "BadPath" = some (.ref a.jn)
  uL : mg "BadKind" = some (.ref a.mq)
  qq : mg "NoAccount" = some (.ref a.fO)
  tj : mg "Twice" = some (.ref a.sW)
  tT : mg "NotOpen" = some (.ref a.mH)
  yI : mg "NoBooking" = some (.ref a.jI)
  mZ : mg "Account" = some (.ref a.aV)
  xF : mg "Chart" = some (.ref a.bX)
  mQ : mg "Journal" = some (.ref a.aK)
  bv : Cls K a.aV
  gf : NoAttr K a.aV "kind"
  h8 : NoAttr K a.aV "currency"
  fF : NoAttr K a.aV "first"
  cG : NoAttr K a.aV "until"
  fz : NoAttr K a.aV "below"
  kg : Mk K a.aV a.b9
  cm : Cls K a.bX
  bx : NoAttr K a.bX "by_path"
  vT : Mk K a.bX a.cn
  cK : Cls K a.aK
  b7 : NoAttr K a.aK "bookings"
  g9 : NoAttr K a.aK "undoings"
  j5 : Mk K a.aK a.b6
  ml : PySem.W.excIn K a.g5 [.type "ValueError", .type "Exception", .type "BaseException", .type "object"] "ValueError.__new__" = true
  wa : PySem.W.excIn K a.pd [.type "ValueError", .type "Exception", .type "BaseException", .type "object"] "ValueError.__new__" = true
  uP : PySem.W.excIn K a.mq [.type "ValueError", .type "Exception", .type "BaseException", .type "object"] "ValueError.__new__" = true
  uB : PySem.W.excIn K a.mM [.type "ValueError", .type "Exception", .type "BaseException", .type "object"] "ValueError.__new__" = true
  mP : PySem.W.excIn K a.jn [.type "ValueError", .type "Exception", .type "BaseException", .type "object"] "ValueError.__new__" = true
  o8 : PySem.W.excIn K a.fO [.type "ValueError", .type "Exception", .type "BaseException", .type "object"] "ValueError.__new__" = true
  yy : PySem.W.excIn K a.jI [.type "ValueError", .type "Exception", .type "BaseException", .type "object"] "ValueError.__new__" = true
  ud : PySem.W.excIn K a.mH [.type "ValueError", .type "Exception", .type "BaseException", .type "object"] "ValueError.__new__" = true
  sS : PySem.W.excIn K a.sW [.type "ValueError", .type "Exception", .type "BaseException", .type "object"] "ValueError.__new__" = true
  xJ : mg "KINDS" = some (.ref a.iq)
  iq : ∃ (o : Obj) (its : Array Value) (n : Nat), K.lookup a.iq = some o ∧ o.cls = .type "tuple" ∧ o.data = .seq its n ∧ its.size ≤ sizeLine ∧ Vals (([[104, 97, 118, 101], [111, 119, 101], [111, 119, 110], [103, 97, 105, 110], [99, 111, 115, 116]] : List (List Nat)).map T) its.toList
  vy : mg "all" = none
  vK : mg "bool" = none
  qA : mg "enumerate" = none
  vJ : mg "int" = none
  bA : mg "isinstance" = none
  iy : mg "len" = none
  qY : mg "list" = none
  Bw : mg "max" = none
  Bi : mg "min" = none
  dP : mg "range" = none
  pJ : mg "sorted" = none
  wA : mg "str" = none
  sQ : mg "tuple" = none
theorem rq : bootBuiltins "all" = some (.builtin "all") := by decide +kernel
theorem sR : bootBuiltins "bool" = some (.type "bool") := by decide +kernel
theorem sf : bootBuiltins "int" = some (.type "int") := by decide +kernel
theorem bq : bootBuiltins "isinstance" = some (.builtin "isinstance") := by decide +kernel
theorem eY : bootBuiltins "len" = some (.builtin "len") := by decide +kernel
theorem nI : bootBuiltins "list" = some (.type "list") := by decide +kernel
theorem Al : bootBuiltins "max" = some (.builtin "max") := by decide +kernel
theorem AK : bootBuiltins "min" = some (.builtin "min") := by decide +kernel
theorem mI : bootBuiltins "sorted" = some (.builtin "sorted") := by decide +kernel
theorem r_ : bootBuiltins "str" = some (.type "str") := by decide +kernel
theorem qB : bootBuiltins "tuple" = some (.type "tuple") := by decide +kernel
theorem pq : az ["thing"] ["thing"] (af bY) := ⟨rfl, rfl, rfl, by decide +kernel, rfl, by decide +kernel, by decide +kernel⟩
theorem pU {K : PySem.W.Frag} {f : Addr} {fd : FuncData} (F : Fun K "is_whole" "is_whole" bY f fd) : Binds K fd ["thing"] [] := F.binds (ps := ["thing"]) fun _ _ _ _ _ _ us hl => by obtain ⟨_, rfl⟩ := ex1 hl; rfl
theorem pv : az ["thing", "least", "most"] ["thing", "least", "most"] (af b4) := ⟨rfl, rfl, rfl, by decide +kernel, rfl, by decide +kernel, by decide +kernel⟩
theorem qH {K : PySem.W.Frag} {f : Addr} {fd : FuncData} (F : Fun K "is_among" "is_among" b4 f fd) : Binds K fd ["thing", "least", "most"] [] := F.binds (ps := ["thing", "least", "most"]) fun _ _ _ _ _ _ us hl => by obtain ⟨_, _, _, rfl⟩ := ex3 hl; rfl
theorem oP : az ["text", "least", "most"] ["text", "least", "most"] (af bR) := ⟨rfl, rfl, rfl, by decide +kernel, rfl, by decide +kernel, by decide +kernel⟩
theorem nt {K : PySem.W.Frag} {f : Addr} {fd : FuncData} (F : Fun K "signs_lie" "signs_lie" bR f fd) : Binds K fd ["text", "least", "most"] [] := F.binds (ps := ["text", "least", "most"]) fun _ _ _ _ _ _ us hl => by obtain ⟨_, _, _, rfl⟩ := ex3 hl; rfl
theorem rZ : az ["thing"] ["thing"] (af cw) := ⟨rfl, rfl, rfl, by decide +kernel, rfl, by decide +kernel, by decide +kernel⟩
theorem j9 {K : PySem.W.Frag} {f : Addr} {fd : FuncData} (F : Fun K "is_name" "is_name" cw f fd) : Binds K fd ["thing"] [] := F.binds (ps := ["thing"]) fun _ _ _ _ _ _ us hl => by obtain ⟨_, rfl⟩ := ex1 hl; rfl
theorem k_ : az ["thing"] ["thing"] (af ba) := ⟨rfl, rfl, rfl, by decide +kernel, rfl, by decide +kernel, by decide +kernel⟩
theorem lj {K : PySem.W.Frag} {f : Addr} {fd : FuncData} (F : Fun K "is_currency" "is_currency" ba f fd) : Binds K fd ["thing"] [] := F.binds (ps := ["thing"]) fun _ _ _ _ _ _ us hl => by obtain ⟨_, rfl⟩ := ex1 hl; rfl
theorem kI : az ["rows", "together", "path", "currency", "amount"] ["rows"] (af ce) := ⟨rfl, rfl, rfl, by decide +kernel, rfl, by decide +kernel, by decide +kernel⟩
theorem rl {K : PySem.W.Frag} {f : Addr} {fd : FuncData} (F : Fun K "sums_of" "sums_of" ce f fd) : Binds K fd ["rows"] [] := F.binds (ps := ["rows"]) fun _ _ _ _ _ _ us hl => by obtain ⟨_, rfl⟩ := ex1 hl; rfl
theorem nO : az ["names"] ["names"] (af bS) := ⟨rfl, rfl, rfl, by decide +kernel, rfl, by decide +kernel, by decide +kernel⟩
theorem oE {K : PySem.W.Frag} {f : Addr} {fd : FuncData} (F : Fun K "are_names" "are_names" bS f fd) : Binds K fd ["names"] [] := F.binds (ps := ["names"]) fun _ _ _ _ _ _ us hl => by obtain ⟨_, rfl⟩ := ex1 hl; rfl
theorem se : az ["thing"] ["thing"] (af cr) := ⟨rfl, rfl, rfl, by decide +kernel, rfl, by decide +kernel, by decide +kernel⟩
theorem sk {K : PySem.W.Frag} {f : Addr} {fd : FuncData} (F : Fun K "is_path" "is_path" cr f fd) : Binds K fd ["thing"] [] := F.binds (ps := ["thing"]) fun _ _ _ _ _ _ us hl => by obtain ⟨_, rfl⟩ := ex1 hl; rfl
theorem qi : az ["path"] ["path"] (af bZ) := ⟨rfl, rfl, rfl, by decide +kernel, rfl, by decide +kernel, by decide +kernel⟩
theorem qa {K : PySem.W.Frag} {f : Addr} {fd : FuncData} (F : Fun K "names_of" "names_of" bZ f fd) : Binds K fd ["path"] [] := F.binds (ps := ["path"]) fun _ _ _ _ _ _ us hl => by obtain ⟨_, rfl⟩ := ex1 hl; rfl
theorem qL : az ["path", "names"] ["path"] (af dI) := ⟨rfl, rfl, rfl, by decide +kernel, rfl, by decide +kernel, by decide +kernel⟩
theorem wx {K : PySem.W.Frag} {f : Addr} {fd : FuncData} (F : Fun K "above" "above" dI f fd) : Binds K fd ["path"] [] := F.binds (ps := ["path"]) fun _ _ _ _ _ _ us hl => by obtain ⟨_, rfl⟩ := ex1 hl; rfl
theorem kq : az ["bookings", "rows", "booking"] ["bookings"] (af cy) := ⟨rfl, rfl, rfl, by decide +kernel, rfl, by decide +kernel, by decide +kernel⟩
theorem rJ {K : PySem.W.Frag} {f : Addr} {fd : FuncData} (F : Fun K "rows_of" "rows_of" cy f fd) : Binds K fd ["bookings"] [] := F.binds (ps := ["bookings"]) fun _ _ _ _ _ _ us hl => by obtain ⟨_, rfl⟩ := ex1 hl; rfl
theorem iC : az ["journal", "day"] ["journal", "day"] (af aT) := ⟨rfl, rfl, rfl, by decide +kernel, rfl, by decide +kernel, by decide +kernel⟩
theorem ij {K : PySem.W.Frag} {f : Addr} {fd : FuncData} (F : Fun K "bookings_up_to" "bookings_up_to" aT f fd) : Binds K fd ["journal", "day"] [] := F.binds (ps := ["journal", "day"]) fun _ _ _ _ _ _ us hl => by obtain ⟨_, _, rfl⟩ := ex2 hl; rfl
theorem qy : az ["chart", "journal", "day"] ["chart", "journal", "day"] (af b5) := ⟨rfl, rfl, rfl, by decide +kernel, rfl, by decide +kernel, by decide +kernel⟩
theorem o3 {K : PySem.W.Frag} {f : Addr} {fd : FuncData} (F : Fun K "balances" "balances" b5 f fd) : Binds K fd ["chart", "journal", "day"] [] := F.binds (ps := ["chart", "journal", "day"]) fun _ _ _ _ _ _ us hl => by obtain ⟨_, _, _, rfl⟩ := ex3 hl; rfl
theorem tN : az ["thing"] ["thing"] (af cU) := ⟨rfl, rfl, rfl, by decide +kernel, rfl, by decide +kernel, by decide +kernel⟩
theorem tW {K : PySem.W.Frag} {f : Addr} {fd : FuncData} (F : Fun K "is_day" "is_day" cU f fd) : Binds K fd ["thing"] [] := F.binds (ps := ["thing"]) fun _ _ _ _ _ _ us hl => by obtain ⟨_, rfl⟩ := ex1 hl; rfl
theorem jO : az ["_law_script", "_law_k"] ["_law_script", "_law_k"] (af bg) := ⟨rfl, rfl, rfl, by decide +kernel, rfl, by decide +kernel, by decide +kernel⟩
theorem fH {K : PySem.W.Frag} {f : Addr} {fd : FuncData} (F : Fun K "_law_cell_at" "_law_cell_at" bg f fd) : Binds K fd ["_law_script", "_law_k"] [] := F.binds (ps := ["_law_script", "_law_k"]) fun _ _ _ _ _ _ us hl => by obtain ⟨_, _, rfl⟩ := ex2 hl; rfl
theorem lK : az ["_law_cell", "_law_k"] ["_law_cell", "_law_k"] (af bB) := ⟨rfl, rfl, rfl, by decide +kernel, rfl, by decide +kernel, by decide +kernel⟩
theorem eD {K : PySem.W.Frag} {f : Addr} {fd : FuncData} (F : Fun K "_law_mixed" "_law_mixed" bB f fd) : Binds K fd ["_law_cell", "_law_k"] [] := F.binds (ps := ["_law_cell", "_law_k"]) fun _ _ _ _ _ _ us hl => by obtain ⟨_, _, rfl⟩ := ex2 hl; rfl
theorem lG : az ["_law_found"] ["_law_found"] (af bz) := ⟨rfl, rfl, rfl, by decide +kernel, rfl, by decide +kernel, by decide +kernel⟩
theorem lH {K : PySem.W.Frag} {f : Addr} {fd : FuncData} (F : Fun K "_law_whole" "_law_whole" bz f fd) : Binds K fd ["_law_found"] [] := F.binds (ps := ["_law_found"]) fun _ _ _ _ _ _ us hl => by obtain ⟨_, rfl⟩ := ex1 hl; rfl
theorem g4 : az ["_law_cell", "_law_letters", "_law_size", "_law_step", "_law_word", "_law_at", "_law_names_here", "_law_k", "_law_sign"] ["_law_cell"] (af bD) := ⟨rfl, rfl, rfl, by decide +kernel, rfl, by decide +kernel, by decide +kernel⟩
theorem lT {K : PySem.W.Frag} {f : Addr} {fd : FuncData} (F : Fun K "_law_names" "_law_names" bD f fd) : Binds K fd ["_law_cell"] [] := F.binds (ps := ["_law_cell"]) fun _ _ _ _ _ _ us hl => by obtain ⟨_, rfl⟩ := ex1 hl; rfl
theorem gW : az ["_law_script", "_law_many", "_law_names_here", "_law_paths_here", "_law_k", "_law_cell", "_law_ahead", "_law_path"] ["_law_script", "_law_many"] (af bF) := ⟨rfl, rfl, rfl, by decide +kernel, rfl, by decide +kernel, by decide +kernel⟩
theorem mh {K : PySem.W.Frag} {f : Addr} {fd : FuncData} (F : Fun K "_law_paths" "_law_paths" bF f fd) : Binds K fd ["_law_script", "_law_many"] [] := F.binds (ps := ["_law_script", "_law_many"]) fun _ _ _ _ _ _ us hl => by obtain ⟨_, _, rfl⟩ := ex2 hl; rfl
theorem gR : az ["_law_paths_here", "_law_chart_here", "_law_k", "_law_path"] ["_law_paths_here"] (af bE) := ⟨rfl, rfl, rfl, by decide +kernel, rfl, by decide +kernel, by decide +kernel⟩
theorem lU {K : PySem.W.Frag} {f : Addr} {fd : FuncData} (F : Fun K "_law_chart" "_law_chart" bE f fd) : Binds K fd ["_law_paths_here"] [] := F.binds (ps := ["_law_paths_here"]) fun _ _ _ _ _ _ us hl => by obtain ⟨_, rfl⟩ := ex1 hl; rfl
theorem dX : az ["_law_cell", "_law_letters", "_law_word", "_law_at"] ["_law_cell"] (af aM) := ⟨rfl, rfl, rfl, by decide +kernel, rfl, by decide +kernel, by decide +kernel⟩
theorem hG {K : PySem.W.Frag} {f : Addr} {fd : FuncData} (F : Fun K "_law_currencies" "_law_currencies" aM f fd) : Binds K fd ["_law_cell"] [] := F.binds (ps := ["_law_cell"]) fun _ _ _ _ _ _ us hl => by obtain ⟨_, rfl⟩ := ex1 hl; rfl
theorem g0 : az ["_law_month", "_law_year", "_law_day_here", "_law_long_year", "_law_place"] ["_law_month"] (af aZ) := ⟨rfl, rfl, rfl, by decide +kernel, rfl, by decide +kernel, by decide +kernel⟩
theorem lL {K : PySem.W.Frag} {f : Addr} {fd : FuncData} (F : Fun K "_law_first" "_law_first" aZ f fd) : Binds K fd ["_law_month"] [] := F.binds (ps := ["_law_month"]) fun _ _ _ _ _ _ us hl => by obtain ⟨_, rfl⟩ := ex1 hl; rfl
theorem qR : az ["_law_cell", "_law_month"] ["_law_cell", "_law_month"] (af bT) := ⟨rfl, rfl, rfl, by decide +kernel, rfl, by decide +kernel, by decide +kernel⟩
theorem pT {K : PySem.W.Frag} {f : Addr} {fd : FuncData} (F : Fun K "_law_day" "_law_day" bT f fd) : Binds K fd ["_law_cell", "_law_month"] [] := F.binds (ps := ["_law_cell", "_law_month"]) fun _ _ _ _ _ _ us hl => by obtain ⟨_, _, rfl⟩ := ex2 hl; rfl
theorem fY : az ["_law_cell", "_law_some"] ["_law_cell"] (af bc) := ⟨rfl, rfl, rfl, by decide +kernel, rfl, by decide +kernel, by decide +kernel⟩
theorem jW {K : PySem.W.Frag} {f : Addr} {fd : FuncData} (F : Fun K "_law_amount" "_law_amount" bc f fd) : Binds K fd ["_law_cell"] [] := F.binds (ps := ["_law_cell"]) fun _ _ _ _ _ _ us hl => by obtain ⟨_, rfl⟩ := ex1 hl; rfl
theorem iM : az ["_law_cell", "_law_paths_here", "_law_currencies_here", "_law_rows_here", "_law_k", "_law_path", "_law_currency", "_law_amount_here"] ["_law_cell", "_law_paths_here", "_law_currencies_here"] (af bG) := ⟨rfl, rfl, rfl, by decide +kernel, rfl, by decide +kernel, by decide +kernel⟩
theorem oF {K : PySem.W.Frag} {f : Addr} {fd : FuncData} (F : Fun K "_law_rows" "_law_rows" bG f fd) : Binds K fd ["_law_cell", "_law_paths_here", "_law_currencies_here"] [] := F.binds (ps := ["_law_cell", "_law_paths_here", "_law_currencies_here"]) fun _ _ _ _ _ _ us hl => by obtain ⟨_, _, _, rfl⟩ := ex3 hl; rfl
theorem jA : az ["_law_booked", "_law_day_here", "_law_found", "_law_one", "_law_rows_here", "_law_path", "_law_currency", "_law_amount_here"] ["_law_booked", "_law_day_here"] (af bU) := ⟨rfl, rfl, rfl, by decide +kernel, rfl, by decide +kernel, by decide +kernel⟩
theorem pA {K : PySem.W.Frag} {f : Addr} {fd : FuncData} (F : Fun K "_law_due" "_law_due" bU f fd) : Binds K fd ["_law_booked", "_law_day_here"] [] := F.binds (ps := ["_law_booked", "_law_day_here"]) fun _ _ _ _ _ _ us hl => by obtain ⟨_, _, rfl⟩ := ex2 hl; rfl
theorem iI : az ["_law_chart_here", "_law_journal", "_law_booked", "_law_day_here", "_law_held", "_law_due_here", "_law_found", "_law_row"] ["_law_chart_here", "_law_journal", "_law_booked", "_law_day_here", "_law_held"] (af bj) := ⟨rfl, rfl, rfl, by decide +kernel, rfl, by decide +kernel, by decide +kernel⟩
theorem oy {K : PySem.W.Frag} {f : Addr} {fd : FuncData} (F : Fun K "_law_told" "_law_told" bj f fd) : Binds K fd ["_law_chart_here", "_law_journal", "_law_booked", "_law_day_here", "_law_held"] [] := F.binds (ps := ["_law_chart_here", "_law_journal", "_law_booked", "_law_day_here", "_law_held"]) fun _ _ _ _ _ _ us hl => by obtain ⟨_, _, _, _, _, rfl⟩ := ex5 hl; rfl
theorem vB : az ["_law_script", "_law_base", "_law_paths_here", "_law_currencies_here", "_law_chart_here", "_law_both", "_law_booked", "_law_held", "_law_k", "_law_at", "_law_rows_here", "_law_day_here", "_law_handed", "_law_one", "_law_other", "_law_query"] ["_law_script"] (af d_) := ⟨rfl, rfl, rfl, by decide +kernel, rfl, by decide +kernel, by decide +kernel⟩
theorem gN : az ["self", "kind", "currency", "first"] ["self", "kind", "currency", "first"] (af aH) := ⟨rfl, rfl, rfl, by decide +kernel, rfl, by decide +kernel, by decide +kernel⟩
theorem dC {K : PySem.W.Frag} {f : Addr} {fd : FuncData} (F : Fun K "__init__" "Account.__init__" aH f fd) : Binds K fd ["self", "kind", "currency", "first"] [] := F.binds (ps := ["self", "kind", "currency", "first"]) fun _ _ _ _ _ _ us hl => by obtain ⟨_, _, _, _, rfl⟩ := ex4 hl; rfl
theorem gw : az ["self", "day"] ["self", "day"] (af aD) := ⟨rfl, rfl, rfl, by decide +kernel, rfl, by decide +kernel, by decide +kernel⟩
theorem gA {K : PySem.W.Frag} {f : Addr} {fd : FuncData} (F : Fun K "stands_on" "Account.stands_on" aD f fd) : Binds K fd ["self", "day"] [] := F.binds (ps := ["self", "day"]) fun _ _ _ _ _ _ us hl => by obtain ⟨_, _, rfl⟩ := ex2 hl; rfl
theorem iR : az ["self"] ["self"] (af aS) := ⟨rfl, rfl, rfl, by decide +kernel, rfl, by decide +kernel, by decide +kernel⟩
theorem iE {K : PySem.W.Frag} {f : Addr} {fd : FuncData} (F : Fun K "__init__" "Chart.__init__" aS f fd) : Binds K fd ["self"] [] := F.binds (ps := ["self"]) fun _ _ _ _ _ _ us hl => by obtain ⟨_, rfl⟩ := ex1 hl; rfl
theorem ji : az ["self", "name", "kind"] ["self", "name", "kind"] (af aR) := ⟨rfl, rfl, rfl, by decide +kernel, rfl, by decide +kernel, by decide +kernel⟩
theorem jb {K : PySem.W.Frag} {f : Addr} {fd : FuncData} (F : Fun K "add_top" "Chart.add_top" aR f fd) : Binds K fd ["self", "name", "kind"] [] := F.binds (ps := ["self", "name", "kind"]) fun _ _ _ _ _ _ us hl => by obtain ⟨_, _, _, rfl⟩ := ex3 hl; rfl
theorem iS : az ["self", "path", "currency", "day", "upper"] ["self", "path", "currency", "day"] (af bH) := ⟨rfl, rfl, rfl, by decide +kernel, rfl, by decide +kernel, by decide +kernel⟩
theorem oJ {K : PySem.W.Frag} {f : Addr} {fd : FuncData} (F : Fun K "add" "Chart.add" bH f fd) : Binds K fd ["self", "path", "currency", "day"] [] := F.binds (ps := ["self", "path", "currency", "day"]) fun _ _ _ _ _ _ us hl => by obtain ⟨_, _, _, _, rfl⟩ := ex4 hl; rfl
theorem nF : az ["self", "path"] ["self", "path"] (af bI) := ⟨rfl, rfl, rfl, by decide +kernel, rfl, by decide +kernel, by decide +kernel⟩
theorem oR {K : PySem.W.Frag} {f : Addr} {fd : FuncData} (F : Fun K "has" "Chart.has" bI f fd) : Binds K fd ["self", "path"] [] := F.binds (ps := ["self", "path"]) fun _ _ _ _ _ _ us hl => by obtain ⟨_, _, rfl⟩ := ex2 hl; rfl
theorem js : az ["self", "path"] ["self", "path"] (af aQ) := ⟨rfl, rfl, rfl, by decide +kernel, rfl, by decide +kernel, by decide +kernel⟩
theorem i0 {K : PySem.W.Frag} {f : Addr} {fd : FuncData} (F : Fun K "account" "Chart.account" aQ f fd) : Binds K fd ["self", "path"] [] := F.binds (ps := ["self", "path"]) fun _ _ _ _ _ _ us hl => by obtain ⟨_, _, rfl⟩ := ex2 hl; rfl
theorem gP : az ["self"] ["self"] (af aF) := ⟨rfl, rfl, rfl, by decide +kernel, rfl, by decide +kernel, by decide +kernel⟩
theorem gK {K : PySem.W.Frag} {f : Addr} {fd : FuncData} (F : Fun K "__init__" "Journal.__init__" aF f fd) : Binds K fd ["self"] [] := F.binds (ps := ["self"]) fun _ _ _ _ _ _ us hl => by obtain ⟨_, rfl⟩ := ex1 hl; rfl
theorem fX : az ["self", "day", "note", "rows", "undoes", "number"] ["self", "day", "note", "rows", "undoes"] (af a_) := ⟨rfl, rfl, rfl, by decide +kernel, rfl, by decide +kernel, by decide +kernel⟩
theorem kz {K : PySem.W.Frag} {f : Addr} {fd : FuncData} (F : Fun K "put" "Journal.put" a_ f fd) : Binds K fd ["self", "day", "note", "rows", "undoes"] [] := F.binds (ps := ["self", "day", "note", "rows", "undoes"]) fun _ _ _ _ _ _ us hl => by obtain ⟨_, _, _, _, _, rfl⟩ := ex5 hl; rfl
theorem je : az ["self"] ["self"] (af aY) := ⟨rfl, rfl, rfl, by decide +kernel, rfl, by decide +kernel, by decide +kernel⟩
theorem i_ {K : PySem.W.Frag} {f : Addr} {fd : FuncData} (F : Fun K "every" "Journal.every" aY f fd) : Binds K fd ["self"] [] := F.binds (ps := ["self"]) fun _ _ _ _ _ _ us hl => by obtain ⟨_, rfl⟩ := ex1 hl; rfl
seal L2.PE L2.PT L2.PW L2.PA L2.PS L2.PSs L2.PI L2.PG L2.PGs L2.PO
local macro_rules | `(tactic| walk_at "rd") => `(tactic| try simp only [v8, rdI, V.int.injEq, V.ref.injEq, tG, wj, sB, sY, vP, v4, v6, vA, vV, L2.fL, List.map_cons, List.map_nil, List.cons_append, List.nil_append, List.append_nil, List.length_cons, List.length_nil, List.replicate, List.getElem?_cons_zero, List.getElem?_cons_succ, List.set_cons_zero, List.set_cons_succ, Nat.reduceSub, Nat.reduceAdd, Int.reduceLT, Int.reduceLE, Int.reducePow, Int.reduceNeg, Nat.reducePow, List.cons.injEq, exists_eq_left', exists_eq_left, eq_self, if_false, if_true, ↓reduceIte, ite_not, forall_const, Option.bind_some, id_eq])
local macro_rules | `(tactic| walk_at "om") => `(tactic| first | exact Nat.le_trans (by decide) (by assumption : 1000 ≤ sizeLine) | omega)
section
variable {pS : Addr} {ns : List Int} {P : Program} {w : World} {K : PySem.W.Frag} {mg : Str → Option Value} {base : Heap} {a : Adr}
def sp_qJ : Sp := sp1 fun x H Q _ => NoT H ∧ asK H x fun _ => Q (.bl (isI x)) H
theorem qN (T : Txt K mg a) : bt P w K mg base (XE P w) 1 a.h9 a.jJ ["thing"] sp_qJ := by
  refine T.ie.okG pq (fun vs H Q E h => sp1.len h) (fun cdv A outer s H vs Q E hr h => ?_)
  obtain ⟨x0, rfl, h⟩ := sp1.inv h
  obtain ⟨hN, h1⟩ := h
  obtain ⟨t, ht, hb, k⟩ := asK.inv h1
  refine ⟨hN, _, (ak (aI (dR (aJ (dH K) rfl T.bA bq (FA.pa (aa (fv 0) (aa (dJ (v := .ty "int") rfl T.vJ sf rfl) ag)))) (dw (vD (aJ (dH K) rfl T.bA bq (FA.pa (aa (fv 0) (aa (dJ (v := .ty "bool") rfl T.vK sR rfl) ag))))))))), ?_⟩
  walk_at "rd"
  simp only [ht]
  rw [← pD ht] at k
  rcases hb with rfl | rfl | rfl | rfl | rfl | rfl | rfl
  all_goals first
    | exact zV k
    | exact uC k
def amg (x : V) (lo hi : Int) : Bool := match x with
  | .int i => decide (lo ≤ i) && decide (i ≤ hi)
  | _ => false
theorem xp {x : V} {lo hi : Int} (h : isI x = false) : amg x lo hi = false := by
  unfold amg
  split
  · cases h
  · rfl
def sp_pr : Sp := sp3 fun x y z H Q _ => NoT H ∧ asI y fun lo => asI z fun hi => asK H x fun _ => Q (.bl (amg x lo hi)) H
theorem pY (T : Txt K mg a) : bt P w K mg base (XE P w) 2 a.ib a.jw ["thing", "least", "most"] sp_pr := by
  refine T.hU.okG pv (fun vs H Q E h => sp3.len h) (fun cdv A outer s H vs Q E hr h => ?_)
  obtain ⟨x0, x1, x2, rfl, h⟩ := sp3.inv h
  obtain ⟨hN, h1⟩ := h
  obtain ⟨lo, rfl, h2⟩ := asI.inv h1
  obtain ⟨hi, rfl, h3⟩ := asI.inv h2
  obtain ⟨t, ht, hb, k⟩ := asK.inv h3
  have G_is_whole := qN (P := P) (w := w) (base := base) T
  have b_is_whole := pU T.ie
  refine ⟨hN, _, (ak (aI (dR (au G_is_whole (hr.mono (by decide)) rfl T.rB T.ie.kp b_is_whole .nil aC (FA.pa (aa (fv 0) ag))) (dw (iD fQ fQ (fv 1) (fv 0) (fv 2)))))), ?_⟩
  walk_at "rd"
  refine ⟨hN, asK.of ht ?_⟩
  cases e : isI x0 with
  | false =>
    rw [xp e] at k
    exact uC k
  | true =>
    cases x0 with
    | int i =>
      refine zV ?_
      walk_at "rd"
      split
      · rename_i h1
        have e : amg (.int i) lo hi = decide (i ≤ hi) := by simp [amg, h1]
        rw [e] at k; exact k
      · rename_i h1
        have e : amg (.int i) lo hi = false := by simp [amg, h1]
        rw [e] at k; exact k
    | _ => cases e
def sp_uE : Sp := sp1 fun x H Q _ => NoT H ∧ asK H x fun _ => Q (.bl (amg x 0 146096)) H
theorem uj (T : Txt K mg a) : bt P w K mg base (XE P w) 3 a.kW a.mt ["thing"] sp_uE := by
  refine T.j7.okG tN (fun vs H Q E h => sp1.len h) (fun cdv A outer s H vs Q E hr h => ?_)
  obtain ⟨x0, rfl, h⟩ := sp1.inv h
  obtain ⟨hN, h1⟩ := h
  have G_is_among := pY (P := P) (w := w) (base := base) T
  have b_is_among := qH T.hU
  refine ⟨hN, _, (ak (aI (au G_is_among (hr.mono (by decide)) rfl T.qU T.hU.kp b_is_among .nil aC (FA.pa (aa (fv 0) (aa ae (aa ae ag))))))), ?_⟩
  walk_at "rd"
  exact ⟨hN, h1⟩
def sp_tV : Sp := sp1 fun _ _ _ _ => False
theorem jY (T : Txt K mg a) : bt P w K mg base (XE P w) 2 a.df a.gv ["thing"] sp_tV := by
  refine T.ez.okG k_ (fun vs H Q E h => sp1.len h) (fun cdv A outer s H vs Q E hr h => ?_)
  obtain ⟨x0, rfl, h⟩ := sp1.inv h
  have HU : (cL (XE P w) P w K mg base ["thing"] "is_currency" (af ba) a.df cdv A outer s H (gcE H E)).A.units + 100 < cLine := bQ hr
  exact h.elim
theorem AH (a b : Nat) : leN [a] [b] = decide (a ≤ b) := by
  unfold leN
  have h : ([b] < [a]) ↔ b < a := by
    rw [List.cons_lt_cons_iff]; simp
  rw [decide_eq_decide.mpr h]
  by_cases h2 : b < a
  · rw [decide_eq_true h2, decide_eq_false (by walk_at "om")]; rfl
  · rw [decide_eq_false h2, decide_eq_true (by walk_at "om")]; rfl
local macro_rules | `(tactic| walk_at "rd") => `(tactic| try simp only [v8, rdI, V.int.injEq, V.ref.injEq, tG, wj, sB, sY, vP, v4, v6, vA, vV, L2.fL, List.map_cons, List.map_nil, List.cons_append, List.nil_append, List.append_nil, List.length_cons, List.length_nil, List.replicate, List.getElem?_cons_zero, List.getElem?_cons_succ, List.set_cons_zero, List.set_cons_succ, Nat.reduceSub, Nat.reduceAdd, Int.reduceLT, Int.reduceLE, Int.reducePow, Int.reduceNeg, Nat.reducePow, List.cons.injEq, exists_eq_left', exists_eq_left, eq_self, if_false, if_true, ↓reduceIte, ite_not, forall_const, Option.bind_some, id_eq, AH])
def ok (l : List Nat) : Prop := (∀ c ∈ l, c < 128) ∧ l.length ≤ 1000
theorem sV {l : List Nat} (h : ok l) : l.length ≤ sizeLine := Nat.le_trans h.2 (by rw [sizeLine_eq]; decide)
def lie (l : List Nat) (a b : Nat) : Bool := l.all fun c => decide (a ≤ c) && decide (c ≤ b)
def sp_nZ : Sp := sp3 fun x y z H Q _ => NoT H ∧ asT x fun l => asT y fun lo => asT z fun hi => ok l ∧ ∃ a b, lo = [a] ∧ hi = [b] ∧ Q (.bl (lie l a b)) H
theorem nL (T : Txt K mg a) : bt P w K mg base (XE P w) 1 a.gk a.iw ["text", "least", "most"] sp_nZ := by
  refine T.fU.okG oP (fun vs H Q E h => sp3.len h) (fun cdv A outer s H vs Q E hr h => ?_)
  obtain ⟨x0, x1, x2, rfl, h⟩ := sp3.inv h
  obtain ⟨hN, h1⟩ := h
  obtain ⟨l, rfl, h2⟩ := asT.inv h1
  obtain ⟨lo, rfl, h3⟩ := asT.inv h2
  obtain ⟨hi, rfl, hl, a, b, rfl, rfl, k⟩ := asT.inv h3
  refine ⟨hN, _, (ak (aI (aJ (nz K rfl) rfl T.vy rq (FA.pa (aa (cP rfl (cl := _) (x := "sign") (xs := ["sign"]) (fr := ["least", "most"]) (ks := [1, 2]) (by exact ⟨rfl, by decide +kernel, rfl, by decide +kernel, rfl, dL rfl, rfl, bo rfl, bo (k := fun y => List.lookup y _) rfl, dN rfl⟩) rfl (zM (fv 0)) (fun _ _ _ _ _ => (aL (i := 0) (gX (l := ["sign", "least", "most"]) (by decide)) rfl (Or.inl rfl))) (fun _ _ _ _ _ => gH) (fun _ _ _ _ _ => (iD fQ fQ (fv 1) (fv 0) (fv 2)))) ag))))), ?_⟩
  walk_at "rd"
  refine cmS (fun _ => True) (fun _ _ _ => trivial) l (fun _ => true) (fun c => .bl (decide (a ≤ c) && decide (c ≤ b))) (fun R r => r) hl.1 (sV hl) (fun c _ H R _ r => r) (fun c _ _ H R _ r => ?_) (fun D hD => ?_)
  · walk_at "rd"
    by_cases h1 : a ≤ c
    · simp only [h1, decide_true, Bool.true_and] at r ⊢
      exact r
    · simp only [h1, decide_false, Bool.false_and] at r ⊢
      exact r
  · refine ⟨l.map fun c => decide (a ≤ c) && decide (c ≤ b), SqL.of (by rw [ad, List.filter_eq_self.mpr (by simp), List.map_map]; rfl), H, Gc.none (aj _ hD), ?_⟩
    have e : (l.map fun c => decide (a ≤ c) && decide (c ≤ b)).all id = lie l a b := by
      rw [List.all_map]; rfl
    rw [e]; exact k
theorem nM {H : Hp} {x : V} {t : String} (ht : cz H x = some t) (h : ¬ ∃ l, x = .str ⟨⟨l⟩⟩) : bM t "str" = false := by
  unfold cz at ht
  split at ht
  case h_4 y => exact absurd ⟨y.cps.toList, rfl⟩ h
  case h_5 => split at ht <;> cases ht <;> decide
  all_goals (cases ht <;> decide)
def okV (x : V) : Prop := ∀ l, x = .str ⟨⟨l⟩⟩ → ok l
def nm (l : List Nat) : Bool := decide (1 ≤ l.length) && decide (l.length ≤ 12) && lie l 97 122
def nameV : V → Bool
  | .str y => nm (cs y)
  | _ => false
def sp_sd : Sp := sp1 fun x H Q _ => NoT H ∧ okV x ∧ asK H x fun _ => Q (.bl (nameV x)) H
theorem jU (T : Txt K mg a) : bt P w K mg base (XE P w) 2 a.jd a.kK ["thing"] sp_sd := by
  refine T.eP.okG rZ (fun vs H Q E h => sp1.len h) (fun cdv A outer s H vs Q E hr h => ?_)
  obtain ⟨x0, rfl, h⟩ := sp1.inv h
  obtain ⟨hN, ho, h1⟩ := h
  obtain ⟨t, ht, hb, k⟩ := asK.inv h1
  have G_signs_lie := nL (P := P) (w := w) (base := base) T
  have b_signs_lie := nt T.fU
  refine ⟨hN, _, (ak (aI (dR (aJ (dH K) rfl T.bA bq (FA.pa (aa (fv 0) (aa (dJ (v := .ty "str") rfl T.wA r_ rfl) ag)))) (dR (iD fQ fQ ae (aJ (dO K) rfl T.iy eY (FA.pa (aa (fv 0) ag))) ae) (dw (au G_signs_lie (hr.mono (by decide)) rfl T.qC T.fU.kp b_signs_lie .nil aC (FA.pa (aa (fv 0) (aa (aN [97]) (aa (aN [122]) ag)))))))))), ?_⟩
  by_cases hx : ∃ l, x0 = .str ⟨⟨l⟩⟩
  · obtain ⟨l, rfl⟩ := hx
    have hl := ho l rfl
    have k' : Q (.bl (nm l)) H := k
    cases ht
    walk_at "rd"
    refine ⟨sV hl, ?_⟩
    split
    · rename_i h1
      split
      · rename_i h2
        have e : nm l = lie l 97 122 := by
          unfold nm; rw [decide_eq_true (by walk_at "om"), decide_eq_true (by walk_at "om")]; rfl
        rw [e] at k'
        exact ⟨hN, hl, 97, 122, rfl, rfl, k'⟩
      · rename_i h2
        have e : nm l = false := by
          unfold nm; rw [decide_eq_false (by walk_at "om" : ¬ l.length ≤ 12)]; simp
        rw [e] at k'; exact k'
    · rename_i h1
      have e : nm l = false := by
        unfold nm; rw [decide_eq_false (by walk_at "om" : ¬ 1 ≤ l.length)]; simp
      rw [e] at k'; exact k'
  · have e := nM ht hx
    have e2 : nameV x0 = false := by
      cases x0 with
      | str y => exact absurd ⟨y.cps.toList, rfl⟩ hx
      | _ => rfl
    rw [e2] at k
    walk_at "rd"
    simp only [ht]
    rw [e]
    exact uC k
def sp_n_ (K : PySem.W.Frag) : Sp := sp1 fun x H Q _ => asR x fun p => NoT H ∧ ∃ xs, SqL K H p xs ∧ xs.length ≤ 300 ∧ (∀ y ∈ xs, okV y ∧ ∃ t, cz H y = some t) ∧ Q (.bl (decide (1 ≤ xs.length) && decide (xs.length ≤ 6) && xs.all nameV)) H
theorem nh (T : Txt K mg a) : bt P w K mg base (XE P w) 3 a.fN a.iA ["names"] (sp_n_ K) := by
  refine T.gu.okG nO (fun vs H Q E h => sp1.len h) (fun cdv A outer s H vs Q E hr h => ?_)
  obtain ⟨x0, rfl, h⟩ := sp1.inv h
  obtain ⟨p, rfl, hN, xs, hS, hl, hx, k⟩ := asR.inv h
  have G_is_name := jU (P := P) (w := w) (base := base) T
  have b_is_name := j9 T.eP
  refine ⟨hN, _, (ak (aI (dR (iD fQ fQ ae (aJ (dO K) rfl T.iy eY (FA.pa (aa (fv 0) ag))) ae) (dw (aJ (nz K rfl) rfl T.vy rq (FA.pa (aa (cP rfl (cl := _) (x := "name") (xs := ["name"]) (fr := []) (ks := []) (by exact ⟨rfl, by decide +kernel, rfl, by decide +kernel, rfl, dL rfl, rfl, bo rfl, bo (k := fun y => List.lookup y _) rfl, dN rfl⟩) rfl (cC K (fv 0)) (fun _ _ _ _ _ => (aL (i := 0) (gX (l := ["name"]) (by decide)) rfl (Or.inl rfl))) (fun _ _ _ _ _ => gH) (fun _ _ _ _ _ => (au G_is_name (hr.mono (by decide)) rfl T.mK T.eP.kp b_is_name .nil Bc (FA.pa (aa (fv 0) ag))))) ag))))))), ?_⟩
  walk_at "rd"
  refine ⟨xs, .inl hS, ?_⟩
  have sz : 1000 ≤ sizeLine := by rw [sizeLine_eq]; decide
  split
  · rename_i h1
    split
    · rename_i h2
      have e : (decide (1 ≤ xs.length) && decide (xs.length ≤ 6) && xs.all nameV) = xs.all nameV := by
        rw [decide_eq_true (by walk_at "om"), decide_eq_true (by walk_at "om")]; rfl
      rw [e] at k
      refine cmL p xs (fun H' => NoT H' ∧ SqL K H' p xs ∧ Same H H') (fun D ys hD => ⟨aq hN rfl, hS.same (aj _ hD), aj _ hD⟩) (fun H' c => c.2.1) (fun _ => true) (fun x => .bl (nameV x)) (fun R r => r) hS (by walk_at "om") (fun x _ H' R _ r => r) (fun x hx' _ H' R c r => ?_) (fun D hD => ?_)
      · obtain ⟨o1, t, o2⟩ := hx x hx'
        walk_at "rd"
        exact ⟨c.1, o1, asK.of (uo c.2.2 o2) r⟩
      · refine ⟨xs.map nameV, SqL.of (by rw [ad, List.filter_eq_self.mpr (by simp), List.map_map]; rfl), H, Gc.none (aj _ hD), ?_⟩
        rw [List.all_map]; exact k
    · rename_i h2
      have e : (decide (1 ≤ xs.length) && decide (xs.length ≤ 6) && xs.all nameV) = false := by
        rw [decide_eq_false (by walk_at "om" : ¬ xs.length ≤ 6)]; simp
      rw [e] at k; exact k
  · rename_i h1
    have e : (decide (1 ≤ xs.length) && decide (xs.length ≤ 6) && xs.all nameV) = false := by
      rw [decide_eq_false (by walk_at "om" : ¬ 1 ≤ xs.length)]; simp
    rw [e] at k; exact k
def ii (l : List Nat) : Bool := decide (1 ≤ (spN 58 l).length) && decide ((spN 58 l).length ≤ 6) && (spN 58 l).all nm
def qD : V → Bool
  | .str y => ii (cs y)
  | _ => false
def okP (x : V) : Prop := ∀ l, x = .str ⟨⟨l⟩⟩ → (∀ c ∈ l, c < 128) ∧ l.length ≤ 199
def sp_rj : Sp := sp1 fun x H Q _ => NoT H ∧ okP x ∧ asK H x fun _ => Q (.bl (qD x)) H
theorem rX (T : Txt K mg a) : bt P w K mg base (XE P w) 4 a.jg a.j_ ["thing"] sp_rj := by
  refine T.iY.okG se (fun vs H Q E h => sp1.len h) (fun cdv A outer s H vs Q E hr h => ?_)
  obtain ⟨x0, rfl, h⟩ := sp1.inv h
  obtain ⟨hN, ho, h1⟩ := h
  obtain ⟨t, ht, hb, k⟩ := asK.inv h1
  have G_are_names := nh (P := P) (w := w) (base := base) T
  have b_are_names := oE T.gu
  refine ⟨hN, _, (ak (aI (dR (aJ (dH K) rfl T.bA bq (FA.pa (aa (fv 0) (aa (dJ (v := .ty "str") rfl T.wA r_ rfl) ag)))) (dw (au G_are_names (hr.mono (by decide)) rfl T.qO T.gu.kp b_are_names .nil aC (FA.pa (aa (cJ K PySem.F.plainAttrs_str PySem.F.slot_str_split PySem.F.type_str_split ka (fv 0) (FA.pa (aa (aN [58]) ag))) ag))))))), ?_⟩
  by_cases hx : ∃ l, x0 = .str ⟨⟨l⟩⟩
  · obtain ⟨l, rfl⟩ := hx
    have hl := ho l rfl
    have k' : Q (.bl (ii l)) H := k
    cases ht
    walk_at "rd"
    have sz : 1000 ≤ sizeLine := by rw [sizeLine_eq]; decide
    have sl := jP 58 l
    refine ⟨by walk_at "om", fun p hp => ⟨aq hN rfl, _, SqL.of ad, by rw [List.length_map]; omega, fun y hy => ?_, H, Gc.none (aj _ hp), ?_⟩⟩
    · obtain ⟨q, hq, rfl⟩ := List.mem_map.mp hy
      obtain ⟨m1, m2⟩ := iz 58 l q hq
      exact ⟨fun l' e => by cases e; exact ⟨fun c hc => hl.1 c (m2 c hc), by walk_at "om"⟩, _, rfl⟩
    · have e : (List.map L2.T (spN 58 l)).all nameV = (spN 58 l).all nm := by rw [List.all_map]; rfl
      rw [List.length_map, e]; exact k'
  · have e := nM ht hx
    have e2 : qD x0 = false := by
      cases x0 with
      | str y => exact absurd ⟨y.cps.toList, rfl⟩ hx
      | _ => rfl
    rw [e2] at k
    walk_at "rd"
    simp only [ht]
    rw [e]
    exact uC k
def tx (ls : List (List Nat)) : HO := .lst (ls.map L2.T)
def sp_qd (c : Addr) : Sp := sp1 fun x H Q E => NoT H ∧ okP x ∧ asK H x fun _ => if qD x = true then asT x fun l => ∀ p, H p = none → Q (.ref p) (upd H p (tx (spN 58 l))) else E (.ref c) none H
theorem pH (T : Txt K mg a) : bt P w K mg base (XE P w) 5 a.g_ a.ju ["path"] (sp_qd a.jn) := by
  refine T.hZ.okG qi (fun vs H Q E h => sp1.len h) (fun cdv A outer s H vs Q E hr h => ?_)
  obtain ⟨x0, rfl, h⟩ := sp1.inv h
  obtain ⟨hN, ho, h1⟩ := h
  obtain ⟨t, ht, hb, k⟩ := asK.inv h1
  have G_is_path := rX (P := P) (w := w) (base := base) T
  have b_is_path := sk T.iY
  refine ⟨hN, _, (ah (cf (dU (d5 (au G_is_path (hr.mono (by decide)) rfl T.t7 T.iY.kp b_is_path .nil aC (FA.pa (aa (fv 0) ag))))) (ak (cD T.mP PySem.F.excBase_ValueError rfl rfl T.mW dh (FA.pa (aa (aN [116, 104, 105, 115, 32, 105, 115, 32, 110, 111, 32, 112, 97, 116, 104]) ag)))) bi)
      (ak (aI (cJ K PySem.F.plainAttrs_str PySem.F.slot_str_split PySem.F.type_str_split ka (fv 0) (FA.pa (aa (aN [58]) ag)))))), ?_⟩
  walk_at "rd"
  have sz : 1000 ≤ sizeLine := by rw [sizeLine_eq]; decide
  refine ⟨hN, ho, asK.of ht ?_⟩
  cases e : qD x0 with
  | false =>
    rw [e] at k
    rw [if_pos rfl]
    exact ⟨by walk_at "om", k⟩
  | true =>
    rw [e, if_pos rfl] at k
    rw [if_neg (by decide)]
    obtain ⟨l, rfl, k⟩ := asT.inv k
    have hl := ho l rfl
    walk_at "rd"
    exact ⟨by walk_at "om", fun p hp => ⟨_, Gc.one (aj _ hp) hp ad rfl, k p hp⟩⟩
theorem Am {l : List Nat} (h : nm l = true) : 1 ≤ l.length ∧ l.length ≤ 12 ∧ ∀ c ∈ l, 97 ≤ c ∧ c ≤ 122 := by
  unfold nm lie at h
  simp only [Bool.and_eq_true, decide_eq_true_eq, List.all_eq_true] at h
  exact ⟨h.1.1, h.1.2, fun c hc => h.2 c hc⟩
theorem Ba (xs : List V) {i : Int} (h : 0 ≤ i) : uI xs none (some i) = xs.take i.toNat := by
  unfold uI
  have e : i = ((i.toNat : Nat) : Int) := by walk_at "om"
  rw [e, HT.sIx_none, HT.sIx_nat, List.drop_zero, Nat.sub_zero]
  by_cases hl : i.toNat ≤ xs.length
  · rw [Nat.min_eq_left hl]; rfl
  · rw [Nat.min_eq_right (by walk_at "om"), List.take_of_length_le (by walk_at "om"), List.take_of_length_le (by simp; omega)]
theorem sH (n : Nat) : ∀ (ls : List (List Nat)), (∀ l ∈ ls, l.length ≤ n) → (ls.map List.length).sum ≤ n * ls.length
  | [], _ => by simp
  | l :: r, h => by
    have := sH n r fun x hx => h x (List.mem_cons_of_mem _ hx)
    have h1 := h l (by simp)
    simp only [List.map_cons, List.sum_cons, List.length_cons, Nat.mul_add, Nat.mul_one]
    omega
theorem vt {ls : List (List Nat)} (h : ∀ l ∈ ls, l.length ≤ 1000) (hl : ls.length ≤ 1000) : vp [58] ls := by
  have := sH 1000 ls h
  have h2 : 1000 * ls.length ≤ 1000 * 1000 := Nat.mul_le_mul_left _ hl
  unfold vp
  simp only [List.length_cons, List.length_nil]
  omega
def abN (l : List Nat) : List (List Nat) := (List.range ((spN 58 l).length - 1)).map fun k => bO [58] ((spN 58 l).take (k + 1))
def sp_vz : Sp := sp1 fun x H Q _ => NoT H ∧ asT x fun l => ((∀ c ∈ l, c < 128) ∧ l.length ≤ 199) ∧ ∀ p, H p = none → Q (.ref p) (upd H p (tx (abN l)))
theorem wD (T : Txt K mg a) : bt P w K mg base (XE P w) 1 a.oK a.qh ["path"] sp_vz := by
  refine T.om.okG qL (fun vs H Q E h => sp1.len h) (fun cdv A outer s H vs Q E hr h => ?_)
  obtain ⟨x0, rfl, h⟩ := sp1.inv h
  have ND := qL.nd
  obtain ⟨hN, h1⟩ := h
  obtain ⟨l, rfl, hl, k⟩ := asT.inv h1
  refine ⟨hN, _, (ah (aB (i := 1) ND rfl (Or.inr rfl) (cJ K PySem.F.plainAttrs_str PySem.F.slot_str_split PySem.F.type_str_split ka (fv 0) (FA.pa (aa (aN [58]) ag))))
      (ak (aI (cP rfl (cl := _) (x := "many") (xs := ["many"]) (fr := ["names"]) (ks := [1]) (by exact ⟨rfl, by decide +kernel, rfl, by decide +kernel, rfl, dL rfl, rfl, bo rfl, bo (k := fun y => List.lookup y _) rfl, dN rfl⟩) rfl (mB rfl T.dP (FA.pa (aa ae (aa (aJ (dO K) rfl T.iy eY (FA.pa (aa (fv 1) ag))) ag)))) (fun _ _ _ _ _ => (aL (i := 0) (gX (l := ["many", "names"]) (by decide)) rfl (Or.inl rfl))) (fun _ _ _ _ _ => gH) (fun _ _ _ _ _ => (yC (cJ K PySem.F.plainAttrs_str PySem.F.slot_str_join PySem.F.type_str_join (o9 K) (aN [58]) (FA.pa (aa (fR (wy K) (fv 1) iB (iN (fv 0))) ag))))))))), ?_⟩
  walk_at "rd"
  have sz : 1000 ≤ sizeLine := by rw [sizeLine_eq]; decide
  have sl := jP 58 l
  refine ⟨by walk_at "om", fun p hp => ?_⟩
  have sm := aj (HO.lst (List.map L2.T (spN 58 l))) hp
  have nb : ((spN 58 l).length : Int) < 2 ^ 62 := by
    have : (400 : Int) < 2 ^ 62 := by decide
    omega
  refine BG (fun H' => NoT H' ∧ SqL K H' p (List.map L2.T (spN 58 l))) (fun D ys hD => ⟨aq (aq hN rfl) rfl, SqL.same (aj _ hD) (SqL.of ad)⟩) 1 (spN 58 l).length ((spN 58 l).length - 1) (by walk_at "om") (fun _ => true)
    (fun v => match v with | .int i => L2.T (bO [58] ((spN 58 l).take i.toNat)) | _ => .non) (fun R r => ?_) ⟨by decide, by decide, by walk_at "om", nb⟩ (by walk_at "om") (fun x _ H' R _ r => r) (fun j hj _ H' R c r => ?_) (fun D hD => ?_)
  · walk_at "rd"
    exact ⟨_, .inl (SqL.of ad), by rw [List.length_map]; exact r⟩
  · walk_at "rd"
    refine ⟨c.1, p, _, rfl, c.2, fun q hq => ⟨(spN 58 l).take (1 + (j : Int)).toNat, SqL.of (by rw [ad, Ba _ (by walk_at "om"), List.map_take]), vt (fun x hx => ?_) (by rw [List.length_take]; omega), H', Gc.none (aj _ hq), r⟩⟩
    have := (iz 58 l x (List.mem_of_mem_take hx)).1
    omega
  · refine ⟨_, Gc.one (sm.trans (aj _ hD)) (sm.free hD) ad rfl, ?_⟩
    have e : (List.map (fun v => match v with | V.int i => L2.T (bO [58] (List.take i.toNat (spN 58 l))) | _ => V.non) (List.filter (fun _ => true) (List.map (fun k : Nat => V.int (1 + (k : Int))) (List.range ((spN 58 l).length - 1))))) = (abN l).map L2.T := by
      rw [List.filter_eq_self.mpr (by simp), List.map_map]
      unfold abN
      rw [List.map_map]
      apply List.map_congr_left
      intro k _
      show L2.T (bO [58] (List.take (1 + (k : Int)).toNat (spN 58 l))) = L2.T (bO [58] (List.take (k + 1) (spN 58 l)))
      rw [show (1 + (k : Int)).toNat = k + 1 by walk_at "om"]
    rw [e]; exact k D (sm.free hD)
def sp_at (K : PySem.W.Frag) (p0 : Addr) (ns : List Int) : Sp := sp2 fun x y H Q _ => asR x fun p => asI y fun k => NoT H ∧ p0 = p ∧ SqL K H p0 (ns.map V.int) ∧ 0 ≤ k ∧ Q (.int (ns.getD k.toNat 0)) H
theorem fA (T : Txt K mg a) : bt P w K mg base (XE P w) 1 a.dS a.fM ["_law_script", "_law_k"] (sp_at K pS ns) := by
  refine T.br.okG jO (fun vs H Q E h => sp2.len h) (fun cdv A outer s H vs Q E hr h => ?_)
  obtain ⟨x0, x1, rfl, h⟩ := sp2.inv h
  obtain ⟨p, rfl, h1⟩ := asR.inv h
  obtain ⟨k, rfl, hN, rfl, hS, k0, q⟩ := asI.inv h1
  refine ⟨hN, _, (ah (cf (cj vc (fv 1) (aJ (dO K) rfl T.iy eY (FA.pa (aa (fv 0) ag))) (bN _)) (ak (aI (bd (aA K) (fv 0) (fv 1) (fun _ _ => rfl)))) bi)
      (ak (aI ae))), ?_⟩
  walk_at "rd"
  refine ⟨ns.map V.int, .inl hS, ?_⟩
  rw [List.length_map]
  split
  · rename_i h2
    exact ⟨_, _, .inl hS, rW k0 h2, q⟩
  · rename_i h2
    have g : ns.getD k.toNat 0 = 0 := by
      have l : ns.length ≤ k.toNat := by walk_at "om"
      simp [List.getD, l]
    rw [g] at q
    exact q
def LET : List Nat := [97, 98, 99, 100, 101, 102, 103, 104, 105, 106, 107, 108, 109, 110, 111, 112, 113, 114, 115, 116, 117, 118, 119, 120, 121, 122]
theorem u_ {i : Int} (h0 : 0 ≤ i) (h1 : i < 26) : atI LET i = some (97 + i.toNat) := by
  obtain ⟨j, rfl⟩ : ∃ j : Nat, i = j := ⟨i.toNat, by walk_at "om"⟩
  refine bL ?_
  have hb : ∀ k, k < 26 → LET[k]? = some (97 + k) := by decide
  exact hb j (by walk_at "om")
end
section
variable {pS : Addr} {ns : List Int} {P : Program} {w : World} {K : PySem.W.Frag} {mg : Str → Option Value} {base : Heap} {a : Adr}
def Keep (S : List Addr) (H H' : Hp) : Prop := ∀ c z, H c = some z → c ∉ S → H' c = some z
theorem Keep.refl {S : List Addr} {H : Hp} : Keep S H H := fun _ _ e _ => e
theorem Keep.trans {S : List Addr} {H H1 H2 : Hp} (x : Keep S H H1) (y : Keep S H1 H2) : Keep S H H2 := fun c z e n => y c z (x c z e n) n
theorem Keep.mono {S S' : List Addr} {H H' : Hp} (x : Keep S H H') (h : ∀ c, c ∈ S → c ∈ S') : Keep S' H H' := fun c z e n => x c z e fun m => n (h c m)
theorem Keep.new {S : List Addr} {H H1 : Hp} {p : Addr} {o : HO} (x : Keep S H H1) (h : H1 p = none) : Keep S H (upd H1 p o) := fun c z e n => by
  rw [ap (ai (x c z e n) h)]; exact x c z e n
theorem Keep.put {S : List Addr} {H H1 : Hp} {p : Addr} {o : HO} (x : Keep S H H1) (h : p ∈ S) : Keep S H (upd H1 p o) := fun c z e n => by
  rw [ap (by rintro rfl; exact n h)]; exact x c z e n
theorem Keep.same {S : List Addr} {H H' : Hp} (x : Same H H') : Keep S H H' := fun c z e _ => x c z e
theorem ip {H : Hp} {p q : Addr} {x y : HO} (h : H p = some x) (g : H q = some y) (n : x ≠ y) : p ≠ q := by
  rintro rfl; rw [h] at g; cases g; exact n rfl
def cl : Option Int → V
  | none => .non
  | some m => .int m
structure Acc where
  pa : List Nat
  ob : Addr
  bl : Addr
  ki : V
  cu : V
  fi : Int
  un : Option Int
  be : List (List Nat)
def fS (k c f u b : V) : List (Str × V) := [("kind", k), ("currency", c), ("first", f), ("until", u), ("below", b)]
theorem fk (k c f u b : V) : List.lookup (Str.ofString "kind") (fS k c f u b) = some k := ja
theorem ff (k c f u b : V) : List.lookup (Str.ofString "first") (fS k c f u b) = some f := by unfold fS; rw [bn (by decide +kernel), bn (by decide +kernel)]; exact ja
theorem fu (k c f u b : V) : List.lookup (Str.ofString "until") (fS k c f u b) = some u := by unfold fS; rw [bn (by decide +kernel), bn (by decide +kernel), bn (by decide +kernel)]; exact ja
theorem fb (k c f u b : V) : List.lookup (Str.ofString "below") (fS k c f u b) = some b := by unfold fS; rw [bn (by decide +kernel), bn (by decide +kernel), bn (by decide +kernel), bn (by decide +kernel)]; exact ja
theorem BK (k c f u b : V) : List.lookup (Str.ofString "stands_on") (fS k c f u b) = none := by unfold fS; rw [bn (by decide +kernel), bn (by decide +kernel), bn (by decide +kernel), bn (by decide +kernel), bn (by decide +kernel)]; rfl
theorem B2 (k c f u b v : V) : cW (Str.ofString "until") v (fS k c f u b) = fS k c f v b := by
  have q1 : ¬ (Str.ofString "kind" = Str.ofString "until") := by decide +kernel
  have q2 : ¬ (Str.ofString "currency" = Str.ofString "until") := by decide +kernel
  have q3 : ¬ (Str.ofString "first" = Str.ofString "until") := by decide +kernel
  simp [cW, fS, q1, q2, q3]
theorem An (k c f u b : V) : cW (Str.ofString "below") b (cW (Str.ofString "until") u (cW (Str.ofString "first") f (cW (Str.ofString "currency") c (cW (Str.ofString "kind") k [])))) = fS k c f u b := by
  have q1 : ¬ (Str.ofString "kind" = Str.ofString "until") := by decide +kernel
  have q2 : ¬ (Str.ofString "currency" = Str.ofString "until") := by decide +kernel
  have q3 : ¬ (Str.ofString "first" = Str.ofString "until") := by decide +kernel
  have q4 : ¬ (Str.ofString "kind" = Str.ofString "first") := by decide +kernel
  have q5 : ¬ (Str.ofString "currency" = Str.ofString "first") := by decide +kernel
  have q6 : ¬ (Str.ofString "kind" = Str.ofString "currency") := by decide +kernel
  have q7 : ¬ (Str.ofString "kind" = Str.ofString "below") := by decide +kernel
  have q8 : ¬ (Str.ofString "currency" = Str.ofString "below") := by decide +kernel
  have q9 : ¬ (Str.ofString "first" = Str.ofString "below") := by decide +kernel
  have q0 : ¬ (Str.ofString "until" = Str.ofString "below") := by decide +kernel
  simp [cW, fS, q1, q2, q3, q4, q5, q6, q7, q8, q9, q0]
def sp_ub (A : Addr) : Sp := sp4 fun x k c f H Q _ => NoT H ∧ asR x fun p => ∃ dx, H p = some (.ins A dx []) ∧ ∀ b H', H b = none → H' p = some (.ins A dx (fS k c f .non (.ref b))) → H' b = some (.lst []) → Keep [p] H H' → NoT H' → Q .non H'
theorem dD (T : Txt K mg a) : bt P w K mg base (XE P w) 1 a.b9 a.dB ["self", "kind", "currency", "first"] (sp_ub a.aV) := by
  refine T.cI.okX gN (fun vs H Q E h => sp4.len h) (fun cdv A outer s H vs Q E hr h => ?_)
  obtain ⟨x0, x1, x2, x3, rfl, h⟩ := sp4.inv h
  obtain ⟨hN, h1⟩ := h
  obtain ⟨p, rfl, dx, hp, k⟩ := asR.inv h1
  refine ⟨_, (ah (er K (fv 0) (fv 1))
      (ah (er K (fv 0) (fv 2))
      (ah (er K (fv 0) (fv 3))
      (ah (er K (fv 0) nD)
      (ak (er K (fv 0) (cS (FA.pa ag)))))))), ?_⟩
  walk_at "rd"
  refine ⟨_, _, _, hp, T.bv, T.gf, by decide, _, _, _, ad, T.bv, T.h8, by show 1 < 1000; decide, _, _, _, ad, T.bv, T.fF, by show 2 < 1000; decide, _, _, _, ad, T.bv, T.cG, by show 3 < 1000; decide, Nat.zero_le _, fun b hb => ?_⟩
  rw [oO, oO, oO] at hb ⊢
  have np : p ≠ b := fun q => by rw [← q, ad] at hb; cases hb
  have hb0 : H b = none := by rw [ap (Ne.symm np)] at hb; exact hb
  refine ⟨_, _, _, (ap np).trans ad, T.bv, T.fz, by show 4 < 1000; decide, ?_⟩
  rw [An]
  refine k b _ hb0 ad ?_ ?_ ?_
  · rw [ap (Ne.symm np), ad]
  · exact ((Keep.refl.put (List.mem_singleton.2 rfl)).new hb).put (List.mem_singleton.2 rfl)
  · exact aq (aq (aq hN rfl) rfl) rfl
def lat (u : Option Int) (d : Int) : Bool := match u with
  | none => true
  | some t => decide (d < t)
def opn (f : Int) (u : Option Int) (d : Int) : Bool := decide (f ≤ d) && lat u d
def sp_on (A : Addr) : Sp := sp2 fun x y H Q _ => NoT H ∧ asR x fun p => asI y fun d => ∃ dx k c f u b, H p = some (.ins A dx (fS k c (.int f) (cl u) b)) ∧ Q (.bl (opn f u d)) H
theorem gg (T : Txt K mg a) : bt P w K mg base (XE P w) 1 a.cB a.dq ["self", "day"] (sp_on a.aV) := by
  refine T.dA.okG gw (fun vs H Q E h => sp2.len h) (fun cdv A outer s H vs Q E hr h => ?_)
  obtain ⟨x0, x1, rfl, h⟩ := sp2.inv h
  obtain ⟨hN, h1⟩ := h
  obtain ⟨p, rfl, h2⟩ := asR.inv h1
  obtain ⟨d, rfl, dx, k, c, f, u, b, hp, q⟩ := asI.inv h2
  refine ⟨hN, _, (ak (aI (dR (ei fQ (bV K (fv 0)) (fv 1) (bN _)) (dw (yw (u5 (Aq (bV K (fv 0)))) (dw (ei vc (fv 1) (bV K (fv 0)) (bN _)))))))), ?_⟩
  walk_at "rd"
  refine ⟨_, _, _, _, hp, T.bv, T.fF, ff .., ?_⟩
  walk_at "rd"
  split
  · rename_i h1
    refine ⟨_, _, _, _, hp, T.bv, T.cG, fu .., ?_⟩
    have e : opn f u d = lat u d := by unfold opn; rw [decide_eq_true h1]; rfl
    rw [e] at q
    cases u with
    | none => exact q
    | some t =>
      rw [if_neg (by intro z; cases z)]
      exact ⟨_, _, _, _, hp, T.bv, T.cG, fu .., ⟨H, Gc.refl, q⟩⟩
  · rename_i h1
    have e : opn f u d = false := by unfold opn; rw [decide_eq_false h1]; rfl
    rw [e] at q; exact q
def kyA (c : Acc) : Key × V := (.inr ⟨⟨c.pa⟩⟩, .ref c.ob)
structure AAt (A : Addr) (H : Hp) (c : Acc) : Prop where
  ob : ∃ dx, H c.ob = some (.ins A dx (fS c.ki c.cu (.int c.fi) (cl c.un) (.ref c.bl)))
  ls : H c.bl = some (.lst (c.be.map L2.T))
structure CAt (C A : Addr) (H : Hp) (p d : Addr) (cs : List Acc) : Prop where
  ob : ∃ dx, H p = some (.ins C dx [("by_path", .ref d)])
  dc : H d = some (.dK (cs.map kyA))
  ac : ∀ c ∈ cs, AAt A H c
  np : (cs.map (·.pa)).Nodup
  na : (cs.map (·.ob)).Nodup
  nb : (cs.map (·.bl)).Nodup
theorem CAt.keep {C A : Addr} {S : List Addr} {H H' : Hp} {p d : Addr} {cs : List Acc} (j : CAt C A H p d cs) (x : Keep S H H') (hp : p ∉ S) (hd : d ∉ S) (hc : ∀ c ∈ cs, c.ob ∉ S ∧ c.bl ∉ S) : CAt C A H' p d cs :=
  ⟨by obtain ⟨dx, e⟩ := j.ob; exact ⟨dx, x _ _ e hp⟩, x _ _ j.dc hd, fun c hm => ⟨by obtain ⟨dx, e⟩ := (j.ac c hm).ob; exact ⟨dx, x _ _ e (hc c hm).1⟩, x _ _ (j.ac c hm).ls (hc c hm).2⟩, j.np, j.na, j.nb⟩
theorem CAt.same {C A : Addr} {H H' : Hp} {p d : Addr} {cs : List Acc} (j : CAt C A H p d cs) (x : Same H H') : CAt C A H' p d cs :=
  j.keep (S := []) (Keep.same x) List.not_mem_nil List.not_mem_nil fun _ _ => ⟨List.not_mem_nil, List.not_mem_nil⟩
def fnd (cs : List Acc) (l : List Nat) : Option Acc := cs.find? fun c => decide (c.pa = l)
theorem gE (l : List Nat) : ∀ cs : List Acc, h_ (cs.map kyA) (.inr ⟨⟨l⟩⟩) = (fnd cs l).map fun c => .ref c.ob
  | [] => rfl
  | c :: r => by
    have ih := gE l r
    by_cases h : c.pa = l
    · rw [List.map_cons, gh (by show Sum.inr _ = Sum.inr _; rw [h])]
      simp [fnd, h, kyA]
    · rw [List.map_cons, gb (fun z => h (by simpa [kyA] using z)), ih]
      simp [fnd, h]
theorem xQ {cs : List Acc} {l : List Nat} {c : Acc} (h : fnd cs l = some c) : c ∈ cs ∧ c.pa = l :=
  ⟨List.mem_of_find?_eq_some h, by simpa using List.find?_some h⟩
theorem lC {cs : List Acc} {l : List Nat} (h : fnd cs l = none) : ∀ c ∈ cs, c.pa ≠ l := fun c hc => by
  simpa using List.find?_eq_none.mp h c hc
theorem jQ {β : Type} {f : Acc → β} : ∀ {cs : List Acc} {c c' : Acc}, (cs.map f).Nodup → c ∈ cs → c' ∈ cs → f c = f c' → c = c'
  | [], _, _, _, h, _, _ => nomatch h
  | x :: r, c, c', hn, h, h', e => by
    rw [List.map_cons, List.nodup_cons] at hn
    rcases List.mem_cons.mp h with h1 | h1
    · rcases List.mem_cons.mp h' with h2 | h2
      · rw [h1, h2]
      · subst h1
        exact absurd (by rw [e]; exact List.mem_map_of_mem h2) hn.1
    · rcases List.mem_cons.mp h' with h2 | h2
      · subst h2
        exact absurd (by rw [← e]; exact List.mem_map_of_mem h1) hn.1
      · exact jQ hn.2 h1 h2 e
theorem zT {cs : List Acc} (hn : (cs.map (·.pa)).Nodup) {c : Acc} (hc : c ∈ cs) : fnd cs c.pa = some c := by
  cases e : fnd cs c.pa with
  | none => exact absurd rfl (lC e c hc)
  | some c' =>
    obtain ⟨h1, h2⟩ := xQ e
    rw [jQ hn h1 hc h2]
theorem lkp (x : V) : List.lookup (Str.ofString "by_path") [(Str.ofString "by_path", x)] = some x := ja
def sp_t6 (C A : Addr) : Sp := sp1 fun x H Q _ => NoT H ∧ asR x fun p => ∃ dx, H p = some (.ins C dx []) ∧ ∀ d H', H d = none → CAt C A H' p d [] → Keep [p] H H' → NoT H' → Q .non H'
theorem iL (T : Txt K mg a) : bt P w K mg base (XE P w) 1 a.cn a.d7 ["self"] (sp_t6 a.bX a.aV) := by
  refine T.eJ.okX iR (fun vs H Q E h => sp1.len h) (fun cdv A outer s H vs Q E hr h => ?_)
  obtain ⟨x0, rfl, h⟩ := sp1.inv h
  obtain ⟨hN, h1⟩ := h
  obtain ⟨p, rfl, dx, hp, k⟩ := asR.inv h1
  refine ⟨_, (ak (er K (fv 0) sA)), ?_⟩
  walk_at "rd"
  intro d hd
  have np : p ≠ d := ai hp hd
  refine ⟨_, _, _, (ap np).trans hp, T.cm, T.bx, by show 0 < 1000; decide, ?_⟩
  refine k d _ hd ⟨⟨dx, ?_⟩, ?_, (fun _ h => nomatch h), .nil, .nil, .nil⟩ ?_ ?_
  · rw [ad]; simp [cW]
  · rw [ap (Ne.symm np), ad]; rfl
  · exact (Keep.refl.new hd).put (List.mem_singleton.2 rfl)
  · exact aq (aq hN rfl) rfl
def zj (cs : List Acc) : V → Bool
  | .str y => (fnd cs y.cps.toList).isSome
  | _ => false
def sp_AE (C A : Addr) : Sp := sp2 fun x y H Q _ => NoT H ∧ asR x fun p => asK H y fun _ => ∃ d cs, CAt C A H p d cs ∧ Q (.bl (zj cs y)) H
theorem nJ (T : Txt K mg a) : bt P w K mg base (XE P w) 1 a.eg a.ir ["self", "path"] (sp_AE a.bX a.aV) := by
  refine T.jG.okG nF (fun vs H Q E h => sp2.len h) (fun cdv A outer s H vs Q E hr h => ?_)
  obtain ⟨x0, x1, rfl, h⟩ := sp2.inv h
  have HU : (cL (XE P w) P w K mg base ["self", "path"] "Chart.has" (af bI) a.eg cdv A outer s H (gcE H E)).A.units + 100 < cLine := bQ hr
  obtain ⟨hN, h1⟩ := h
  obtain ⟨p, rfl, h2⟩ := asR.inv h1
  obtain ⟨t, ht, hb, d, cs, J, k⟩ := asK.inv h2
  obtain ⟨dx, hp⟩ := J.ob
  refine ⟨hN, _, (ak (aI (dR (aJ (dH K) rfl T.bA bq (FA.pa (aa (fv 1) (aa (dJ (v := .ty "str") rfl T.wA r_ rfl) ag)))) (dw (u5 (qX (Nat.lt_of_le_of_lt (Nat.add_le_add_left (by decide) _) HU) (fv 1) (bV K (fv 0))) (by with_unfolding_all rfl)))))), ?_⟩
  by_cases hx : ∃ l, x1 = .str ⟨⟨l⟩⟩
  · obtain ⟨l, rfl⟩ := hx
    cases ht
    walk_at "rd"
    refine ⟨_, _, _, _, hp, T.cm, T.bx, lkp _, d, _, rfl, DGet.k (k := .inr ⟨⟨l⟩⟩) J.dc, ?_⟩
    rw [gE, Option.isSome_map]; exact k
  · have e := nM ht hx
    have e2 : zj cs x1 = false := by
      cases x1 with
      | str y => exact absurd ⟨y.cps.toList, rfl⟩ hx
      | _ => rfl
    rw [e2] at k
    walk_at "rd"
    simp only [ht]
    rw [e]
    exact uC k
def sp_rp (C A no : Addr) : Sp := sp2 fun x y H Q E => NoT H ∧ asR x fun p => asT y fun l => ∃ d cs, CAt C A H p d cs ∧ match fnd cs l with | some c => Q (.ref c.ob) H | none => E (.ref no) none H
theorem zG (x : V) : List.lookup (Str.ofString "has") [(Str.ofString "by_path", x)] = none := by rw [bn (by decide +kernel)]; rfl
theorem rL (x : V) : List.lookup (Str.ofString "account") [(Str.ofString "by_path", x)] = none := by rw [bn (by decide +kernel)]; rfl
theorem iW (T : Txt K mg a) : bt P w K mg base (XE P w) 2 a.cF a.eI ["self", "path"] (sp_rp a.bX a.aV a.fO) := by
  refine T.fI.okG js (fun vs H Q E h => sp2.len h) (fun cdv A outer s H vs Q E hr h => ?_)
  obtain ⟨x0, x1, rfl, h⟩ := sp2.inv h
  have HU : (cL (XE P w) P w K mg base ["self", "path"] "Chart.account" (af aQ) a.cF cdv A outer s H (gcE H E)).A.units + 100 < cLine := bQ hr
  obtain ⟨hN, h1⟩ := h
  obtain ⟨p, rfl, h2⟩ := asR.inv h1
  obtain ⟨l, rfl, d, cs, J, k⟩ := asT.inv h2
  obtain ⟨dx, hp⟩ := J.ob
  have one : 1 ≤ sizeLine := by rw [sizeLine_eq]; decide
  have G_Chart_has := nJ (P := P) (w := w) (base := base) T
  have b_Chart_has := oR T.jG
  refine ⟨hN, _, (ah (cf (dU (d5 (eE (fv 0) T.cm T.nl G_Chart_has (hr.mono (by decide)) b_Chart_has .nil aC (FA.pa (aa (fv 1) ag))))) (ak (cD T.o8 PySem.F.excBase_ValueError rfl rfl T.qq dh (FA.pa (aa (aN [116, 104, 101, 114, 101, 32, 105, 115, 32, 110, 111, 32, 115, 117, 99, 104, 32, 97, 99, 99, 111, 117, 110, 116]) ag)))) bi)
      (ak (aI (iH (Nat.lt_of_le_of_lt (Nat.add_le_add_left (by decide) _) HU) (bV K (fv 0)) (fv 1) (fun _ _ => rfl))))), ?_⟩
  walk_at "rd"
  refine ⟨_, _, hp, zG _, hN, d, cs, J, ?_⟩
  rw [show zj cs (L2.T l) = (fnd cs l).isSome from rfl]
  cases e : fnd cs l with
  | none =>
    rw [e] at k
    split
    · exact ⟨one, k⟩
    · rename_i z; exact absurd rfl z
  | some c =>
    rw [e] at k
    rw [if_neg (by intro z; cases z)]
    refine ⟨_, _, _, _, hp, T.cm, T.bx, lkp _, d, .ref c.ob, rfl, ?_, k⟩
    have g := DGet.k (k := .inr ⟨⟨l⟩⟩) J.dc
    rw [gE, e] at g
    exact g
end
section
variable {pS : Addr} {ns : List Int} {P : Program} {w : World} {K : PySem.W.Frag} {mg : Str → Option Value} {base : Heap} {a : Adr}
theorem eV {β : Type} {l : List β} {x : β} (h : l.Nodup) (n : x ∉ l) : (l ++ [x]).Nodup :=
  List.nodup_append.mpr ⟨h, List.nodup_cons.mpr ⟨List.not_mem_nil, List.nodup_nil⟩, fun a ha b hb => by rw [List.mem_singleton.mp hb]; rintro rfl; exact n ha⟩
theorem CAt.bl_d {C A : Addr} {H : Hp} {p d : Addr} {cs : List Acc} (J : CAt C A H p d cs) {c : Acc} (hc : c ∈ cs) : c.bl ≠ d := ip (J.ac c hc).ls J.dc (by intro z; cases z)
theorem CAt.ob_d {C A : Addr} {H : Hp} {p d : Addr} {cs : List Acc} (J : CAt C A H p d cs) {c : Acc} (hc : c ∈ cs) : c.ob ≠ d := by
  obtain ⟨dx, e⟩ := (J.ac c hc).ob; exact ip e J.dc (by intro z; cases z)
theorem CAt.p_d {C A : Addr} {H : Hp} {p d : Addr} {cs : List Acc} (J : CAt C A H p d cs) : p ≠ d := by
  obtain ⟨dx, e⟩ := J.ob; exact ip e J.dc (by intro z; cases z)
theorem CAt.p_bl {C A : Addr} {H : Hp} {p d : Addr} {cs : List Acc} (J : CAt C A H p d cs) {c : Acc} (hc : c ∈ cs) : p ≠ c.bl := by
  obtain ⟨dx, e⟩ := J.ob; exact ip e (J.ac c hc).ls (by intro z; cases z)
theorem CAt.ob_bl {C A : Addr} {H : Hp} {p d : Addr} {cs : List Acc} (J : CAt C A H p d cs) {c c' : Acc} (hc : c ∈ cs) (hc' : c' ∈ cs) : c.ob ≠ c'.bl := by
  obtain ⟨dx, e⟩ := (J.ac c hc).ob; exact ip e (J.ac c' hc').ls (by intro z; cases z)
theorem qe {cs : List Acc} {l : List Nat} (h : fnd cs l = none) (c : Acc) (e : c.pa = l) : gp (cs.map kyA) (.inr ⟨⟨l⟩⟩) (.ref c.ob) = (cs ++ [c]).map kyA := by
  rw [wf _ (by rw [gE, h]; rfl), List.map_append, ← e]; rfl
theorem CAt.more {C A : Addr} {H H' : Hp} {p d : Addr} {cs : List Acc} (J : CAt C A H p d cs) (kp : Keep [] H H') {c : Acc} (hf : fnd cs c.pa = none) (h0 : H c.ob = none) (h1 : H c.bl = none) (hc : AAt A H' c) :
    CAt C A (upd H' d (.dK ((cs ++ [c]).map kyA))) p d (cs ++ [c]) := by
  have J1 := J.keep kp List.not_mem_nil List.not_mem_nil fun _ _ => ⟨List.not_mem_nil, List.not_mem_nil⟩
  have dn := J1.dc
  obtain ⟨dc, eo⟩ := hc.ob
  have n1 : c.ob ≠ d := ip eo dn (by intro z; cases z)
  have n2 : c.bl ≠ d := ip hc.ls dn (by intro z; cases z)
  refine ⟨?_, ad, fun z hz => ?_, ?_, ?_, ?_⟩
  · obtain ⟨dx, e⟩ := J1.ob
    exact ⟨dx, (ap J1.p_d).trans e⟩
  · rcases List.mem_append.mp hz with hz | hz
    · obtain ⟨dz, e⟩ := (J1.ac z hz).ob
      exact ⟨⟨dz, (ap (J1.ob_d hz)).trans e⟩, (ap (J1.bl_d hz)).trans (J1.ac z hz).ls⟩
    · rw [List.mem_singleton.mp hz]
      exact ⟨⟨dc, (ap n1).trans eo⟩, (ap n2).trans hc.ls⟩
  · rw [List.map_append]
    refine eV J.np fun h => ?_
    obtain ⟨z, hz, e⟩ := List.mem_map.mp h
    exact lC hf z hz e
  · rw [List.map_append]
    refine eV J.na fun h => ?_
    obtain ⟨z, hz, e⟩ := List.mem_map.mp h
    obtain ⟨dz, eo⟩ := (J.ac z hz).ob
    rw [e, h0] at eo; cases eo
  · rw [List.map_append]
    refine eV J.nb fun h => ?_
    obtain ⟨z, hz, e⟩ := List.mem_map.mp h
    have eo := (J.ac z hz).ls
    rw [e, h1] at eo; cases eo
theorem eM {H H' : Hp} {x dx : Addr} {o o' : HO} (hx : H x = none) (hd : H dx = none) (kp : Keep [x] (upd (upd H dx o) x o') H') : Keep [] H H' := fun c z e _ => by
  have n1 : c ≠ x := ai e hx
  have n2 : c ≠ dx := ai e hd
  exact kp c z (by rw [ap n1, ap n2]; exact e) (by simpa using n1)
theorem cX {H : Hp} {x dx b : Addr} {o o' : HO} (h : upd (upd H dx o) x o' b = none) : H b = none := by
  have n1 : b ≠ x := fun z => by rw [z, ad] at h; cases h
  rw [ap n1] at h
  have n2 : b ≠ dx := fun z => by rw [z, ad] at h; cases h
  rw [ap n2] at h; exact h
def owe : List Nat := [111, 119, 101]
def AG : List Nat := [99, 111, 115, 116]
def sp_ss (C A : Addr) : Sp := sp3 fun x y z H Q _ => NoT H ∧ asR x fun p => asT y fun l => nm l = true ∧ (z = L2.T owe ∨ z = L2.T AG) ∧ ∃ d cs, CAt C A H p d cs ∧ cs.length ≤ 100 ∧ fnd cs l = none ∧
  (∀ c H', c.pa = l → c.fi = 0 → c.un = none → c.be = [] → H c.ob = none → H c.bl = none → CAt C A H' p d (cs ++ [c]) → Keep [d] H H' → NoT H' → Q .non H')
theorem vf {z : V} (h : z = L2.T owe ∨ z = L2.T AG) : inV z ([[104, 97, 118, 101], [111, 119, 101], [111, 119, 110], [103, 97, 105, 110], [99, 111, 115, 116]].map L2.T) = true := by
  rcases h with rfl | rfl <;> decide
theorem Bt {l : List Nat} (h : nm l = true) : ok l := by
  obtain ⟨_, h2, h3⟩ := Am h
  exact ⟨fun c hc => by have := h3 c hc; omega, by omega⟩
theorem jo (T : Txt K mg a) : bt P w K mg base (XE P w) 4 a.cE a.eN ["self", "name", "kind"] (sp_ss a.bX a.aV) := by
  refine T.fJ.okX ji (fun vs H Q E h => sp3.len h) (fun cdv A outer s H vs Q E hr h => ?_)
  obtain ⟨x0, x1, x2, rfl, h⟩ := sp3.inv h
  have HU : (cL (XE P w) P w K mg base ["self", "name", "kind"] "Chart.add_top" (af aR) a.cE cdv A outer s H E).A.units + 100 < cLine := bQ hr
  obtain ⟨hN, h1⟩ := h
  obtain ⟨p, rfl, h2⟩ := asR.inv h1
  obtain ⟨l, rfl, e, hz, d, cs, J, len, ef, k⟩ := asT.inv h2
  obtain ⟨dx, hp⟩ := J.ob
  have G_Account___init__ := dD (P := P) (w := w) (base := base) T
  have b_Account___init__ := dC T.cI
  have G_is_name := jU (P := P) (w := w) (base := base) T
  have b_is_name := j9 T.eP
  refine ⟨_, (ah (cf (dU (d5 (au G_is_name (hr.mono (by decide)) rfl T.mK T.eP.kp b_is_name .nil aC (FA.pa (aa (fv 1) ag))))) (ak (cD T.uB PySem.F.excBase_ValueError rfl rfl T.uS dh (FA.pa (aa (aN [116, 104, 105, 115, 32, 105, 115, 32, 110, 111, 32, 110, 97, 109, 101]) ag)))) bi)
      (ah (cf (cj (mG K) (fv 2) (xm (v := .ref a.iq) rfl T.xJ rfl) (by with_unfolding_all rfl)) (ak (cD T.uP PySem.F.excBase_ValueError rfl rfl T.uL dh (FA.pa (aa (aN [116, 104, 101, 114, 101, 32, 105, 115, 32, 110, 111, 32, 115, 117, 99, 104, 32, 107, 105, 110, 100]) ag)))) bi)
      (ah (cf (qI (qX (Nat.lt_of_le_of_lt (Nat.add_le_add_left (by decide) _) HU) (fv 1) (bV K (fv 0))) (by with_unfolding_all rfl)) (ak (cD T.sS PySem.F.excBase_ValueError rfl rfl T.tj dh (FA.pa (aa (aN [116, 104, 101, 114, 101, 32, 105, 115, 32, 115, 117, 99, 104, 32, 97, 110, 32, 97, 99, 99, 111, 117, 110, 116]) ag)))) bi)
      (ak (iu (Nat.lt_of_le_of_lt (Nat.add_le_add_left (by decide) _) HU) (bV K (fv 0)) (fv 1) (o5 T.kg G_Account___init__ (hr.mono (by decide)) rfl T.mZ b_Account___init__ .nil aC (FA.pa (aa (fv 2) (aa nD (aa ae ag))))) rfl))))), ?_⟩
  walk_at "rd"
  refine ⟨hN, fun l' e' => by cases e'; exact Bt e, ?_⟩
  have en : nameV (L2.T l) = nm l := rfl
  rw [en, e, if_neg (by decide)]
  refine ⟨_, .inr (.inr T.iq), by rcases hz with rfl | rfl <;> rfl, by decide, ?_⟩
  rw [vf hz, if_neg (by decide)]
  refine ⟨_, _, _, _, hp, T.cm, T.bx, lkp _, d, _, rfl, DGet.k (k := .inr ⟨⟨l⟩⟩) J.dc, ?_⟩
  rw [gE, Option.isSome_map, ef, if_neg (by intro z; cases z)]
  intro x dx hx hdx ne
  refine ⟨aq (aq hN rfl) rfl, _, ad, fun b H' hb h1 h2 kp hN' => ?_⟩
  have kp0 := eM hx hdx kp
  have J1 := J.keep kp0 List.not_mem_nil List.not_mem_nil fun _ _ => ⟨List.not_mem_nil, List.not_mem_nil⟩
  obtain ⟨dx1, hp1⟩ := J1.ob
  let c : Acc := ⟨l, x, b, x2, .non, 0, none, []⟩
  have smk : (cs.map kyA).length < sizeLine := by rw [List.length_map, sizeLine_eq]; omega
  refine ⟨_, _, _, _, hp1, T.cm, T.bx, lkp _, d, _, rfl, DPut.k (k := .inr ⟨⟨l⟩⟩) J1.dc smk, ?_⟩
  rw [qe ef c rfl]
  exact k c _ rfl rfl rfl rfl hx (cX hb) (J.more kp0 ef hx (cX hb) ⟨⟨dx, h1⟩, h2⟩) ((kp0.mono (fun _ h => nomatch h)).put (.head _)) (aq hN' rfl)
theorem kQ (s x : List Nat) : ∀ (r : List (List Nat)), r ≠ [] → bO s (r ++ [x]) = bO s r ++ s ++ x
  | [], h => absurd rfl h
  | [y], _ => by simp [bO]
  | y :: z :: r, _ => by
    have := kQ s x (z :: r) (by simp)
    rw [List.cons_append, List.cons_append, bO, ← List.cons_append, this, bO]
    simp
theorem oW {v n : List Nat} (hn : 58 ∉ n) : spN 58 (v ++ 58 :: n) = spN 58 v ++ [n] := by
  have h := ko 58 (spN 58 v ++ [n]) (by simp) fun p hp => by
    rcases List.mem_append.mp hp with h | h
    · exact gC 58 v p h
    · rw [List.mem_singleton.mp h]; exact hn
  rw [kQ _ _ _ (hJ 58 v), lA] at h
  rw [← h]; simp
theorem xz {v n : List Nat} (hn : 58 ∉ n) : abN (v ++ 58 :: n) = abN v ++ [v] := by
  unfold abN
  rw [oW hn, List.length_append, List.length_singleton, Nat.add_sub_cancel]
  have hp : 0 < (spN 58 v).length := List.length_pos_iff.mpr (hJ 58 v)
  obtain ⟨m, hm⟩ : ∃ m, (spN 58 v).length = m + 1 := ⟨(spN 58 v).length - 1, by omega⟩
  rw [hm, List.range_succ, List.map_append, Nat.add_sub_cancel]
  congr 1
  · apply List.map_congr_left
    intro k hk
    have := List.mem_range.mp hk
    rw [List.take_append_of_le_length (by omega)]
  · rw [List.map_singleton, ← hm, List.take_left', lA]
    rfl
def j2 (cs : List Acc) (l : List Nat) (f : Acc → Acc) : List Acc := cs.map fun z => if z.pa = l then f z else z
theorem eL {β : Type} {cs : List Acc} {l : List Nat} {f : Acc → Acc} (g : Acc → β) (h : ∀ z, g (f z) = g z) : (j2 cs l f).map g = cs.map g := by
  unfold j2
  rw [List.map_map]
  apply List.map_congr_left
  intro z _
  show g (if z.pa = l then f z else z) = g z
  split
  · exact h z
  · rfl
theorem ix {cs : List Acc} {l : List Nat} {f : Acc → Acc} {z : Acc} (h : z ∈ j2 cs l f) : ∃ y ∈ cs, z = if y.pa = l then f y else y := by
  obtain ⟨y, hy, e⟩ := List.mem_map.mp h
  exact ⟨y, hy, e.symm⟩
def grw (l : List Nat) (z : Acc) : Acc := { z with be := z.be ++ [l] }
theorem itp {c : Prop} [Decidable c] {t e : Prop} (h : c) (x : t) : ite c t e := by rw [if_pos h]; exact x
theorem itn {c : Prop} [Decidable c] {t e : Prop} (h : ¬ c) (x : e) : ite c t e := by rw [if_neg h]; exact x
theorem CAt.grow {C A : Addr} {H : Hp} {p d : Addr} {cs : List Acc} (J : CAt C A H p d cs) {u : Acc} (hu : u ∈ cs) (l : List Nat) : CAt C A (upd H u.bl (.lst (u.be.map L2.T ++ [L2.T l]))) p d (j2 cs u.pa (grw l)) := by
  refine ⟨?_, ?_, fun z hz => ?_, ?_, ?_, ?_⟩
  · obtain ⟨dx, e⟩ := J.ob
    exact ⟨dx, (ap (J.p_bl hu)).trans e⟩
  · rw [eL (f := grw l) kyA fun _ => rfl, ap (Ne.symm (J.bl_d hu))]; exact J.dc
  · obtain ⟨y, hy, e⟩ := ix hz
    obtain ⟨dy, ho⟩ := (J.ac y hy).ob
    by_cases h : y.pa = u.pa
    · have : y = u := jQ J.np hy hu h
      subst this
      rw [if_pos rfl] at e
      subst e
      exact ⟨⟨dy, (ap (J.ob_bl hy hu)).trans ho⟩, by show upd H y.bl _ y.bl = some (.lst ((y.be ++ [l]).map L2.T)); rw [ad, List.map_append]; rfl⟩
    · rw [if_neg h] at e
      subst e
      have nb : z.bl ≠ u.bl := fun q => h (by rw [jQ J.nb hy hu q])
      exact ⟨⟨dy, (ap (J.ob_bl hy hu)).trans ho⟩, (ap nb).trans (J.ac z hy).ls⟩
  · rw [eL (f := grw l) _ fun _ => rfl]; exact J.np
  · rw [eL (f := grw l) _ fun _ => rfl]; exact J.na
  · rw [eL (f := grw l) _ fun _ => rfl]; exact J.nb
theorem v7 {cs : List Acc} {v l : List Nat} {f : Acc → Acc} (hf : ∀ z, (f z).pa = z.pa) (h : fnd cs l = none) : fnd (j2 cs v f) l = none := by
  refine List.find?_eq_none.mpr fun z hz => ?_
  obtain ⟨y, hy, e⟩ := ix hz
  have := lC h y hy
  subst e
  split
  · simpa [hf] using this
  · simpa using this
def sp_Ak (C A : Addr) : Sp := sp4 fun x y z t H Q _ => NoT H ∧ asR x fun p => asT y fun l => ((∀ c ∈ l, c < 128) ∧ l.length ≤ 199) ∧ z = .non ∧ t = .int 0 ∧ ∃ v n d cs u, l = v ++ 58 :: n ∧ 58 ∉ n ∧ ii l = true ∧ CAt C A H p d cs ∧ cs.length ≤ 100 ∧ (∀ c ∈ cs, c.be.length ≤ 100) ∧
  fnd cs l = none ∧ u ∈ cs ∧ u.pa = v ∧ u.un = none ∧ u.fi = 0 ∧
  ∀ c H', c.pa = l → c.fi = 0 → c.un = none → c.be = [] → H c.ob = none → H c.bl = none → CAt C A H' p d (j2 cs v (grw l) ++ [c]) → Keep (d :: cs.map (·.bl)) H H' → NoT H' → Q .non H'
theorem nj (T : Txt K mg a) : bt P w K mg base (XE P w) 7 a.ed a.io ["self", "path", "currency", "day"] (sp_Ak a.bX a.aV) := by
  refine T.jD.okX iS (fun vs H Q E h => sp4.len h) (fun cdv A outer s H vs Q E hr h => ?_)
  obtain ⟨x0, x1, x2, x3, rfl, h⟩ := sp4.inv h
  have ND := iS.nd
  have HU : (cL (XE P w) P w K mg base ["self", "path", "currency", "day", "upper"] "Chart.add" (af bH) a.ed cdv A outer s H E).A.units + 100 < cLine := bQ hr
  obtain ⟨hN, h1⟩ := h
  obtain ⟨p, rfl, h2⟩ := asR.inv h1
  obtain ⟨l, rfl, hl, rfl, rfl, v, n, d, cs, u, el, hn, e, J, len, lb, ef, hu, pu, un, uf, k⟩ := asT.inv h2
  obtain ⟨dx, hp⟩ := J.ob
  have G_Account___init__ := dD (P := P) (w := w) (base := base) T
  have b_Account___init__ := dC T.cI
  have G_Account_stands_on := gg (P := P) (w := w) (base := base) T
  have b_Account_stands_on := gA T.dA
  have G_Chart_account := iW (P := P) (w := w) (base := base) T
  have b_Chart_account := i0 T.fI
  have G_above := wD (P := P) (w := w) (base := base) T
  have b_above := wx T.om
  have G_is_day := uj (P := P) (w := w) (base := base) T
  have b_is_day := tW T.j7
  have G_is_currency := jY (P := P) (w := w) (base := base) T
  have b_is_currency := lj T.ez
  have G_names_of := pH (P := P) (w := w) (base := base) T
  have b_names_of := qa T.hZ
  refine ⟨_, (ah (cf (Bj (cj (dW K HU) (aJ (dO K) rfl T.iy eY (FA.pa (aa (au G_names_of (hr.mono (by decide)) rfl T.r6 T.hZ.kp b_names_of .nil aC (FA.pa (aa (fv 1) ag))) ag))) ae (bN _))) (ak (cD T.mP PySem.F.excBase_ValueError rfl rfl T.mW dh (FA.pa (aa (aN [97, 32, 115, 105, 110, 103, 108, 101, 32, 110, 97, 109, 101, 32, 105, 115, 32, 97, 32, 116, 111, 112]) ag)))) bi)
      (ah (cf (L2.PW.pt (sj (qI (ol (fv 2))) (oI (dU (d5 (au G_is_currency (hr.mono (by decide)) rfl T.lF T.ez.kp b_is_currency .nil aC (FA.pa (aa (fv 2) ag)))))))) (ak (cD T.ml PySem.F.excBase_ValueError rfl rfl T.mm dh (FA.pa (aa (aN [116, 104, 105, 115, 32, 105, 115, 32, 110, 111, 32, 99, 117, 114, 114, 101, 110, 99, 121]) ag)))) bi)
      (ah (cf (dU (d5 (au G_is_day (hr.mono (by decide)) rfl T.v5 T.j7.kp b_is_day .nil aC (FA.pa (aa (fv 3) ag))))) (ak (cD T.wa PySem.F.excBase_ValueError rfl rfl T.wZ dh (FA.pa (aa (aN [116, 104, 105, 115, 32, 105, 115, 32, 110, 111, 32, 100, 97, 121]) ag)))) bi)
      (ah (cf (qI (qX (Nat.lt_of_le_of_lt (Nat.add_le_add_left (by decide) _) HU) (fv 1) (bV K (fv 0))) (by with_unfolding_all rfl)) (ak (cD T.sS PySem.F.excBase_ValueError rfl rfl T.tj dh (FA.pa (aa (aN [116, 104, 101, 114, 101, 32, 105, 115, 32, 115, 117, 99, 104, 32, 97, 110, 32, 97, 99, 99, 111, 117, 110, 116]) ag)))) bi)
      (ah (aB (i := 4) ND rfl (Or.inl rfl) (eE (fv 0) T.cm T.iZ G_Chart_account (hr.mono (by decide)) b_Chart_account .nil aC (FA.pa (aa (yC (bd (aA K) (au G_above (hr.mono (by decide)) rfl T.ya T.om.kp b_above .nil aC (FA.pa (aa (fv 1) ag))) (qP j8 ae) (fun _ _ => rfl))) ag))))
      (ah (cf (L2.PW.pt (vQ (qI (ol (bV K (fv 4)))) (rf (dU (d5 (eE (fv 4) T.bv T.gt G_Account_stands_on (hr.mono (by decide)) b_Account_stands_on .nil aC (FA.pa (aa (fv 3) ag)))))))) (ak (cD T.ud PySem.F.excBase_ValueError rfl rfl T.tT dh (FA.pa (aa (aN [116, 104, 101, 32, 97, 99, 99, 111, 117, 110, 116, 32, 97, 98, 111, 118, 101, 32, 105, 115, 110, 39, 116, 32, 111, 112, 101, 110]) ag)))) bi)
      (ah (cq (cJ K PySem.F.plainAttrs_list PySem.F.slot_list_append PySem.F.type_list_append cv (bV K (fv 4)) (FA.pa (aa (fv 1) ag))))
      (ak (iu (Nat.lt_of_le_of_lt (Nat.add_le_add_left (by decide) _) HU) (bV K (fv 0)) (fv 1) (o5 T.kg G_Account___init__ (hr.mono (by decide)) rfl T.mZ b_Account___init__ .nil aC (FA.pa (aa (bV K (fv 4)) (aa (fv 2) (aa (fv 3) ag))))) rfl))))))))), ?_⟩
  walk_at "rd"
  refine ⟨hN, hN, fun l' e => by cases e; exact hl, ?_⟩
  have ep : qD (L2.T l) = ii l := rfl
  rw [ep, e, if_pos rfl]
  intro q hq
  refine ⟨_, .inl (SqL.of ad), H, Gc.none (aj _ hq), ?_⟩
  rw [List.length_map, el, oW hn, List.length_append, if_neg (by
    have hp : 0 < (spN 58 v).length := List.length_pos_iff.mpr (hJ 58 v)
    simp only [List.length_singleton]; omega)]
  rw [← el]
  refine ⟨hN, itn (by decide) ⟨_, _, _, _, hp, T.cm, T.bx, lkp _, d, _, rfl, DGet.k (k := .inr ⟨⟨l⟩⟩) J.dc, ?_⟩⟩
  rw [gE, Option.isSome_map, ef, if_neg (by intro z; cases z)]
  refine ⟨_, _, hp, rL _, hN, hN, hl, fun q2 hq2 => ⟨_, L2.T v, .inl (SqL.of ad), ?_, ?_⟩⟩
  · rw [el, xz hn, List.map_append]; exact qQ _ _
  refine ⟨H, Gc.none (aj _ hq2), hN, ?_⟩
  walk_at "rd"
  refine ⟨d, cs, J, ?_⟩
  rw [show fnd cs v = some u by rw [← pu]; exact zT J.np hu]
  obtain ⟨du, ho⟩ := (J.ac u hu).ob
  refine ⟨_, _, _, _, ho, T.bv, T.cG, fu .., ?_⟩
  rw [un]
  have eo : opn u.fi u.un 0 = true := by rw [un, uf]; rfl
  refine itp rfl ⟨_, _, ho, BK .., hN, _, _, _, _, _, _, ho, ?_⟩
  rw [eo]
  have sml : (u.be.map L2.T).length < sizeLine := by have := lb u hu; rw [List.length_map, sizeLine_eq]; omega
  refine itn (by decide) ⟨_, _, _, _, ho, T.bv, T.fz, fb .., .inl ⟨rfl, _, SqL.of (J.ac u hu).ls⟩, u.bl, _, _, rfl, rfl, (J.ac u hu).ls, sml, ?_⟩
  have J1 := J.grow hu l
  have N1 : NoT (upd H u.bl (.lst (u.be.map L2.T ++ [L2.T l]))) := aq hN rfl
  have ho1 := (ap (o := .lst (u.be.map L2.T ++ [L2.T l])) (J.ob_bl hu hu)).trans ho
  have K1 : Keep (d :: cs.map (·.bl)) H (upd H u.bl (.lst (u.be.map L2.T ++ [L2.T l]))) := Keep.refl.put (.tail _ (List.mem_map_of_mem hu))
  have n58 : ∀ q, upd H u.bl (.lst (u.be.map L2.T ++ [L2.T l])) q = none → H q = none := fun q hq => by
    by_cases hc : q = u.bl
    · rw [hc, ad] at hq; cases hq
    · rw [ap hc] at hq; exact hq
  generalize upd H u.bl (.lst (u.be.map L2.T ++ [L2.T l])) = H1 at J1 N1 ho1 K1 n58 ⊢
  refine ⟨_, _, _, _, ho1, T.bv, T.gf, fk .., fun x dx1 hx hdx ne => ?_⟩
  refine ⟨aq (aq N1 rfl) rfl, _, ad, fun b H' hb h1 h2 kp hN' => ?_⟩
  have kp0 := eM hx hdx kp
  have J2 := J1.keep kp0 List.not_mem_nil List.not_mem_nil fun _ _ => ⟨List.not_mem_nil, List.not_mem_nil⟩
  obtain ⟨dx2, hp2⟩ := J2.ob
  let c : Acc := ⟨l, x, b, u.ki, .non, 0, none, []⟩
  have smk : ((j2 cs u.pa (grw l)).map kyA).length < sizeLine := by rw [eL (f := grw l) kyA fun _ => rfl, List.length_map, sizeLine_eq]; omega
  have ef1 : fnd (j2 cs u.pa (grw l)) l = none := v7 (fun _ => rfl) ef
  refine ⟨_, _, _, _, hp2, T.cm, T.bx, lkp _, d, _, rfl, DPut.k (k := .inr ⟨⟨l⟩⟩) J2.dc smk, ?_⟩
  rw [qe ef1 c rfl]
  have J3 := J1.more kp0 (c := c) ef1 hx (cX hb) ⟨⟨dx1, h1⟩, h2⟩
  rw [pu] at J3 ⊢
  exact k c _ rfl rfl rfl rfl (n58 _ hx) (n58 _ (cX hb)) J3 ((K1.trans (kp0.mono (fun _ h => nomatch h))).put (.head _)) (aq hN' rfl)
end
section
variable {pS : Addr} {ns : List Int} {P : Program} {w : World} {K : PySem.W.Frag} {mg : Str → Option Value} {base : Heap} {a : Adr}
def Bg (C dx b u : Addr) : HO := .ins C dx [("bookings", .ref b), ("undoings", .ref u)]
theorem lkb (x y : V) : List.lookup (Str.ofString "bookings") [(Str.ofString "bookings", x), (Str.ofString "undoings", y)] = some x := ja
structure JAt (C : Addr) (H : Hp) (p b u : Addr) (bs : List V) : Prop where
  ob : ∃ dx, H p = some (Bg C dx b u)
  ls : H b = some (.lst bs)
  dc : H u = some (.dK [])
theorem JAt.keep {C : Addr} {S : List Addr} {H H' : Hp} {p b u : Addr} {bs : List V} (j : JAt C H p b u bs) (x : Keep S H H') (hp : p ∉ S) (hb : b ∉ S) (hu : u ∉ S) : JAt C H' p b u bs :=
  ⟨by obtain ⟨dx, e⟩ := j.ob; exact ⟨dx, x _ _ e hp⟩, x _ _ j.ls hb, x _ _ j.dc hu⟩
def sp_uA (C : Addr) : Sp := sp1 fun x H Q _ => NoT H ∧ asR x fun p => ∃ dx, H p = some (.ins C dx []) ∧ ∀ b u H', H b = none → H u = none → JAt C H' p b u [] → Keep [p] H H' → NoT H' → Q .non H'
theorem gL (T : Txt K mg a) : bt P w K mg base (XE P w) 1 a.b6 a.dE ["self"] (sp_uA a.aK) := by
  refine T.dZ.okX gP (fun vs H Q E h => sp1.len h) (fun cdv A outer s H vs Q E hr h => ?_)
  obtain ⟨x0, rfl, h⟩ := sp1.inv h
  obtain ⟨hN, h1⟩ := h
  obtain ⟨p, rfl, dx, hp, k⟩ := asR.inv h1
  refine ⟨_, (ah (er K (fv 0) (cS (FA.pa ag)))
      (ak (er K (fv 0) sA))), ?_⟩
  walk_at "rd"
  refine ⟨Nat.zero_le _, fun b hb => ?_⟩
  have np : p ≠ b := ai hp hb
  refine ⟨_, _, _, (ap np).trans hp, T.cK, T.b7, by show 0 < 1000; decide, fun u hu => ?_⟩
  have nu : p ≠ u := fun q => by rw [← q, ad] at hu; cases hu
  have nb : b ≠ u := fun q => by rw [← q, ap (Ne.symm np), ad] at hu; cases hu
  refine ⟨_, _, _, (ap nu).trans ad, T.cK, T.g9, by show 1 < 1000; decide, ?_⟩
  have hu0 : H u = none := by
    rw [ap (Ne.symm nu), ap (Ne.symm nb)] at hu; exact hu
  refine k b u _ hb hu0 ⟨⟨dx, ?_⟩, ?_, ?_⟩ ?_ ?_
  · rw [ad]
    have e : cW (Str.ofString "undoings") (V.ref u) (cW (Str.ofString "bookings") (V.ref b) []) = [(Str.ofString "bookings", .ref b), (Str.ofString "undoings", .ref u)] := by
      have q : ¬ (Str.ofString "bookings" = Str.ofString "undoings") := by decide +kernel
      simp [cW, q]
    rw [e]; rfl
  · rw [ap (Ne.symm np), ap nb, ap (Ne.symm np), ad]
  · rw [ap (Ne.symm nu), ad]
  · exact (((Keep.refl.new hb).put (List.mem_singleton.2 rfl)).new hu).put (List.mem_singleton.2 rfl)
  · exact aq (aq (aq (aq hN rfl) rfl) rfl) rfl
def sp_wW (C : Addr) : Sp := sp5 fun x d n r o H Q _ => NoT H ∧ asR x fun p => asR r fun r => o = .non ∧ ∃ b u bs rs, JAt C H p b u bs ∧ bs.length ≤ 100 ∧ H r = some (.lst rs) ∧
  ∀ t q H', H t = none → H' t = some (.tup rs) → H q = none → H' q = some (.tup [.int bs.length, d, n, .ref t, .non]) → JAt C H' p b u (bs ++ [.ref q]) → Keep [b] H H' → NoT H' → Q (.int bs.length) H'
theorem lq (T : Txt K mg a) : bt P w K mg base (XE P w) 1 a.dg a.gr ["self", "day", "note", "rows", "undoes"] (sp_wW a.aK) := by
  refine T.g7.okX fX (fun vs H Q E h => sp5.len h) (fun cdv A outer s H vs Q E hr h => ?_)
  obtain ⟨x0, x1, x2, x3, x4, rfl, h⟩ := sp5.inv h
  have ND := fX.nd
  have HU : (cL (XE P w) P w K mg base ["self", "day", "note", "rows", "undoes", "number"] "Journal.put" (af a_) a.dg cdv A outer s H E).A.units + 100 < cLine := bQ hr
  obtain ⟨hN, h1⟩ := h
  obtain ⟨p, rfl, h2⟩ := asR.inv h1
  obtain ⟨r, rfl, rfl, b, u, bs, rs, J, l1, hs, k⟩ := asR.inv h2
  obtain ⟨dx, hp⟩ := J.ob
  refine ⟨_, (ah (aB (i := 5) ND rfl (Or.inl rfl) (aJ (dO K) rfl T.iy eY (FA.pa (aa (bV K (fv 0)) ag))))
      (ah (cq (cJ K PySem.F.plainAttrs_list PySem.F.slot_list_append PySem.F.type_list_append cv (bV K (fv 0)) (FA.pa (aa (cV (FA.pa (aa (fv 5) (aa (fv 1) (aa (fv 2) (aa (gG (uW K) rfl T.sQ qB (FA.pa (aa (fv 3) ag))) (aa (fv 4) ag))))))) ag))))
      (ah (cf (qI (ol (fv 4))) (ak (iu (Nat.lt_of_le_of_lt (Nat.add_le_add_left (by decide) _) HU) (bV K (fv 0)) (fv 4) (fv 5) rfl)) bi)
      (ak (aI (fv 5)))))), ?_⟩
  walk_at "rd"
  refine ⟨_, _, _, _, hp, T.cK, T.b7, lkb _ _, bs, .inl (.inl (.inl J.ls)), _, _, _, _, hp, T.cK, T.b7, lkb _ _, .inl ⟨rfl, bs, .inl (.inl J.ls)⟩, rs, .inl ⟨SqL.of hs, fun t ht => ⟨by rw [sizeLine_eq]; decide, fun q hq => ?_⟩⟩⟩
  have nb : p ≠ b := ip hp J.ls (by intro z; cases z)
  have bu : b ≠ u := ip J.ls J.dc (by intro z; cases z)
  have tp : p ≠ t := ai hp ht
  have tb : b ≠ t := ai J.ls ht
  have tu : u ≠ t := ai J.dc ht
  have s1 := aj (HO.tup rs) ht
  have qb := ai (s1 _ _ J.ls) hq
  have qu := ai (s1 _ _ J.dc) hq
  have qp := ai (s1 _ _ hp) hq
  have qt : t ≠ q := ai ad hq
  have q0 : H q = none := s1.free hq
  refine ⟨b, bs, _, rfl, rfl, by rw [ap qb, ap tb]; exact J.ls, by rw [sizeLine_eq]; omega, ?_⟩
  refine k t q _ ht ?_ q0 ?_ ⟨⟨dx, ?_⟩, ad, ?_⟩ (((Keep.refl.new ht).new hq).put (.head _)) (aq (aq (aq hN rfl) rfl) rfl)
  · rw [ap (Ne.symm tb), ap qt, ad]
  · rw [ap (Ne.symm qb), ad]
  · rw [ap nb, ap qp, ap tp]; exact hp
  · rw [ap (Ne.symm bu), ap qu, ap tu]; exact J.dc
def sp_rD (C : Addr) : Sp := sp1 fun x H Q _ => NoT H ∧ asR x fun p => ∃ b u bs, JAt C H p b u bs ∧ ∀ q, H q = none → Q (.ref q) (upd H q (.lst bs))
theorem jh (T : Txt K mg a) : bt P w K mg base (XE P w) 1 a.dv a.eG ["self"] (sp_rD a.aK) := by
  refine T.fE.okG je (fun vs H Q E h => sp1.len h) (fun cdv A outer s H vs Q E hr h => ?_)
  obtain ⟨x0, rfl, h⟩ := sp1.inv h
  obtain ⟨hN, h1⟩ := h
  obtain ⟨p, rfl, b, u, bs, J, k⟩ := asR.inv h1
  obtain ⟨dx, hp⟩ := J.ob
  refine ⟨hN, _, (ak (aI (gG (sM K) rfl T.qY nI (FA.pa (aa (bV K (fv 0)) ag))))), ?_⟩
  walk_at "rd"
  exact ⟨_, _, _, _, hp, T.cK, T.b7, lkb _ _, bs, .inl (.inl (.inl J.ls)), fun l hl => ⟨_, Gc.one (aj _ hl) hl ad rfl, k l hl⟩⟩
end
section
theorem rQ (c : Int) (k : Nat) : nm (nms c k) = true := by
  obtain ⟨h1, h2, h3⟩ := kA (c := c) (k := k)
  unfold nm lie
  rw [decide_eq_true h1, decide_eq_true (by omega : (nms c k).length ≤ 12), Bool.true_and, Bool.true_and, List.all_eq_true]
  intro x hx
  have := h3 x hx
  simp; omega
theorem ke (c : Int) (k : Nat) : 58 ∉ nms c k := fun h => by have := (kA (c := c) (k := k)).2.2 58 h; omega
structure POk (l : List Nat) : Prop where
  pn : ii l = true
  lo : ∀ c ∈ l, c < 128
  ln : l.length + 1 ≤ 13 * (spN 58 l).length
theorem POk.len {l : List Nat} (h : POk l) : l.length ≤ 100 := by
  have := h.pn
  unfold ii at this
  simp only [Bool.and_eq_true, decide_eq_true_eq] at this
  have := h.ln
  omega
theorem POk.top {c : Int} {k : Nat} : POk (nms c k) := by
  have e := kr 58 _ (ke c k)
  obtain ⟨h1, h2, h3⟩ := kA (c := c) (k := k)
  refine ⟨?_, fun x hx => by have := h3 x hx; omega, by rw [e]; simp; omega⟩
  unfold ii
  rw [e]
  simp [rQ]
theorem POk.ext {c : Int} {k : Nat} {u : List Nat} (h : POk u) (l5 : (spN 58 u).length ≤ 5) : POk (u ++ 58 :: nms c k) := by
  have e := oW (v := u) (ke c k)
  obtain ⟨h1, h2, h3⟩ := kA (c := c) (k := k)
  have hp := h.pn
  unfold ii at hp
  simp only [Bool.and_eq_true, decide_eq_true_eq] at hp
  refine ⟨?_, fun x hx => ?_, ?_⟩
  · unfold ii
    rw [e, List.length_append, List.all_append]
    simp only [Bool.and_eq_true, decide_eq_true_eq]
    exact ⟨⟨by omega, by simp; omega⟩, hp.2, by simp [rQ]⟩
  · rcases List.mem_append.mp hx with m | m
    · exact h.lo x m
    · rcases List.mem_cons.mp m with rfl | m
      · decide
      · have := h3 x m; omega
  · have := h.ln
    rw [e, List.length_append, List.length_append, List.length_singleton, List.length_cons]
    omega
namespace il
variable {c : Int} {ps : List (List Nat)}
theorem ok (h : il c ps) : ∀ p ∈ ps, POk p := by
  induction h with
  | two =>
    intro p hp
    simp only [List.mem_cons, List.not_mem_nil, or_false] at hp
    rcases hp with rfl | rfl <;> exact POk.top
  | more _ hu _ l5 ih =>
    intro p hp
    rcases List.mem_append.mp hp with m | m
    · exact ih p m
    · rw [List.mem_singleton.mp m]; exact (ih _ hu).ext l5
theorem nd (h : il c ps) : ps.Nodup := by
  induction h with
  | two => exact List.nodup_cons.mpr ⟨by simpa using Af c, by simp⟩
  | more _ _ hn _ ih => exact eV ih hn
theorem up (h : il c ps) : ∀ i p, ps[i]? = some p → (58 ∉ p ∧ ∃ k, p = nms c k) ∨ ∃ u k, p = u ++ 58 :: nms c k ∧ u ∈ ps.take i := by
  induction h with
  | two =>
    intro i p hp
    match i with
    | 0 => cases hp; exact .inl ⟨ke c 0, 0, rfl⟩
    | 1 => cases hp; exact .inl ⟨ke c 6, 6, rfl⟩
    | i + 2 => simp at hp
  | @more ps u k _ hu hn _ ih =>
    intro i p hp
    rcases Nat.lt_or_ge i ps.length with lt | ge
    · rw [List.getElem?_append_left lt] at hp
      rcases ih i p hp with h | ⟨u', k', e, m⟩
      · exact .inl h
      · exact .inr ⟨u', k', e, by rw [List.take_append_of_le_length (Nat.le_of_lt lt)]; exact m⟩
    · have : i = ps.length := by
        have := (List.getElem?_eq_some_iff.mp hp).1
        simp at this; omega
      subst this
      rw [List.getElem?_concat_length] at hp
      cases hp
      exact .inr ⟨u, k, rfl, by rw [List.take_left']; exact hu; rfl⟩
theorem len2 (h : il c ps) : 2 ≤ ps.length := by
  induction h with
  | two => exact Nat.le_refl _
  | more _ _ _ _ ih => simp; omega
end il
end
section
variable {pS : Addr} {ns : List Int} {P : Program} {w : World} {K : PySem.W.Frag} {mg : Str → Option Value} {base : Heap} {a : Adr}
def RwAt (H : Hp) (v : V) (r : Row) : Prop := ∃ q, v = .ref q ∧ H q = some (.tup [L2.T r.pa, L2.T r.cu, .int r.am])
def BkAt (H : Hp) (v : V) (b : Bk) : Prop := ∃ q t vs, v = .ref q ∧ H q = some (.tup [.int b.k, .int b.d, L2.T [], .ref t, .non]) ∧ H t = some (.tup vs) ∧ A2 (RwAt H) vs b.rs
def MnAt (W : List Addr) (H : Hp) (v : V) (b : Bk) : Prop := ∃ q t vs, v = .ref q ∧ H q = some (.tup [.int b.d, .ref t]) ∧ t ∉ W ∧ H t = some (.lst vs) ∧ A2 (RwAt H) vs b.rs
def HdAt (W : List Addr) (H : Hp) (v : V) : Prop := ∃ q c d xs ys ls, v = .ref q ∧ q ∉ W ∧ c ∉ W ∧ d ∉ W ∧ H q = some (.lst [.ref c, .ref d]) ∧ H c = some (.lst xs) ∧ H d = some (.lst ys) ∧ A2 (RwAt H) xs ls ∧ A2 (RwAt H) ys ls
def yZ (ps cu : List (List Nat)) (b : Bk) : Prop := b.rs.length ≤ 10 ∧ ∀ r ∈ b.rs, r.pa ∈ ps ∧ r.cu ∈ cu
def LW (W : List Addr) (H : Hp) : Prop := ∀ s ∈ W, ∃ l, H s = some (.lst l)
theorem LW.nil {H : Hp} : LW [] H := fun _ h => nomatch h
theorem LW.one {H : Hp} {s : Addr} {xs : List V} (h : H s = some (.lst xs)) : LW [s] H := fun z m => by rw [List.mem_singleton.mp m]; exact ⟨_, h⟩
theorem LW.no {W : List Addr} {H : Hp} (t : LW W H) {q : Addr} {o : HO} (h : H q = some o) (n : ∀ l, o ≠ .lst l) : q ∉ W := fun m => by
  obtain ⟨l, e⟩ := t q m
  rw [h] at e; cases e; exact n _ rfl
theorem LW.tup {W : List Addr} {H : Hp} (t : LW W H) {q : Addr} {l : List V} (h : H q = some (.tup l)) : q ∉ W := t.no h (by intro _ z; cases z)
theorem LW.new {W : List Addr} {H : Hp} (t : LW W H) {q : Addr} (h : H q = none) : q ∉ W := fun m => by
  obtain ⟨l, e⟩ := t q m
  rw [h] at e; cases e
theorem LW.mono {W W' : List Addr} {H : Hp} (t : LW W H) (h : ∀ c ∈ W', c ∈ W) : LW W' H := fun s m => t s (h s m)
section
variable {W : List Addr} {H H' : Hp} (x : Keep W H H') (t : LW W H)
include x t
theorem RwAt.keep {v : V} {r : Row} (h : RwAt H v r) : RwAt H' v r := by
  obtain ⟨q, rfl, e⟩ := h
  exact ⟨q, rfl, x _ _ e (t.tup e)⟩
theorem bp {vs : List V} {rs : List Row} (h : A2 (RwAt H) vs rs) : A2 (RwAt H') vs rs := h.imp fun _ _ _ _ r => r.keep x t
theorem BkAt.keep {v : V} {b : Bk} (h : BkAt H v b) : BkAt H' v b := by
  obtain ⟨q, u, vs, rfl, e1, e2, r⟩ := h
  exact ⟨q, u, vs, rfl, x _ _ e1 (t.tup e1), x _ _ e2 (t.tup e2), bp x t r⟩
theorem gn {vs : List V} {bs : List Bk} (h : A2 (BkAt H) vs bs) : A2 (BkAt H') vs bs := h.imp fun _ _ _ _ r => r.keep x t
theorem MnAt.keep {v : V} {b : Bk} (h : MnAt W H v b) : MnAt W H' v b := by
  obtain ⟨q, u, vs, rfl, e1, n, e2, r⟩ := h
  exact ⟨q, u, vs, rfl, x _ _ e1 (t.tup e1), n, x _ _ e2 n, bp x t r⟩
theorem o4 {vs : List V} {bs : List Bk} (h : A2 (MnAt W H) vs bs) : A2 (MnAt W H') vs bs := h.imp fun _ _ _ _ r => r.keep x t
theorem HdAt.keep {v : V} (h : HdAt W H v) : HdAt W H' v := by
  obtain ⟨q, c, d, xs, ys, ls, rfl, n1, n2, n3, e1, e2, e3, r1, r2⟩ := h
  exact ⟨q, c, d, xs, ys, ls, rfl, n1, n2, n3, x _ _ e1 n1, x _ _ e2 n2, x _ _ e3 n3, bp x t r1, bp x t r2⟩
end
theorem bJ {H H' : Hp} (s : Same H H') {vs : List V} {rs : List Row} (h : A2 (RwAt H) vs rs) : A2 (RwAt H') vs rs := bp (W := []) (Keep.same s) LW.nil h
theorem vW {H H' : Hp} (s : Same H H') {vs : List V} {bs : List Bk} (h : A2 (BkAt H) vs bs) : A2 (BkAt H') vs bs := gn (W := []) (Keep.same s) LW.nil h
theorem tw {W : List Addr} {H : Hp} {vs : List V} {bs : List Bk} (h : A2 (MnAt W H) vs bs) : A2 (MnAt [] H) vs bs := h.imp fun _ _ _ _ ⟨q, t, vs, e, e1, n, r⟩ => ⟨q, t, vs, e, e1, List.not_mem_nil, r⟩
end
section
variable {pS : Addr} {ns : List Int} {P : Program} {w : World} {K : PySem.W.Frag} {mg : Str → Option Value} {base : Heap} {a : Adr}
theorem b8 {H H' : Hp} {D : Addr} {o : HO} (s : Same H H') (h : H D = none) : Same H (upd H' D o) := fun c z e => by
  rw [ap (ai e h)]; exact s c z e
theorem fP {ta : TA} {g : TG} {tb : TS} {D : gO} {σ : St} {H : Hp} (h : ta σ H fun vs H1 => ∃ j : Int, vs = [.int j] ∧ -(2 ^ 62) ≤ j ∧ j < 2 ^ 62 ∧ FE (Itr 0 j.toNat) g tb D σ H1) : lI (vj ta) g tb D σ H := h
theorem uD {ta : TA} {g : TG} {tb : TS} {D : gO} {σ : St} {H : Hp} (h : ta σ H fun vs H1 => ∃ i j : Int, vs = [.int i, .int j] ∧ (-(2 ^ 62) ≤ i ∧ i < 2 ^ 62 ∧ -(2 ^ 62) ≤ j ∧ j < 2 ^ 62) ∧ FE (Itr i (j - i).toNat) g tb D σ H1) : lI (wX ta) g tb D σ H := h
theorem xc {l : List Nat} {i : Int} (h : 0 ≤ i) : gM l none (some i) = l.take i.toNat := by
  unfold gM
  obtain ⟨j, rfl⟩ := Int.eq_ofNat_of_zero_le h
  rw [HT.sIx_none, HT.sIx_nat, List.drop_zero, Nat.sub_zero, Int.toNat_natCast]
  by_cases hl : j ≤ l.length
  · rw [Nat.min_eq_left hl]
  · rw [Nat.min_eq_right (by walk_at "om"), List.take_of_length_le (by walk_at "om"), List.take_of_length_le (by walk_at "om")]
theorem jT (l : List Nat) (lo hi : Option Int) : (gM l lo hi).length ≤ l.length := by
  unfold gM; rw [List.length_take, List.length_drop]; omega
theorem uF {l : List Nat} {i : Int} (h : 0 ≤ i) : gM l (some i) none = l.drop i.toNat := by
  unfold gM
  obtain ⟨j, rfl⟩ := Int.eq_ofNat_of_zero_le h
  rw [HT.sIx_none, HT.sIx_nat, Int.toNat_natCast]
  by_cases hl : j ≤ l.length
  · rw [Nat.min_eq_left hl, List.take_of_length_le (by simp)]
  · rw [Nat.min_eq_right (by walk_at "om"), List.drop_of_length_le (by walk_at "om"), List.drop_of_length_le (by walk_at "om")]; simp
def MX (c k : Int) : Int := (c * 48271 + 7919 * k * k + 104729 * k + 12345) % 2147483647
theorem yO (c k : Int) : 0 ≤ MX c k ∧ MX c k < 2147483647 := ⟨Int.emod_nonneg _ (by decide), Int.emod_lt_of_pos _ (by decide)⟩
def sp_wH : Sp := sp2 fun x y H Q _ => NoT H ∧ asI x fun c => asI y fun k => (0 ≤ k ∧ k ≤ 1000) ∧ Q (.int (MX c k)) H
theorem eC (T : Txt K mg a) : bt P w K mg base (XE P w) 1 a.eZ a.gS ["_law_cell", "_law_k"] sp_wH := by
  refine T.aU.okG lK (fun vs H Q E h => sp2.len h) (fun cdv A outer s H vs Q E hr h => ?_)
  obtain ⟨x0, x1, rfl, h⟩ := sp2.inv h
  obtain ⟨hN, h1⟩ := h
  obtain ⟨c, rfl, h2⟩ := asI.inv h1
  obtain ⟨k, rfl, hk, q⟩ := asI.inv h2
  refine ⟨hN, _, (ak (aI (al aP (al aO (al aO (al aO (al cT (fv 0) ae) (al cT (al cT ae (fv 1)) (fv 1))) (al cT ae (fv 1))) ae) ae))), ?_⟩
  walk_at "rd"
  exact ⟨.inr (by walk_at "om"), q⟩
def sp_tS : Sp := sp1 fun x H Q _ => NoT H ∧ asK H x fun _ => Q (.bl (isI x)) H
theorem lJ (T : Txt K mg a) : bt P w K mg base (XE P w) 1 a.eR a.gY ["_law_found"] sp_tS := by
  refine T.eU.okG lG (fun vs H Q E h => sp1.len h) (fun cdv A outer s H vs Q E hr h => ?_)
  obtain ⟨x0, rfl, h⟩ := sp1.inv h
  obtain ⟨hN, h1⟩ := h
  obtain ⟨t, ht, hb, k⟩ := asK.inv h1
  refine ⟨hN, _, (ak (aI (dR (aJ (dH K) rfl T.bA bq (FA.pa (aa (fv 0) (aa (dJ (v := .ty "int") rfl T.vJ sf rfl) ag)))) (dw (vD (aJ (dH K) rfl T.bA bq (FA.pa (aa (fv 0) (aa (dJ (v := .ty "bool") rfl T.vK sR rfl) ag))))))))), ?_⟩
  walk_at "rd"
  simp only [ht]
  rw [← pD ht] at k
  rcases hb with rfl | rfl | rfl | rfl | rfl | rfl | rfl
  all_goals first
    | exact zV k
    | exact uC k
def sp_wu : Sp := sp1 fun x H Q _ => NoT H ∧ asI x fun c => ∀ p, H p = none → Q (.ref p) (upd H p (.lst ((List.range 7).map fun k => L2.T (nms c k))))
theorem mf (T : Txt K mg a) : bt P w K mg base (XE P w) 1 a.eT a.gU ["_law_cell"] sp_wu := by
  refine T.e9.okG g4 (fun vs H Q E h => sp1.len h) (fun cdv A outer s H vs Q E hr h => ?_)
  obtain ⟨x0, rfl, h⟩ := sp1.inv h
  have ND := g4.nd
  obtain ⟨hN, h1⟩ := h
  obtain ⟨c, rfl, q⟩ := asI.inv h1
  have sz : 1000 ≤ sizeLine := by rw [sizeLine_eq]; decide
  refine ⟨hN, _, (ah (aB (i := 1) ND rfl (Or.inr rfl) (aN [97, 98, 99, 100, 101, 102, 103, 104, 105, 106, 107, 108, 109, 110, 111, 112, 113, 114, 115, 116, 117, 118, 119, 120, 121, 122]))
      (ah (aB (i := 2) ND rfl (Or.inl rfl) (al aO ae (al aP (fv 0) ae)))
      (ah (aB (i := 3) ND rfl (Or.inr rfl) (al aO ae (al aP (al aW (fv 0) ae) ae)))
      (ah (aB (i := 4) ND rfl (Or.inl rfl) (cJ K PySem.F.plainAttrs_str PySem.F.slot_str_join PySem.F.type_str_join (o9 K) (aN []) (FA.pa (aa (cP rfl (cl := _) (x := "_law_k") (xs := ["_law_k"]) (fr := ["_law_letters", "_law_cell", "_law_step"]) (ks := [1, 0, 3]) (by exact ⟨rfl, by decide +kernel, rfl, by decide +kernel, rfl, dL rfl, rfl, bo rfl, bo (k := fun y => List.lookup y _) rfl, dN rfl⟩) rfl (cY rfl T.dP (FA.pa (aa (fv 2) ag))) (fun _ _ _ _ _ => (aL (i := 0) (gX (l := ["_law_k", "_law_letters", "_law_cell", "_law_step"]) (by decide)) rfl (Or.inl rfl))) (fun _ _ _ _ _ => gH) (fun _ _ _ _ _ => (bd (aA K) (fv 1) (al aP (al aO (al aW (fv 2) ae) (al cT (fv 3) (fv 0))) ae) (fun _ _ => rfl)))) ag))))
      (ah (aB (i := 5) ND rfl (Or.inl rfl) (al aP (al aW (fv 0) ae) (al aO (fv 2) ae)))
      (ah (aB (i := 6) ND rfl (Or.inl rfl) (cS (FA.pa ag)))
      (ah (da (by passes_own) rfl (cY rfl T.dP (FA.pa (aa ae ag))) (aL (i := 7) ND rfl (Or.inl rfl)) (ah (aB (i := 8) ND rfl (Or.inl rfl) (bd (aA K) (fv 1) (al aP (al aO (al aW (fv 0) ae) (al cT ae (fv 7))) ae) (fun _ _ => rfl)))
      (ak (cq (cJ K PySem.F.plainAttrs_list PySem.F.slot_list_append PySem.F.type_list_append cv (fv 6) (FA.pa (aa (al aO (al aO (fR nn (fv 4) iB (iN (fv 5))) (fv 8)) (fR nn (fv 4) (iN (fv 5)) iB)) ag)))))))
      (ak (aI (al vC (fv 6) (cS (FA.pa (aa (fv 4) ag))))))))))))), ?_⟩
  walk_at "rd"
  refine cmR (fun _ => True) (fun _ _ _ => trivial) (1 + c % 10).toNat (fun _ => true) (fun j : Nat => L2.T [sg (c / 250) (1 + c / 10 % 25) j]) (fun R r => ?_) (by walk_at "om") (fun j hj H R _ r => r) (fun j hj _ H' R _ r => ?_) (fun D hD => ?_)
  · walk_at "rd"
    rw [show ((1 + c % 10).toNat : Int) = 1 + c % 10 by walk_at "om"] at r; exact r
  · walk_at "rd"
    refine ⟨.inl (by walk_at "om"), by walk_at "om", ?_⟩
    show match atI LET ((c / 250 + (1 + c / 10 % 25) * (j : Int)) % 26) with | some c => R (L2.T [c]) H' | none => False
    rw [u_ (by walk_at "om") (by walk_at "om")]
    exact r
  · refine vg (List.range (1 + c % 10).toNat) (fun j : Nat => sg (c / 250) (1 + c / 10 % 25) j) (by rw [ad, List.filter_eq_self.mpr (by simp)]) (by rw [List.length_range]; omega) ?_
    show 0 < 1 + c % 10 + 1 ∧ _
    refine ⟨by walk_at "om", by walk_at "om", fun p hp => ?_⟩
    have hw : (wd (c / 250) (1 + c / 10 % 25) (1 + c % 10).toNat).length ≤ 10 := by simp [wd]; omega
    have s1 := aj (HO.lst (List.map (fun j : Nat => L2.T [sg (c / 250) (1 + c / 10 % 25) j]) (List.filter (fun _ => true) (List.range (1 + c % 10).toNat)))) hD
    generalize upd H D (HO.lst (List.map (fun j : Nat => L2.T [sg (c / 250) (1 + c / 10 % 25) j]) (List.filter (fun _ => true) (List.range (1 + c % 10).toNat)))) = H1 at s1 hp ⊢
    have p0 : H p = none := s1.free hp
    have a0 : 0 ≤ c / 6500 % (1 + c % 10 + 1) := Int.emod_nonneg _ (by walk_at "om")
    have a1 : c / 6500 % (1 + c % 10 + 1) < 1 + c % 10 + 1 := Int.emod_lt_of_pos _ (by walk_at "om")
    have en : ∀ k : Nat, nms c k = if k < 6 then (wd (c / 250) (1 + c / 10 % 25) (1 + c % 10).toNat).take (c / 6500 % (1 + c % 10 + 1)).toNat ++ [97 + ((c / 71500 + 3 * k) % 26).toNat] ++ (wd (c / 250) (1 + c / 10 % 25) (1 + c % 10).toNat).drop (c / 6500 % (1 + c % 10 + 1)).toNat else wd (c / 250) (1 + c / 10 % 25) (1 + c % 10).toNat := fun _ => rfl
    have ew : List.map (fun j : Nat => sg (c / 250) (1 + c / 10 % 25) j) (List.range (1 + c % 10).toNat) = wd (c / 250) (1 + c / 10 % 25) (1 + c % 10).toNat := rfl
    rw [ew]
    generalize wd (c / 250) (1 + c / 10 % 25) (1 + c % 10).toNat = w at hw en ⊢
    generalize c / 6500 % (1 + c % 10 + 1) = t at a0 a1 en ⊢
    refine fP ?_
    walk_at "rd"
    refine dQ (lo := 0) (n := 6) (fun i σ' H' => Same H H' ∧ H' p = some (.lst ((List.range i).map fun k => L2.T (nms c k))) ∧ ∃ x7 x8, σ' = [some (.int c), some (L2.T LET), some (.int (1 + c % 10)), some (.int (1 + c / 10 % 25)), some (L2.T w), some (.int t), some (.ref p), x7, x8]) ⟨s1.trans (aj _ hp), ad, none, none, rfl⟩ ?_ ?_
    · rintro i σ' H' hi ⟨sm, hp', x7, x8, rfl⟩
      walk_at "rd"
      refine ⟨by show 26 ≤ sizeLine; omega, ?_⟩
      show match atI LET ((c / 71500 + 3 * (0 + (i : Int))) % 26) with | some c_1 => _ | none => False
      rw [u_ (by walk_at "om") (by walk_at "om")]
      walk_at "rd"
      refine ⟨.inl ⟨_, SqL.of hp'⟩, by walk_at "om", ?_⟩
      rw [xc a0, uF a0]
      walk_at "rd"
      have ni : nms c i = List.take t.toNat w ++ [97 + ((c / 71500 + 3 * (0 + (i : Int))) % 26).toNat] ++ List.drop t.toNat w := by rw [en i, if_pos hi, Int.zero_add]
      rw [← ni]
      refine ⟨by simp; omega, by walk_at "om", by simp; omega, p, _, _, rfl, rfl, hp', by simp; omega, b8 sm p0, ?_, _, _, rfl, rfl⟩
      rw [ad, List.range_succ, List.map_append]; rfl
    · rintro σ' H' ⟨sm, hp', x7, x8, rfl⟩
      walk_at "rd"
      refine ⟨by walk_at "om", fun q1 h1 => ⟨_, _, (ap (ai hp' h1)).trans hp', ad, by simp; omega, fun q2 h2 => ?_⟩⟩
      have s2 := (sm.trans (aj (HO.lst [L2.T w]) h1)).trans (aj (HO.lst (List.map (fun k => L2.T (nms c k)) (List.range 6) ++ [L2.T w])) h2)
      refine ⟨_, Gc.one s2 ((sm.trans (aj _ h1)).free h2) ad rfl, ?_⟩
      have e : List.map (fun k => L2.T (nms c k)) (List.range 6) ++ [L2.T w] = (List.range 7).map fun k => L2.T (nms c k) := by
        rw [List.range_succ (n := 6), List.map_append, List.map_singleton, en 6, if_neg (by decide)]
      rw [e]
      exact q q2 ((sm.trans (aj _ h1)).free h2)
def sp_ym : Sp := sp1 fun x H Q _ => NoT H ∧ asI x fun c => ∀ cu : List (List Nat), cu.length = 3 → (∀ l ∈ cu, l.length ≤ 10) → ∀ q, H q = none → Q (.ref q) (upd H q (.lst (cu.map L2.T)))
theorem ia (T : Txt K mg a) : bt P w K mg base (XE P w) 1 a.cR a.dY ["_law_cell"] sp_ym := by
  refine T.cO.okG dX (fun vs H Q E h => sp1.len h) (fun cdv A outer s H vs Q E hr h => ?_)
  obtain ⟨x0, rfl, h⟩ := sp1.inv h
  have ND := dX.nd
  obtain ⟨hN, h1⟩ := h
  obtain ⟨c, rfl, q⟩ := asI.inv h1
  have sz : 1000 ≤ sizeLine := by rw [sizeLine_eq]; decide
  refine ⟨hN, _, (ah (aB (i := 1) ND rfl (Or.inr rfl) (aN [65, 66, 67, 68, 69, 70, 71, 72, 73, 74, 75, 76, 77, 78, 79, 80, 81, 82, 83, 84, 85, 86, 87, 88, 89, 90]))
      (ah (aB (i := 2) ND rfl (Or.inr rfl) (al aO (bd (aA K) (fv 1) (al aP (al aW (fv 0) ae) ae) (fun _ _ => rfl)) (bd (aA K) (fv 1) (al aP (al aW (fv 0) ae) ae) (fun _ _ => rfl))))
      (ah (aB (i := 3) ND rfl (Or.inr rfl) (al aP (fv 0) ae))
      (ak (aI (cP rfl (cl := _) (x := "_law_k") (xs := ["_law_k"]) (fr := ["_law_word", "_law_letters", "_law_at", "_law_cell"]) (ks := [2, 1, 3, 0]) (by exact ⟨rfl, by decide +kernel, rfl, by decide +kernel, rfl, dL rfl, rfl, bo rfl, bo (k := fun y => List.lookup y _) rfl, dN rfl⟩) rfl (cY rfl T.dP (FA.pa (aa ae ag))) (fun _ _ _ _ _ => (aL (i := 0) (gX (l := ["_law_k", "_law_word", "_law_letters", "_law_at", "_law_cell"]) (by decide)) rfl (Or.inl rfl))) (fun _ _ _ _ _ => gH) (fun _ _ _ _ _ => (al aO (al aO (fR nn (fv 1) iB (iN (fv 3))) (bd (aA K) (fv 2) (al aP (al aO (al aW (fv 4) ae) (al cT ae (fv 0))) ae) (fun _ _ => rfl))) (fR nn (fv 1) (iN (fv 3)) iB))))))))), ?_⟩
  walk_at "rd"
  have up_at : ∀ i : Int, 0 ≤ i → i < 26 → ∃ z, atI [65, 66, 67, 68, 69, 70, 71, 72, 73, 74, 75, 76, 77, 78, 79, 80, 81, 82, 83, 84, 85, 86, 87, 88, 89, 90] i = some z := fun i h0 h1 => by
    obtain ⟨j, rfl⟩ := Int.eq_ofNat_of_zero_le h0
    have hj : j < [65, 66, 67, 68, 69, 70, 71, 72, 73, 74, 75, 76, 77, 78, 79, 80, 81, 82, 83, 84, 85, 86, 87, 88, 89, 90].length := by show j < 26; omega
    exact ⟨_, bL (List.getElem?_eq_getElem hj)⟩
  obtain ⟨z1, e1⟩ := up_at (c / 3 % 26) (by walk_at "om") (by walk_at "om")
  obtain ⟨z2, e2⟩ := up_at (c / 78 % 26) (by walk_at "om") (by walk_at "om")
  refine ⟨by walk_at "om", ?_⟩
  rw [e1]
  refine ⟨by walk_at "om", ?_⟩
  rw [e2]
  refine ⟨by walk_at "om", ?_⟩
  have gs : ∀ j : Nat, ∃ z, atI [65, 66, 67, 68, 69, 70, 71, 72, 73, 74, 75, 76, 77, 78, 79, 80, 81, 82, 83, 84, 85, 86, 87, 88, 89, 90] ((c / 2028 + 3 * (j : Int)) % 26) = some z := fun j => up_at _ (by walk_at "om") (by walk_at "om")
  obtain ⟨gz, hgz⟩ := Classical.axiomOfChoice gs
  refine cmR (fun _ => True) (fun _ _ _ => trivial) 3 (fun _ => true) (fun j : Nat => L2.T (gM [z1, z2] none (some (c % 3)) ++ [gz j] ++ gM [z1, z2] (some (c % 3)) none)) (fun R r => r) (by walk_at "om") (fun j hj H R _ r => r) (fun j hj _ H' R _ r => ?_) (fun D hD => ?_)
  · walk_at "rd"
    refine ⟨by walk_at "om", by walk_at "om", ?_⟩
    rw [hgz]
    walk_at "rd"
    have l1 := jT [z1, z2] none (some (c % 3))
    have l2 := jT [z1, z2] (some (c % 3)) none
    simp only [List.length_append, List.length_cons, List.length_nil] at *
    exact ⟨by walk_at "om", by walk_at "om", by walk_at "om", r⟩
  · have e : ((List.range 3).filter fun _ => true).map (fun j : Nat => L2.T (gM [z1, z2] none (some (c % 3)) ++ [gz j] ++ gM [z1, z2] (some (c % 3)) none)) = ((List.range 3).map fun j : Nat => gM [z1, z2] none (some (c % 3)) ++ [gz j] ++ gM [z1, z2] (some (c % 3)) none).map L2.T := by
      rw [List.filter_eq_self.mpr (by simp), List.map_map]; rfl
    rw [e]
    refine ⟨_, Gc.one (aj _ hD) hD ad rfl, q _ rfl (fun l hl => ?_) D hD⟩
    obtain ⟨j, _, rfl⟩ := List.mem_map.mp hl
    have := jT [z1, z2] none (some (c % 3))
    have := jT [z1, z2] (some (c % 3)) none
    simp only [List.length_append, List.length_cons, List.length_nil] at *
    omega
def sp_wq : Sp := sp1 fun x H Q _ => NoT H ∧ asI x fun m => ∀ i : Int, Q (.int i) H
theorem lR (T : Txt K mg a) : bt P w K mg base (XE P w) 1 a.cN a.gZ ["_law_month"] sp_wq := by
  refine T.cQ.okG g0 (fun vs H Q E h => sp1.len h) (fun cdv A outer s H vs Q E hr h => ?_)
  obtain ⟨x0, rfl, h⟩ := sp1.inv h
  have ND := g0.nd
  have HU : (cL (XE P w) P w K mg base ["_law_month", "_law_year", "_law_day_here", "_law_long_year", "_law_place"] "_law_first" (af aZ) a.cN cdv A outer s H (gcE H E)).A.units + 100 < cLine := bQ hr
  obtain ⟨hN, h1⟩ := h
  obtain ⟨m, rfl, q⟩ := asI.inv h1
  have c3 : ∃ u, PSs (cL (XE P w) P w K mg base ["_law_month", "_law_year", "_law_day_here", "_law_long_year", "_law_place"] "_law_first" (af aZ) a.cN cdv A outer s H (gcE H E)) (List.drop 3 (av aZ)) u ∧ ∀ (y d : Int) (bb : Bool), u { nx := fun _ H' => ∃ G, Gc H G H' ∧ Q .non G, rt := fun v H' => ∃ G, Gc H G H' ∧ Q v G } [some (.int m), some (.int y), some (.int d), some (.bl bb), none] H := by
    refine ⟨_, (ah (da (by passes_own) rfl (cY rfl T.dP (FA.pa (aa (al aP (fv 0) ae) ag))) (aL (i := 4) ND rfl (Or.inl rfl)) (ak (aB (i := 2) ND rfl (Or.inl rfl) (al aO (al aO (fv 2) (lB (FA.pa (aa ae (aa ae (aa ae (aa ae (aa ae (aa ae (aa ae (aa ae (aa ae (aa ae (aa ae ag)))))))))))) (fv 4) (fun _ _ => rfl))) (gG xa rfl T.vJ sf (FA.pa (aa (dR (ei (dW K HU) (fv 4) ae (bN _)) (dw (fv 3))) ag)))))))
      (ak (aI (fv 2)))), fun y d bb => ?_⟩
    walk_at "rd"
    refine fP ?_
    walk_at "rd"
    have m0 : 0 ≤ m % 12 ∧ m % 12 < 12 := by walk_at "om"
    refine ⟨by walk_at "om", by walk_at "om", dQ (lo := 0) (n := (m % 12).toNat) (fun i σ' H' => H' = H ∧ ∃ d x4, σ' = [some (.int m), some (.int y), some (.int d), some (.bl bb), x4]) ⟨rfl, d, none, rfl⟩ ?_ ?_⟩
    · rintro i σ' H' hi ⟨rfl, d', x4, rfl⟩
      walk_at "rd"
      refine ⟨hN, by rw [sizeLine_eq]; decide, fun p hp => ng (ns := [31, 28, 31, 30, 31, 30, 31, 31, 30, 31, 30]) (by walk_at "om") (by show _ < (11 : Int); omega) ?_⟩
      walk_at "rd"
      split
      · first | exact ⟨_, _, rfl, rfl⟩ | exact ⟨_, rfl⟩
      · first | exact ⟨_, _, rfl, rfl⟩ | exact ⟨_, rfl⟩
    · rintro σ' H' ⟨rfl, d', x4, rfl⟩
      walk_at "rd"
      exact q d'
  obtain ⟨u3, hu3, c3⟩ := c3
  refine ⟨hN, _, (ah (aB (i := 1) ND rfl (Or.inl rfl) (al aW (fv 0) ae))
      (ah (aB (i := 2) ND rfl (Or.inl rfl) (al aO (al kf (al aO (al cT ae (fv 1)) (al aW (al aO (fv 1) ae) ae)) (al aW (al aO (fv 1) ae) ae)) (al aW (al aO (fv 1) ae) ae)))
      (ah (aB (i := 3) ND rfl (Or.inl rfl) (dR (ei (dW K HU) (al aP (fv 1) ae) ae (bN _)) (dw (yw (ei (oa K HU) (al aP (fv 1) ae) ae (bN _)) (dw (ei (dW K HU) (al aP (fv 1) ae) ae (bN _)))))))
      hu3))), ?_⟩
  walk_at "rd"
  split
  · split
    · exact c3 _ _ _
    · exact c3 _ _ _
  · exact c3 _ _ _
def sp_Ay : Sp := sp2 fun x y H Q _ => NoT H ∧ asI x fun c => asI y fun m => ∀ i : Int, Q (.int i) H
theorem pG (T : Txt K mg a) : bt P w K mg base (XE P w) 2 a.e6 a.jB ["_law_cell", "_law_month"] sp_Ay := by
  refine T.eQ.okG qR (fun vs H Q E h => sp2.len h) (fun cdv A outer s H vs Q E hr h => ?_)
  obtain ⟨x0, x1, rfl, h⟩ := sp2.inv h
  have HU : (cL (XE P w) P w K mg base ["_law_cell", "_law_month"] "_law_day" (af bT) a.e6 cdv A outer s H (gcE H E)).A.units + 100 < cLine := bQ hr
  obtain ⟨hN, h1⟩ := h
  obtain ⟨c, rfl, h2⟩ := asI.inv h1
  obtain ⟨m, rfl, q⟩ := asI.inv h2
  have G__law_first := lR (P := P) (w := w) (base := base) T
  have b__law_first := lL T.cQ
  refine ⟨hN, _, (ah (cf (cj (dW K HU) (al aP (fv 0) ae) ae (bN _)) (ak (aI (au G__law_first (hr.mono (by decide)) rfl T.fw T.cQ.kp b__law_first .nil aC (FA.pa (aa (fv 1) ag))))) bi)
      (ah (cf (cj (dW K HU) (al aP (fv 0) ae) ae (bN _)) (ak (aI (al kf (au G__law_first (hr.mono (by decide)) rfl T.fw T.cQ.kp b__law_first .nil aC (FA.pa (aa (al aO (fv 1) ae) ag))) ae))) bi)
      (ak (aI (al aO (au G__law_first (hr.mono (by decide)) rfl T.fw T.cQ.kp b__law_first .nil aC (FA.pa (aa (fv 1) ag))) (al aP (al aW (fv 0) ae) ae)))))), ?_⟩
  walk_at "rd"
  split
  · exact ⟨hN, q⟩
  · split
    · exact ⟨hN, fun i => q _⟩
    · exact ⟨hN, fun i => q _⟩
def sp_uN : Sp := sp1 fun x H Q _ => NoT H ∧ asI x fun c => (0 ≤ c ∧ c < 2147483647) ∧ ∀ i : Int, Q (.int i) H
theorem ky (T : Txt K mg a) : bt P w K mg base (XE P w) 1 a.de a.fW ["_law_cell"] sp_uN := by
  refine T.eA.okG fY (fun vs H Q E h => sp1.len h) (fun cdv A outer s H vs Q E hr h => ?_)
  obtain ⟨x0, rfl, h⟩ := sp1.inv h
  have ND := fY.nd
  have HU : (cL (XE P w) P w K mg base ["_law_cell", "_law_some"] "_law_amount" (af bc) a.de cdv A outer s H (gcE H E)).A.units + 100 < cLine := bQ hr
  obtain ⟨hN, h1⟩ := h
  obtain ⟨c, rfl, hc, q⟩ := asI.inv h1
  refine ⟨hN, _, (ah (aB (i := 1) ND rfl (Or.inl rfl) (al aO ae (al aP (al aW (fv 0) ae) ae)))
      (ah (cf (cj (dW K HU) (al aP (fv 0) ae) ae (bN _)) (ak (aB (i := 1) ND rfl (Or.inl rfl) (al aO ae (al aP (al cT (fv 0) (fv 0)) (al wJ ae ae))))) bi)
      (ah (cf (cj (dW K HU) (al aP (fv 0) ae) ae (bN _)) (ak (aB (i := 1) ND rfl (Or.inl rfl) (al kf (al wJ ae ae) (al aP (al aW (fv 0) ae) ae)))) bi)
      (ak (aI (al cT (fv 1) (al kf ae (al cT ae (al aP (al aW (fv 0) ae) ae))))))))), ?_⟩
  walk_at "rd"
  have e : (10 : Int) ^ Int.toNat 15 = 1000000000000000 := by decide
  have z : -18446744073709551616 < 1 - 2 * (c / 3 % 2) ∧ 1 - 2 * (c / 3 % 2) < 18446744073709551616 := by walk_at "om"
  have y : Int.natAbs 10 < 18446744073709551616 := by decide
  rw [e]
  split
  · refine ⟨.inl (by walk_at "om"), y, by decide, ?_⟩
    split
    · exact ⟨y, .inr z, q _⟩
    · exact ⟨.inr z, q _⟩
  · split
    · exact ⟨y, .inr z, q _⟩
    · exact ⟨.inr z, q _⟩
end
section
variable {pS : Addr} {ns : List Int} {P : Program} {w : World} {K : PySem.W.Frag} {mg : Str → Option Value} {base : Heap} {a : Adr}
theorem wM (x y : V) : List.lookup (Str.ofString "every") [(Str.ofString "bookings", x), (Str.ofString "undoings", y)] = none := by rw [bn (by decide +kernel), bn (by decide +kernel)]; rfl
theorem cM {α : Type} {l : List α} {i : Nat} {x : α} (h : l[i]? = some x) : l.take (i + 1) = l.take i ++ [x] := by rw [List.take_succ, h]; rfl
theorem sO (o : Option Int) (j : Int) : (o.map V.int).getD (.int j) = .int (o.getD j) := by cases o <;> rfl
def zb (H : Hp) (Q : VK) (rs : List Row) : Prop := ∀ out r ws H', out.Perm ((dk rs).map (·.1)) → uz out → H r = none → H' r = some (.lst ws) → A2 (RwAt H') ws (res rs out) → Same H H' → NoT H' → Q (.ref r) H'
def flt (H H' : Hp) : Hp := fun p => match H p with
  | some o => some o
  | none => match H' p with
    | some o => if ig o = true then some o else none
    | none => none
theorem tz {H H' : Hp} {p : Addr} {o : HO} (h : H p = some o) : flt H H' p = some o := by unfold flt; rw [h]
theorem rT {H H' : Hp} (s : Same H H') {p : Addr} {o : HO} (h : H' p = some o) (n : ig o = true) : flt H H' p = some o := by
  cases e : H p with
  | some z => rw [s _ _ e] at h; cases h; exact tz e
  | none => unfold flt; simp only [e, h, n, if_true]
theorem nV {H H' : Hp} {p : Addr} {o : HO} (h : flt H H' p = some o) : H p = some o ∨ (H' p = some o ∧ ig o = true) := by
  unfold flt at h
  cases e : H p with
  | some z => rw [e] at h; exact .inl h
  | none =>
    simp only [e] at h
    cases e2 : H' p with
    | none => rw [e2] at h; cases h
    | some z =>
      simp only [e2] at h
      split at h
      · rename_i q; cases h; exact .inr ⟨rfl, q⟩
      · cases h
theorem Gc.flt {H H' : Hp} (s : Same H H') : Gc H (flt H H') H' := ⟨fun _ _ e => tz e, fun p o e => (nV e).elim (s p o) (·.1), fun p o e => (nV e).imp id (·.2)⟩
theorem tE {H H' : Hp} (n : NoT H) : NoT (flt H H') := fun p o e => by
  rcases nV e with q | ⟨_, q⟩
  · exact n p o q
  · cases o <;> first | rfl | cases q
theorem pR {H H' : Hp} (s : Same H H') {vs : List V} {rs : List Row} (h : A2 (RwAt H') vs rs) : A2 (RwAt (flt H H')) vs rs := h.imp fun _ _ _ _ ⟨q, e, r⟩ => ⟨q, e, rT s r rfl⟩
theorem pe {H0 F : Hp} {D p : Addr} {ys : List V} {rs : List Row} (r : Row) (s : Same H0 F) (fD : H0 D = none) (hD : F D = some (.lst ys)) (hp : F p = none) (aw : A2 (RwAt F) ys rs) :
    upd F p (.tup [L2.T r.pa, L2.T r.cu, .int r.am]) D = some (.lst ys) ∧ Same H0 (upd (upd F p (.tup [L2.T r.pa, L2.T r.cu, .int r.am])) D (.lst (ys ++ [.ref p]))) ∧ A2 (RwAt (upd (upd F p (.tup [L2.T r.pa, L2.T r.cu, .int r.am])) D (.lst (ys ++ [.ref p])))) (ys ++ [.ref p]) (rs ++ [r]) := by
  have s1 := aj (HO.tup [L2.T r.pa, L2.T r.cu, .int r.am]) hp
  have hD1 := s1 _ _ hD
  have kp : Keep [D] (upd F p (.tup [L2.T r.pa, L2.T r.cu, .int r.am])) (upd (upd F p (.tup [L2.T r.pa, L2.T r.cu, .int r.am])) D (.lst (ys ++ [.ref p]))) := Keep.refl.put (.head _)
  exact ⟨hD1, b8 (s.trans s1) fD, (bp kp (LW.one hD1) (bJ s1 aw)).snoc ⟨p, rfl, (ap (Ne.symm (ai hD hp))).trans ad⟩⟩
def sp_xD : Sp := sp1 fun x H Q _ => NoT H ∧ asR x fun p => ∃ vs rs, H p = some (.lst vs) ∧ A2 (RwAt H) vs rs ∧ rs.length ≤ 1000 ∧ (dk rs).length < 64 ∧ zb H Q rs
theorem qF (d : List (Pt × Int)) : (d.map gQ).map (·.1) = (d.map (·.1)).map kP := by rw [List.map_map, List.map_map]; rfl
theorem rn (T : Txt K mg a) : bt P w K mg base (XE P w) 1 a.gF a.lD ["rows"] sp_xD := by
  refine T.iV.okG kI (fun vs H Q E h => sp1.len h) (fun cdv A outer s H vs Q E hr h => ?_)
  obtain ⟨x0, rfl, h⟩ := sp1.inv h
  have ND := kI.nd
  have HU : (cL (XE P w) P w K mg base ["rows", "together", "path", "currency", "amount"] "sums_of" (af ce) a.gF cdv A outer s H (gcE H E)).A.units + 100 < cLine := bQ hr
  obtain ⟨hN, h1⟩ := h
  obtain ⟨p, rfl, vs, rs, hp, ha, len, l64, k⟩ := asR.inv h1
  have sz : 1000 ≤ sizeLine := by rw [sizeLine_eq]; decide
  refine ⟨hN, _, (ah (aB (i := 1) ND rfl (Or.inr rfl) pI)
      (ah (da (by passes_own) rfl (cC K (fv 0)) (iO K (n := 3) rfl (b_ (aL (i := 2) ND rfl (Or.inl rfl)) (b_ (aL (i := 3) ND rfl (Or.inl rfl)) (b_ (aL (i := 4) ND rfl (Or.inl rfl)) iT)))) (ak (iu (Nat.lt_of_le_of_lt (Nat.add_le_add_left (by decide) _) HU) (fv 1) (cV (FA.pa (aa (fv 2) (aa (fv 3) ag)))) (al aO (pw (Nat.lt_of_le_of_lt (Nat.add_le_add_left (by decide) _) HU) (fv 1) (cV (FA.pa (aa (fv 2) (aa (fv 3) ag)))) ae ⟨rfl, rfl, rfl, rfl⟩) (fv 4)) rfl)))
      (ak (aI (cP rfl (cl := _) (x := "path") (xs := ["path", "currency"]) (fr := ["together"]) (ks := [1]) (by exact ⟨rfl, by decide +kernel, rfl, by decide +kernel, rfl, dL rfl, rfl, bo rfl, bo (k := fun y => List.lookup y _) rfl, dN rfl⟩) rfl (cC K (aJ (mL rfl) rfl T.pJ mI (FA.pa (aa (fv 1) ag)))) (fun _ _ _ _ _ => (iO K (n := 2) rfl (b_ (aL (i := 0) (gX (l := ["path", "currency", "together"]) (by decide)) rfl (Or.inl rfl)) (b_ (aL (i := 1) (gX (l := ["path", "currency", "together"]) (by decide)) rfl (Or.inl rfl)) iT)))) (fun _ _ _ _ _ => (oU (cj (oa K HU) (iH (Nat.lt_of_le_of_lt (Nat.add_le_add_left (by decide) _) HU) (fv 2) (cV (FA.pa (aa (fv 0) (aa (fv 1) ag)))) (fun _ _ => rfl)) ae (bN _)))) (fun _ _ _ _ _ => (cV (FA.pa (aa (fv 0) (aa (fv 1) (aa (iH (Nat.lt_of_le_of_lt (Nat.add_le_add_left (by decide) _) HU) (fv 2) (cV (FA.pa (aa (fv 0) (aa (fv 1) ag)))) (fun _ _ => rfl)) ag))))))))))), ?_⟩
  walk_at "rd"
  intro d hd
  refine fV ?_
  walk_at "rd"
  refine gl (SqL.of ((aj _ hd) _ _ hp)) (fZ (fun i σ' H' => Same H H' ∧ ∃ x2 x3 x4, H' d = some (.dT ((dk (rs.take i)).map gQ)) ∧ σ' = [some (.ref p), some (.ref d), x2, x3, x4]) ⟨aj _ hd, none, none, none, ad, rfl⟩ (fun i σ' H' _ h => SqL.of (h.1 _ _ hp)) ?_ ?_)
  · rintro i x σ' H' hx ⟨sm, x2, x3, x4, hd', rfl⟩
    obtain ⟨r, hr, q, rfl, hq⟩ := ha.at_ hx
    have hq' := sm _ _ hq
    walk_at "rd"
    refine ⟨_, _, rfl, SqT.of hq', rfl, _, _, rfl, _, _, rfl, _, _, rfl, rfl, ?_⟩
    walk_at "rd"
    have l1 := (wt (rs.take i)).2.2
    have l2 : (rs.take i).length ≤ 1000 := by rw [List.length_take]; omega
    refine ⟨.inr ⟨_, .inl hd'⟩, by walk_at "om", fun p1 hp1 => ⟨_, DGet.t (k := kP (r.pa, r.cu)) ((aj _ hp1) _ _ hd') ad, ?_⟩⟩
    rw [fT, sO]
    walk_at "rd"
    have s1 := aj (HO.tup [L2.T r.pa, L2.T r.cu]) hp1
    refine ⟨by walk_at "om", fun p2 hp2 => ?_⟩
    have s2 := s1.trans (aj (HO.tup [L2.T r.pa, L2.T r.cu]) hp2)
    refine ⟨d, _, rfl, DPut.t (k := kP (r.pa, r.cu)) (s2 _ _ hd') ad (by rw [List.length_map, sizeLine_eq]; omega), ?_⟩
    rw [qg]
    refine ⟨b8 (sm.trans s2) hd, _, _, _, ?_, rfl, rfl, rfl⟩
    rw [ad, cM hr, oV]; rfl
  · rintro σ' H' ⟨sm, x2, x3, x4, hd', rfl⟩
    rw [ha.len, List.take_length] at hd'
    walk_at "rd"
    refine uX ?_
    walk_at "rd"
    refine ⟨_, (dk rs).map (·.1), hd', qF _, by rw [List.length_map]; exact l64, fun out as po oo ao l hl => ?_⟩
    have sl := aj (HO.lst (as.map V.ref)) hl
    have lo := po.length_eq
    rw [List.length_map] at lo
    have la := ao.len
    refine ⟨⟨_, SqL.of ad⟩, uZ l (as.map V.ref) (fun D i ys G => Same (upd H' l (.lst (as.map V.ref))) G ∧ G D = some (.lst ys) ∧ upd H' l (.lst (as.map V.ref)) D = none ∧ A2 (RwAt G) ys (res rs (out.take i))) (by rw [List.length_map, sizeLine_eq]; omega) (fun D hD => ⟨aj _ hD, ad, hD, .nil⟩) (fun D i ys G h => ⟨h.2.1, SqL.of (h.1 _ _ ad), ?_⟩) ?_ ?_⟩
    · rw [h.2.2.2.len]
      exact Nat.le_trans (sT _ _) (by rw [List.length_take]; omega)
    · rintro D i y ys G zs N1 N0 hy ⟨sG, hD, fD, aG⟩ hz n1 n0
      rw [List.getElem?_map] at hy
      obtain ⟨b, hb, rfl⟩ := Option.map_eq_some_iff.mp hy
      obtain ⟨e, he, kb⟩ := ao.at_ hb
      have kG := sG _ _ (sl _ _ kb)
      have dG := sG _ _ (sl _ _ hd')
      have ve := wm (po.mem_iff.mp (List.mem_of_getElem? he))
      obtain ⟨z1, z2, rfl⟩ := ex2 hz
      walk_at "rd"
      refine ⟨_, _, rfl, SqT.of kG, rfl, _, _, rfl, _, _, rfl, rfl, ?_⟩
      walk_at "rd"
      have gd : ∀ (F : Hp) (q : Addr), KAt F q e → F d = some (.dT ((dk (rs)).map gQ)) → DGet F d (.ref q) (some (.int (val (rs) e))) := fun F q h1 h2 => by
        have g := DGet.t (k := kP e) h2 h1
        rwa [fT, ve] at g
      rw [cM he, qk] at n1 n0
      refine ⟨⟨[some (L2.T e.1), some (L2.T e.2)], rfl, rfl⟩, by walk_at "om", fun p1 hp1 => ?_⟩
      have s1 := aj (HO.tup (tP e)) hp1
      refine ⟨d, _, rfl, gd _ p1 ad (s1 _ _ dG), ?_⟩
      walk_at "rd"
      by_cases hv : val rs e = 0
      · rw [if_neg fun z => z hv, List.append_nil] at n0
        exact itp hv (n0 _ ⟨sG.trans s1, s1 _ _ hD, fD, bJ s1 aG⟩)
      · rw [if_pos hv] at n1
        refine itn hv ⟨by walk_at "om", fun p2 hp2 => ?_⟩
        have s2 := s1.trans (aj (HO.tup (tP e)) hp2)
        refine ⟨d, _, rfl, gd _ p2 ad (s2 _ _ dG), by walk_at "om", fun p3 hp3 => ?_⟩
        obtain ⟨m1, m2, m3⟩ := pe ⟨e.1, e.2, val rs e⟩ (sG.trans s2) fD (s2 _ _ hD) hp3 (bJ s2 aG)
        exact n1 _ _ m1 ⟨m2, ad, fD, m3⟩
    · rintro D ys G ⟨sG, hD, fD, aG⟩
      rw [List.length_map, la, List.take_length] at aG
      have sg := (sm.trans sl).trans sG
      exact ⟨_, Gc.flt sg, k out D ys _ po oo ((sm.trans sl).free fD) (rT sg hD rfl) (pR sg aG) (Gc.flt sg).a (tE hN)⟩
def sp_si : Sp := sp1 fun x H Q _ => NoT H ∧ asR x fun p => ∃ vs bs, H p = some (.lst vs) ∧ A2 (BkAt H) vs bs ∧ bs.length ≤ 20 ∧ (∀ b ∈ bs, b.rs.length ≤ 10) ∧ ∀ r ws H', H r = none → H' r = some (.lst ws) → A2 (RwAt H') ws (bs.flatMap (·.rs)) → Same H H' → NoT H' → Q (.ref r) H'
theorem o_ : ∀ {bs : List Bk}, (∀ b ∈ bs, b.rs.length ≤ 10) → (bs.flatMap (·.rs)).length ≤ 10 * bs.length
  | [], _ => Nat.le_refl _
  | b :: r, h => by
    have ih := o_ (bs := r) fun x m => h x (.tail _ m)
    have hb := h b (.head _)
    rw [List.flatMap_cons, List.length_append, List.length_cons]; omega
theorem rO (T : Txt K mg a) : bt P w K mg base (XE P w) 1 a.i8 a.kc ["bookings"] sp_si := by
  refine T.jp.okX kq (fun vs H Q E h => sp1.len h) (fun cdv A outer s H vs Q E hr h => ?_)
  obtain ⟨x0, rfl, h⟩ := sp1.inv h
  have ND := kq.nd
  obtain ⟨hN, h1⟩ := h
  obtain ⟨p, rfl, vs, bs, hp, ha, len, ok, k⟩ := asR.inv h1
  have sz : 1000 ≤ sizeLine := by rw [sizeLine_eq]; decide
  refine ⟨_, (ah (aB (i := 1) ND rfl (Or.inl rfl) (cS (FA.pa ag)))
      (ah (da (by passes_own) rfl (cC K (fv 0)) (aL (i := 2) ND rfl (Or.inl rfl)) (ak (cq (cJ K PySem.F.plainAttrs_list PySem.F.slot_list_extend PySem.F.type_list_extend xR (fv 1) (FA.pa (aa (bd (aA K) (fv 2) ae (fun _ _ => rfl)) ag))))))
      (ak (aI (fv 1))))), ?_⟩
  walk_at "rd"
  refine ⟨Nat.zero_le _, fun r hr => fV ?_⟩
  walk_at "rd"
  refine gl (SqL.of ((aj _ hr) _ _ hp)) (fZ (fun i σ' H' => Same H H' ∧ NoT H' ∧ ∃ ws x2, H' r = some (.lst ws) ∧ A2 (RwAt H') ws ((bs.take i).flatMap (·.rs)) ∧ σ' = [some (.ref p), some (.ref r), x2]) ⟨aj _ hr, aq hN rfl, [], none, ad, .nil, rfl⟩ (fun i σ' H' _ h => SqL.of (h.1 _ _ hp)) ?_ ?_)
  · rintro i x σ' H' hx ⟨sm, nT, ws, x2, hr', aw, rfl⟩
    obtain ⟨b, hb, q, u, us, rfl, e1, e2, ar⟩ := ha.at_ hx
    have e1' := sm _ _ e1
    have e2' := sm _ _ e2
    have lw := aw.len
    have lf := o_ (bs := bs.take i) fun x m => ok x (List.mem_of_mem_take m)
    rw [List.length_take] at lf
    have lb := ok b (List.mem_of_getElem? hb)
    have lu := ar.len
    walk_at "rd"
    refine ⟨.inl ⟨_, SqL.of hr'⟩, _, _, .inr (SqT.of e1'), bL (j := 3) rfl, r, u, ws, us, rfl, rfl, hr', e2', by rw [sizeLine_eq]; omega, b8 sm hr, aq nT rfl, _, _, ad, ?_, rfl⟩
    have kp : Keep [r] H' (upd H' r (.lst (ws ++ us))) := Keep.refl.put (.head _)
    rw [cM hb, List.flatMap_append, List.flatMap_cons, List.flatMap_nil, List.append_nil]
    exact (bp kp (LW.one hr') aw).app (bp kp (LW.one hr') (bJ sm ar))
  · rintro σ' H' ⟨sm, nT, ws, x2, hr', aw, rfl⟩
    rw [ha.len, List.take_length] at aw
    walk_at "rd"
    exact k r ws H' hr hr' aw sm nT
def sp_wU (J : Addr) : Sp := sp2 fun x y H Q _ => NoT H ∧ asR x fun j => asI y fun t => ∃ b u vs bs, JAt J H j b u vs ∧ A2 (BkAt H) vs bs ∧ bs.length ≤ 20 ∧ ∀ r ws H', H r = none → H' r = some (.lst ws) → A2 (BkAt H') ws (bs.filter fun b => decide (b.d ≤ t)) → Same H H' → NoT H' → Q (.ref r) H'
theorem iJ (T : Txt K mg a) : bt P w K mg base (XE P w) 2 a.c_ a.d8 ["journal", "day"] (sp_wU a.aK) := by
  refine T.cZ.okX iC (fun vs H Q E h => sp2.len h) (fun cdv A outer s H vs Q E hr h => ?_)
  obtain ⟨x0, x1, rfl, h⟩ := sp2.inv h
  obtain ⟨hN, h1⟩ := h
  obtain ⟨j, rfl, h2⟩ := asR.inv h1
  obtain ⟨t, rfl, b, u, vs, bs, JJ, hv, len, k⟩ := asI.inv h2
  have sz : 1000 ≤ sizeLine := by rw [sizeLine_eq]; decide
  have G_Journal_every := jh (P := P) (w := w) (base := base) T
  have b_Journal_every := i_ T.fE
  refine ⟨_, (ak (aI (cP rfl (cl := _) (x := "booking") (xs := ["booking"]) (fr := ["day"]) (ks := [1]) (by exact ⟨rfl, by decide +kernel, rfl, by decide +kernel, rfl, dL rfl, rfl, bo rfl, bo (k := fun y => List.lookup y _) rfl, dN rfl⟩) rfl (cC K (uw (fv 0) T.cK T.jl G_Journal_every (hr.mono (by decide)) b_Journal_every .nil aC)) (fun _ _ _ _ _ => (aL (i := 0) (gX (l := ["booking", "day"]) (by decide)) rfl (Or.inl rfl))) (fun _ _ _ _ _ => (oU (cj fQ (bd (aA K) (fv 0) ae (fun _ _ => rfl)) (fv 1) (bN _)))) (fun _ _ _ _ _ => (fv 0))))), ?_⟩
  obtain ⟨dj, hj⟩ := JJ.ob
  walk_at "rd"
  refine uX ?_
  walk_at "rd"
  refine ⟨_, _, hj, wM _ _, hN, b, u, vs, JJ, fun l hl => ?_⟩
  have sl := aj (HO.lst vs) hl
  have lv := hv.len
  refine ⟨⟨_, SqL.of ad⟩, uZ l vs (fun D i ys G => Same (upd H l (.lst vs)) G ∧ NoT G ∧ G D = some (.lst ys) ∧ upd H l (.lst vs) D = none ∧ A2 (BkAt G) ys ((bs.take i).filter fun b => decide (b.d ≤ t))) (by rw [sizeLine_eq]; omega) (fun D hD => ⟨aj _ hD, aq (aq hN rfl) rfl, ad, hD, .nil⟩) (fun D i ys G h => ⟨h.2.2.1, SqL.of (h.1 _ _ ad), ?_⟩) ?_ ?_⟩
  · rw [h.2.2.2.2.len]
    exact Nat.le_trans (List.length_filter_le _ _) (by rw [List.length_take]; omega)
  · rintro D i y ys G zs N1 N0 hy ⟨sG, nG, hD, fD, aG⟩ hz n1 n0
    obtain ⟨bb, hb1, hb2⟩ := hv.at_ hy
    have hb3 := hb2.keep (W := []) (Keep.same (sl.trans sG)) LW.nil
    obtain ⟨qb, tb, vb, rfl, e1, e2, rw_⟩ := id hb3
    obtain ⟨z1, rfl⟩ := ex1 hz
    walk_at "rd"
    refine ⟨⟨[some (.ref qb)], rfl, rfl⟩, _, _, .inr (SqT.of e1), bL (j := 1) rfl, ?_⟩
    walk_at "rd"
    rw [cM hb1, List.filter_append] at n1 n0
    by_cases h : bb.d ≤ t
    · rw [List.filter_cons_of_pos (by simpa using h)] at n1
      have kp : Keep [D] G (upd G D (.lst (ys ++ [.ref qb]))) := Keep.refl.put (.head _)
      exact itp h (n1 _ _ hD ⟨b8 sG fD, aq nG rfl, ad, fD, (gn kp (LW.one hD) aG).snoc (hb3.keep kp (LW.one hD))⟩)
    · rw [List.filter_cons_of_neg (by simpa using h), List.filter_nil, List.append_nil] at n0
      exact itn h (n0 _ ⟨sG, nG, hD, fD, aG⟩)
  · rintro D ys G ⟨sG, nG, hD, fD, aG⟩
    rw [lv, List.take_length] at aG
    exact k D ys G (sl.free fD) hD aG (sl.trans sG) nG
def sp_Ab (J : Addr) : Sp := sp3 fun _ y z H Q _ => NoT H ∧ asR y fun j => asI z fun t => ∃ b u vs bs, JAt J H j b u vs ∧ A2 (BkAt H) vs bs ∧ bs.length ≤ 20 ∧ (∀ b ∈ bs, b.rs.length ≤ 10) ∧ (dk (rsd t bs)).length < 64 ∧ zb H Q (rsd t bs)
theorem pK (T : Txt K mg a) : bt P w K mg base (XE P w) 3 a.hX a.jx ["chart", "journal", "day"] (sp_Ab a.aK) := by
  refine T.fm.okX qy (fun vs H Q E h => sp3.len h) (fun cdv A outer s H vs Q E hr h => ?_)
  obtain ⟨x0, x1, x2, rfl, h⟩ := sp3.inv h
  obtain ⟨hN, h1⟩ := h
  obtain ⟨j, rfl, h2⟩ := asR.inv h1
  obtain ⟨t, rfl, b, u, vs, bs, JJ, hv, len, ok, l64, k⟩ := asI.inv h2
  have G_sums_of := rn (P := P) (w := w) (base := base) T
  have b_sums_of := rl T.iV
  have G_rows_of := rO (P := P) (w := w) (base := base) T
  have b_rows_of := rJ T.jp
  have G_bookings_up_to := iJ (P := P) (w := w) (base := base) T
  have b_bookings_up_to := ij T.cZ
  refine ⟨_, (ak (aI (au G_sums_of (hr.mono (by decide)) rfl T.um T.iV.kp b_sums_of .nil aC (FA.pa (aa (au G_rows_of (hr.mono (by decide)) rfl T.uJ T.jp.kp b_rows_of .nil aC (FA.pa (aa (au G_bookings_up_to (hr.mono (by decide)) rfl T.iU T.cZ.kp b_bookings_up_to .nil aC (FA.pa (aa (fv 1) (aa (fv 2) ag)))) ag))) ag))))), ?_⟩
  walk_at "rd"
  refine ⟨hN, b, u, vs, bs, JJ, hv, len, fun r ws H1 fr hr aw s1 N1 => ?_⟩
  walk_at "rd"
  refine ⟨N1, ws, _, hr, aw, Nat.le_trans (List.length_filter_le _ _) len, fun x m => ok x (List.mem_filter.mp m).1, fun r2 ws2 H2 fr2 hr2 aw2 s2 N2 => ?_⟩
  walk_at "rd"
  rw [kH] at aw2
  have lr := nW (t := t) ok
  exact ⟨N2, ws2, _, hr2, aw2, by omega, l64, fun out r3 ws3 H3 po oo f3 h3 a3 s3 N3 => k out r3 ws3 H3 po oo ((s1.trans s2).free f3) h3 a3 ((s1.trans s2).trans s3) N3⟩
def sp_z_ : Sp := sp2 fun x y H Q _ => NoT H ∧ asR x fun m => asI y fun t => ∃ ws bs, H m = some (.lst ws) ∧ A2 (MnAt [] H) ws bs ∧ bs.length ≤ 20 ∧ (∀ b ∈ bs, b.rs.length ≤ 10) ∧ (dk (rsd t bs)).length < 64 ∧ zb H Q (rsd t bs)
theorem pi (T : Txt K mg a) : bt P w K mg base (XE P w) 3 a.eS a.jz ["_law_booked", "_law_day_here"] sp_z_ := by
  refine T.g8.okG jA (fun vs H Q E h => sp2.len h) (fun cdv A outer s H vs Q E hr h => ?_)
  obtain ⟨x0, x1, rfl, h⟩ := sp2.inv h
  have ND := jA.nd
  have HU : (cL (XE P w) P w K mg base ["_law_booked", "_law_day_here", "_law_found", "_law_one", "_law_rows_here", "_law_path", "_law_currency", "_law_amount_here"] "_law_due" (af bU) a.eS cdv A outer s H (gcE H E)).A.units + 100 < cLine := bQ hr
  obtain ⟨hN, h1⟩ := h
  obtain ⟨m0, rfl, h2⟩ := asR.inv h1
  obtain ⟨t, rfl, ws, bs, hm0, hv, len, ok, l64, k⟩ := asI.inv h2
  have sz : 1000 ≤ sizeLine := by rw [sizeLine_eq]; decide
  refine ⟨hN, _, (ah (aB (i := 2) ND rfl (Or.inr rfl) pI)
      (ah (da (by passes_own) rfl (cC K (fv 0)) (iO K (n := 2) rfl (b_ (aL (i := 3) ND rfl (Or.inl rfl)) (b_ (aL (i := 4) ND rfl (Or.inl rfl)) iT))) (ak (da (by passes_own) rfl (cC K (fv 4)) (iO K (n := 3) rfl (b_ (aL (i := 5) ND rfl (Or.inl rfl)) (b_ (aL (i := 6) ND rfl (Or.inl rfl)) (b_ (aL (i := 7) ND rfl (Or.inl rfl)) iT)))) (ak (cf (cj fQ (fv 3) (fv 1) (bN _)) (ak (iu (Nat.lt_of_le_of_lt (Nat.add_le_add_left (by decide) _) HU) (fv 2) (cV (FA.pa (aa (fv 5) (aa (fv 6) ag)))) (al aO (pw (Nat.lt_of_le_of_lt (Nat.add_le_add_left (by decide) _) HU) (fv 2) (cV (FA.pa (aa (fv 5) (aa (fv 6) ag)))) ae ⟨rfl, rfl, rfl, rfl⟩) (fv 7)) rfl)) bi)))))
      (ak (aI (cP rfl (cl := _) (x := "_law_pair") (xs := ["_law_pair"]) (fr := ["_law_found"]) (ks := [2]) (by exact ⟨rfl, by decide +kernel, rfl, by decide +kernel, rfl, dL rfl, rfl, bo rfl, bo (k := fun y => List.lookup y _) rfl, dN rfl⟩) rfl (cC K (aJ (mL rfl) rfl T.pJ mI (FA.pa (aa (fv 2) ag)))) (fun _ _ _ _ _ => (aL (i := 0) (gX (l := ["_law_pair", "_law_found"]) (by decide)) rfl (Or.inl rfl))) (fun _ _ _ _ _ => (oU (cj (oa K HU) (iH (Nat.lt_of_le_of_lt (Nat.add_le_add_left (by decide) _) HU) (fv 1) (fv 0) (fun _ _ => rfl)) ae (bN _)))) (fun _ _ _ _ _ => (cV (FA.pa (aa (bd (aA K) (fv 0) ae (fun _ _ => rfl)) (aa (bd (aA K) (fv 0) ae (fun _ _ => rfl)) (aa (iH (Nat.lt_of_le_of_lt (Nat.add_le_add_left (by decide) _) HU) (fv 1) (fv 0) (fun _ _ => rfl)) ag))))))))))), ?_⟩
  walk_at "rd"
  intro d hd
  refine fV ?_
  walk_at "rd"
  refine gl (SqL.of ((aj _ hd) _ _ hm0)) (fZ (fun i σ' H' => Same H H' ∧ ∃ x3 x4 x5 x6 x7, H' d = some (.dT ((dk (rsd t (bs.take i))).map gQ)) ∧ σ' = [some (.ref m0), some (.int t), some (.ref d), x3, x4, x5, x6, x7]) ⟨aj _ hd, none, none, none, none, none, ad, rfl⟩ (fun i σ' H' _ h => SqL.of (h.1 _ _ hm0)) ?_ ?_)
  · rintro i x σ' H' hx ⟨sm, x3, x4, x5, x6, x7, hd', rfl⟩
    obtain ⟨b, hb, q, u, us, rfl, e1, _, e2, ar⟩ := hv.at_ hx
    have e1' := sm _ _ e1
    have lb := ok b (List.mem_of_getElem? hb)
    have l1 : (rsd t (bs.take i)).length ≤ 200 := by
      have := nW (t := t) (bs := bs.take i) fun x m => ok x (List.mem_of_mem_take m)
      rw [List.length_take] at this; omega
    rw [cM hb, vN]
    walk_at "rd"
    refine ⟨_, _, rfl, SqT.of e1', rfl, _, _, rfl, _, _, rfl, rfl, fV ?_⟩
    walk_at "rd"
    refine gl (SqL.of (sm _ _ e2)) (fZ (fun j σ' G => Same H G ∧ ∃ x5 x6 x7, G d = some (.dT ((dk (rsd t (bs.take i) ++ if b.d ≤ t then b.rs.take j else [])).map gQ)) ∧ σ' = [some (.ref m0), some (.int t), some (.ref d), some (.int b.d), some (.ref u), x5, x6, x7]) ⟨sm, x5, x6, x7, by rw [List.take_zero, ite_self, List.append_nil]; exact hd', rfl⟩ (fun j σ' G _ h => SqL.of (h.1 _ _ e2)) ?_ ?_)
    · rintro j x σ' G hx ⟨sG, x5, x6, x7, dG, rfl⟩
      obtain ⟨r, hr, q2, rfl, hq⟩ := ar.at_ hx
      have hq' := sG _ _ hq
      walk_at "rd"
      refine ⟨_, _, rfl, SqT.of hq', rfl, _, _, rfl, _, _, rfl, _, _, rfl, rfl, ?_⟩
      walk_at "rd"
      by_cases h : b.d ≤ t
      · rw [if_pos h] at dG
        have l2 := (wt (rsd t (bs.take i) ++ b.rs.take j)).2.2
        have l3 : (rsd t (bs.take i) ++ b.rs.take j).length ≤ 1000 := by rw [List.length_append, List.length_take]; omega
        refine itp h ⟨.inr ⟨_, .inl dG⟩, by walk_at "om", fun p1 hp1 => ⟨_, DGet.t (k := kP (r.pa, r.cu)) ((aj _ hp1) _ _ dG) ad, ?_⟩⟩
        rw [fT, sO]
        walk_at "rd"
        have s1 := aj (HO.tup [L2.T r.pa, L2.T r.cu]) hp1
        refine ⟨by walk_at "om", fun p2 hp2 => ?_⟩
        have s2 := s1.trans (aj (HO.tup [L2.T r.pa, L2.T r.cu]) hp2)
        refine ⟨d, _, rfl, DPut.t (k := kP (r.pa, r.cu)) (s2 _ _ dG) ad (by rw [List.length_map, sizeLine_eq]; omega), ?_⟩
        rw [qg]
        refine ⟨b8 (sG.trans s2) hd, _, _, _, ?_, rfl, rfl, rfl⟩
        rw [ad, if_pos h, cM hr, ← List.append_assoc, oV]; rfl
      · refine itn h ⟨sG, _, _, _, ?_, rfl, rfl, rfl⟩
        rw [if_neg h] at dG ⊢; exact dG
    · rintro σ' G ⟨sG, x5, x6, x7, dG, rfl⟩
      rw [ar.len, List.take_length] at dG
      exact ⟨sG, _, _, _, _, _, dG, rfl⟩
  · rintro σ' H' ⟨sm, x3, x4, x5, x6, x7, hd', rfl⟩
    rw [hv.len, List.take_length] at hd'
    walk_at "rd"
    refine uX ?_
    walk_at "rd"
    refine ⟨_, (dk (rsd t bs)).map (·.1), hd', qF _, by rw [List.length_map]; exact l64, fun out as po oo ao l hl => ?_⟩
    have sl := aj (HO.lst (as.map V.ref)) hl
    have lo := po.length_eq
    rw [List.length_map] at lo
    have la := ao.len
    refine ⟨⟨_, SqL.of ad⟩, uZ l (as.map V.ref) (fun D i ys G => Same (upd H' l (.lst (as.map V.ref))) G ∧ G D = some (.lst ys) ∧ upd H' l (.lst (as.map V.ref)) D = none ∧ A2 (RwAt G) ys (res (rsd t bs) (out.take i))) (by rw [List.length_map, sizeLine_eq]; omega) (fun D hD => ⟨aj _ hD, ad, hD, .nil⟩) (fun D i ys G h => ⟨h.2.1, SqL.of (h.1 _ _ ad), ?_⟩) ?_ ?_⟩
    · rw [h.2.2.2.len]
      exact Nat.le_trans (sT _ _) (by rw [List.length_take]; omega)
    · rintro D i y ys G zs N1 N0 hy ⟨sG, hD, fD, aG⟩ hz n1 n0
      rw [List.getElem?_map] at hy
      obtain ⟨b, hb, rfl⟩ := Option.map_eq_some_iff.mp hy
      obtain ⟨e, he, kb⟩ := ao.at_ hb
      have kG := sG _ _ (sl _ _ kb)
      have dG := sG _ _ (sl _ _ hd')
      have ve := wm (po.mem_iff.mp (List.mem_of_getElem? he))
      obtain ⟨z1, rfl⟩ := ex1 hz
      have gd : ∀ (F : Hp) (q : Addr), KAt F q e → F d = some (.dT ((dk (rsd t bs)).map gQ)) → DGet F d (.ref q) (some (.int (val (rsd t bs) e))) := fun F q h1 h2 => by
        have g := DGet.t (k := kP e) h2 h1
        rwa [fT, ve] at g
      rw [cM he, qk] at n1 n0
      walk_at "rd"
      refine ⟨⟨[some (.ref b)], rfl, rfl⟩, d, _, rfl, gd _ b kG dG, ?_⟩
      walk_at "rd"
      by_cases hv : val (rsd t bs) e = 0
      · rw [if_neg fun z => z hv, List.append_nil] at n0
        exact itp hv (n0 _ ⟨sG, hD, fD, aG⟩)
      · rw [if_pos hv] at n1
        refine itn hv ⟨_, _, .inr (SqT.of kG), bL (j := 0) rfl, _, _, .inr (SqT.of kG), bL (j := 1) rfl, d, _, rfl, gd _ b kG dG, by walk_at "om", fun p3 hp3 => ?_⟩
        obtain ⟨m1, m2, m3⟩ := pe ⟨e.1, e.2, val (rsd t bs) e⟩ sG fD hD hp3 aG
        exact n1 _ _ m1 ⟨m2, ad, fD, m3⟩
    · rintro D ys G ⟨sG, hD, fD, aG⟩
      rw [List.length_map, la, List.take_length] at aG
      have sg := (sm.trans sl).trans sG
      exact ⟨_, Gc.flt sg, k out D ys _ po oo ((sm.trans sl).free fD) (rT sg hD rfl) (pR sg aG) (Gc.flt sg).a (tE hN)⟩
end
section
variable {pS : Addr} {ns : List Int} {P : Program} {w : World} {K : PySem.W.Frag} {mg : Str → Option Value} {base : Heap} {a : Adr}
theorem Keep.fresh {S : List Addr} {H H1 : Hp} {p : Addr} {o : HO} (x : Keep S H H1) (h : H p = none) : Keep S H (upd H1 p o) := fun c z e n => by
  rw [ap (ai e h)]; exact x c z e n
theorem Keep.toSame {S : List Addr} {H H1 H2 : Hp} (s : Same H H1) (x : Keep S H1 H2) (f : ∀ c ∈ S, H c = none) : Same H H2 := fun c z e => x c z (s c z e) fun m => by
  rw [f c m] at e; cases e
theorem Same.frees {H G : Hp} (s : Same H G) {q : Addr} (h : G q = none) : H q = none := by
  cases e : H q with
  | none => rfl
  | some o => rw [s _ _ e] at h; cases h
structure iQ where
  j : Addr
  b : Addr
  u : Addr
  k : Addr
  vs : List V
  ws : List V
  bs : List Bk
structure SAt (J : Addr) (ps cu : List (List Nat)) (W : List Addr) (H : Hp) (s : iQ) : Prop where
  jr : JAt J H s.j s.b s.u s.vs
  jv : A2 (BkAt H) s.vs s.bs
  bl : H s.k = some (.lst s.ws)
  bw : A2 (MnAt W H) s.ws s.bs
  ok : ∀ b ∈ s.bs, yZ ps cu b
variable {J : Addr} {ps cu : List (List Nat)} {H0 H H' : Hp} {hd : Addr} {fx : List (Addr × List V)} {s t : iQ} {hs : List V}
theorem SAt.keep {W S : List Addr} (x : SAt J ps cu W H s) (kp : Keep S H H') (hS : ∀ c ∈ S, c ∈ W) (lw : LW W H) (nb : s.b ∉ S) (nk : s.k ∉ S) : SAt J ps cu W H' s := by
  obtain ⟨dx, e⟩ := x.jr.ob
  exact ⟨x.jr.keep kp ((lw.mono hS).no e (by intro _ z; cases z)) nb ((lw.mono hS).no x.jr.dc (by intro _ z; cases z)), gn (kp.mono hS) lw x.jv, kp _ _ x.bl nk, o4 (kp.mono hS) lw x.bw, x.ok⟩
abbrev WS (hd : Addr) (s t : iQ) : List Addr := [hd, s.k, s.b, t.k, t.b]
structure LS (J : Addr) (ps cu : List (List Nat)) (H0 : Hp) (hd : Addr) (fx : List (Addr × List V)) (H : Hp) (s t : iQ) (hs : List V) : Prop where
  sm : Same H0 H
  nT : NoT H
  a0 : SAt J ps cu (WS hd s t) H s
  a1 : SAt J ps cu (WS hd s t) H t
  hl : H hd = some (.lst hs)
  hh : ∀ v ∈ hs, HdAt (WS hd s t) H v
  nd : (WS hd s t).Nodup
  fr : ∀ c ∈ WS hd s t, H0 c = none
  fx : ∀ e ∈ fx, H e.1 = some (.lst e.2) ∧ e.1 ∉ WS hd s t
theorem LS.lw (L : LS J ps cu H0 hd fx H s t hs) : LW (WS hd s t) H := fun c m => by
  simp only [List.mem_cons, List.not_mem_nil, or_false] at m
  rcases m with rfl | rfl | rfl | rfl | rfl
  · exact ⟨_, L.hl⟩
  · exact ⟨_, L.a0.bl⟩
  · exact ⟨_, L.a0.jr.ls⟩
  · exact ⟨_, L.a1.bl⟩
  · exact ⟨_, L.a1.jr.ls⟩
theorem yb {c : Addr} : c ∈ WS hd s t ↔ c ∈ WS hd t s := by
  simp only [List.mem_cons, List.not_mem_nil, or_false]
  constructor <;> (rintro (h | h | h | h | h)) <;> simp [h]
theorem MnAt.mono {W W' : List Addr} {v : V} {b : Bk} (x : MnAt W H v b) (h : ∀ c ∈ W', c ∈ W) : MnAt W' H v b := by
  obtain ⟨q, t, vs, e, e1, n, r⟩ := x
  exact ⟨q, t, vs, e, e1, fun m => n (h _ m), r⟩
theorem HdAt.mono {W W' : List Addr} {v : V} (x : HdAt W H v) (h : ∀ c ∈ W', c ∈ W) : HdAt W' H v := by
  obtain ⟨q, c, d, xs, ys, ls, e, n1, n2, n3, r⟩ := x
  exact ⟨q, c, d, xs, ys, ls, e, fun m => n1 (h _ m), fun m => n2 (h _ m), fun m => n3 (h _ m), r⟩
theorem SAt.mono {W W' : List Addr} (x : SAt J ps cu W H s) (h : ∀ c ∈ W', c ∈ W) : SAt J ps cu W' H s := ⟨x.jr, x.jv, x.bl, x.bw.imp fun _ _ _ _ r => r.mono h, x.ok⟩
theorem LS.swap (L : LS J ps cu H0 hd fx H s t hs) : LS J ps cu H0 hd fx H t s hs := by
  have h : ∀ c ∈ WS hd t s, c ∈ WS hd s t := fun c m => yb.mp m
  refine ⟨L.sm, L.nT, L.a1.mono h, L.a0.mono h, L.hl, fun v m => (L.hh v m).mono h, ?_, fun c m => L.fr c (h c m), fun e m => ⟨(L.fx e m).1, fun z => (L.fx e m).2 (h _ z)⟩⟩
  have nd := L.nd
  simp only [WS, List.nodup_cons, List.mem_cons, List.not_mem_nil, or_false, not_or, not_false_eq_true, List.nodup_nil, and_true] at nd ⊢
  obtain ⟨⟨n1, n2, n3, n4⟩, ⟨n5, n6, n7⟩, ⟨n8, n9⟩, n10⟩ := nd
  exact ⟨⟨n3, n4, n1, n2⟩, ⟨n10, Ne.symm n6, Ne.symm n8⟩, ⟨Ne.symm n7, Ne.symm n9⟩, n5⟩
theorem LS.ne (L : LS J ps cu H0 hd fx H s t hs) : (hd ≠ s.k ∧ hd ≠ s.b ∧ hd ≠ t.k ∧ hd ≠ t.b) ∧ s.k ≠ s.b ∧ (t.k ≠ s.k ∧ t.k ≠ s.b) ∧ t.b ≠ s.k ∧ t.b ≠ s.b := by
  have nd := L.nd
  simp only [WS, List.nodup_cons, List.mem_cons, List.not_mem_nil, or_false, not_or, not_false_eq_true, List.nodup_nil, and_true] at nd
  obtain ⟨⟨n1, n2, n3, n4⟩, ⟨n5, n6, n7⟩, ⟨n8, n9⟩, n10⟩ := nd
  exact ⟨⟨n1, n2, n3, n4⟩, n5, ⟨Ne.symm n6, Ne.symm n8⟩, Ne.symm n7, Ne.symm n9⟩
theorem LS.same (L : LS J ps cu H0 hd fx H s t hs) (x : Same H H') (n : NoT H') : LS J ps cu H0 hd fx H' s t hs := by
  have k : Keep [] H H' := Keep.same x
  have e : ∀ c ∈ ([] : List Addr), c ∈ WS hd s t := fun _ m => nomatch m
  exact ⟨L.sm.trans x, n, L.a0.keep k e L.lw List.not_mem_nil List.not_mem_nil, L.a1.keep k e L.lw List.not_mem_nil List.not_mem_nil, x _ _ L.hl, fun v m => (L.hh v m).keep (Keep.same x) L.lw, L.nd, L.fr, fun z m => ⟨x _ _ (L.fx z m).1, (L.fx z m).2⟩⟩
theorem LS.told (L : LS J ps cu H0 hd fx H s t hs) {e : Addr} (kp : Keep [hd] H H') (n : NoT H') (he : H' hd = some (.lst (hs ++ [.ref e]))) (hn : HdAt (WS hd s t) H' (.ref e)) : LS J ps cu H0 hd fx H' s t (hs ++ [.ref e]) := by
  have hS : ∀ c ∈ [hd], c ∈ WS hd s t := fun c m => by rw [List.mem_singleton.mp m]; exact .head _
  have k : Keep (WS hd s t) H H' := kp.mono hS
  obtain ⟨⟨n1, n2, n3, n4⟩, _⟩ := L.ne
  refine ⟨Keep.toSame L.sm kp (fun c m => L.fr c (hS c m)), n, L.a0.keep kp hS L.lw (by simpa using Ne.symm n2) (by simpa using Ne.symm n1), L.a1.keep kp hS L.lw (by simpa using Ne.symm n4) (by simpa using Ne.symm n3), he, fun v m => ?_, L.nd, L.fr, fun z m => ⟨k _ _ (L.fx z m).1 (L.fx z m).2, (L.fx z m).2⟩⟩
  rcases List.mem_append.mp m with m | m
  · exact (L.hh v m).keep k L.lw
  · rw [List.mem_singleton.mp m]; exact hn
theorem LS.book (L : LS J ps cu H0 hd fx H s t hs) {q m : Addr} {x : Bk} (kp : Keep [s.k, s.b] H H') (n : NoT H') (h1 : H' s.b = some (.lst (s.vs ++ [.ref q]))) (h2 : BkAt H' (.ref q) x) (h3 : H' s.k = some (.lst (s.ws ++ [.ref m]))) (h4 : MnAt (WS hd s t) H' (.ref m) x) (ok : yZ ps cu x) :
    LS J ps cu H0 hd fx H' { s with vs := s.vs ++ [.ref q], ws := s.ws ++ [.ref m], bs := s.bs ++ [x] } t hs := by
  have hS : ∀ c ∈ [s.k, s.b], c ∈ WS hd s t := fun c m => by
    simp only [List.mem_cons, List.not_mem_nil, or_false] at m ⊢
    rcases m with m | m
    · exact .inr (.inl m)
    · exact .inr (.inr (.inl m))
  have k : Keep (WS hd s t) H H' := kp.mono hS
  obtain ⟨⟨n1, n2, n3, n4⟩, n5, n6, n7⟩ := L.ne
  obtain ⟨dx, e⟩ := L.a0.jr.ob
  have lS := L.lw.mono hS
  refine ⟨Keep.toSame L.sm kp (fun c m => L.fr c (hS c m)), n, ⟨⟨⟨dx, kp _ _ e (lS.no e (by intro _ z; cases z))⟩, h1, kp _ _ L.a0.jr.dc (lS.no L.a0.jr.dc (by intro _ z; cases z))⟩, (gn k L.lw L.a0.jv).snoc h2, h3, (o4 k L.lw L.a0.bw).snoc h4, fun z m => ?_⟩, L.a1.keep kp hS L.lw (by simpa using n7) (by simpa using n6), kp _ _ L.hl (by simpa using ⟨n1, n2⟩), fun v m => (L.hh v m).keep k L.lw, L.nd, L.fr, fun z m => ⟨k _ _ (L.fx z m).1 (L.fx z m).2, (L.fx z m).2⟩⟩
  rcases List.mem_append.mp m with m | m
  · exact L.a0.ok z m
  · rw [List.mem_singleton.mp m]; exact ok
end
section
variable {pS : Addr} {ns : List Int} {P : Program} {w : World} {K : PySem.W.Frag} {mg : Str → Option Value} {base : Heap} {a : Adr}
theorem rg {ps : List (List Nat)} (x : Int) (h : 0 < ps.length) : ∃ u ∈ ps, atI (ps.map L2.T) (x % ((ps.map L2.T).length : Nat)) = some (L2.T u) := by
  have b0 : 0 ≤ x % ((ps.map L2.T).length : Nat) := Int.emod_nonneg _ (by rw [List.length_map]; omega)
  have b1 : x % ((ps.map L2.T).length : Nat) < ((ps.map L2.T).length : Nat) := Int.emod_lt_of_pos _ (by rw [List.length_map]; omega)
  obtain ⟨j, e⟩ := Int.eq_ofNat_of_zero_le b0
  rw [e] at b1 ⊢
  have hj : j < ps.length := by rw [List.length_map] at b1; omega
  exact ⟨ps[j], List.getElem_mem hj, bL (by simp [hj])⟩
theorem xI {cu : List (List Nat)} (x : Int) (h : cu.length = 3) : ∃ u ∈ cu, atI (cu.map L2.T) (x % 3) = some (L2.T u) := by
  have := rg (ps := cu) x (by walk_at "om")
  rw [List.length_map, h] at this; exact this
theorem zw (c x : Int) : ∃ k, atI ((List.range 7).map fun k => L2.T (nms c k)) (x / 13 % 7) = some (L2.T (nms c k)) := by
  have b0 : 0 ≤ x / 13 % 7 := by walk_at "om"
  have b1 : x / 13 % 7 < 7 := by walk_at "om"
  obtain ⟨j, e⟩ := Int.eq_ofNat_of_zero_le b0
  rw [e] at b1 ⊢
  exact ⟨j, bL (by simp [show j < 7 by walk_at "om"])⟩
theorem yN (l : List Nat) (ps : List (List Nat)) : inV (L2.T l) (ps.map L2.T) = decide (l ∈ ps) := by
  unfold inV
  rw [List.any_map, Bool.eq_iff_iff, List.any_eq_true, decide_eq_true_eq]
  constructor
  · rintro ⟨x, hx, e⟩
    have e' : x = l := by simpa [eqV, Function.comp] using e
    exact e' ▸ hx
  · intro h; exact ⟨l, h, by simp [eqV]⟩
def sp_v3 (K : PySem.W.Frag) (p0 : Addr) (ns : List Int) : Sp := sp2 fun x y H Q _ => asR x fun p => asI y fun m => NoT H ∧ p0 = p ∧ SqL K H p0 (ns.map V.int) ∧ (0 ≤ m ∧ m ≤ 9) ∧ ∀ ps q, il (ns.getD 1 0) ps → ps.length ≤ 11 → H q = none → Q (.ref q) (upd H q (.lst (ps.map L2.T)))
theorem md (T : Txt K mg a) : bt P w K mg base (XE P w) 3 a.fc a.g6 ["_law_script", "_law_many"] (sp_v3 K pS ns) := by
  refine T.eW.okG gW (fun vs H Q E h => sp2.len h) (fun cdv A outer s H vs Q E hr h => ?_)
  obtain ⟨x0, x1, rfl, h⟩ := sp2.inv h
  have ND := gW.nd
  obtain ⟨p, rfl, h1⟩ := asR.inv h
  obtain ⟨m, rfl, hN, rfl, hS, hm, k⟩ := asI.inv h1
  have sz : 1000 ≤ sizeLine := by rw [sizeLine_eq]; decide
  have G__law_mixed := eC (P := P) (w := w) (base := base) T
  have b__law_mixed := eD T.aU
  have G__law_cell_at := fA (P := P) (w := w) (base := base) T (pS := pS) (ns := ns)
  have b__law_cell_at := fH T.br
  have G__law_names := mf (P := P) (w := w) (base := base) T
  have b__law_names := lT T.e9
  refine ⟨hN, _, (ah (aB (i := 2) ND rfl (Or.inl rfl) (au G__law_names (hr.mono (by decide)) rfl T.nX T.e9.kp b__law_names .nil aC (FA.pa (aa (au G__law_cell_at (hr.mono (by decide)) rfl T.ck T.br.kp b__law_cell_at .nil aC (FA.pa (aa (fv 0) (aa ae ag)))) ag))))
      (ah (aB (i := 3) ND rfl (Or.inl rfl) (cS (FA.pa (aa (bd (aA K) (fv 2) ae (fun _ _ => rfl)) (aa (bd (aA K) (fv 2) ae (fun _ _ => rfl)) ag)))))
      (ah (da (by passes_own) rfl (cY rfl T.dP (FA.pa (aa (fv 1) ag))) (aL (i := 4) ND rfl (Or.inl rfl)) (ah (aB (i := 5) ND rfl (Or.inl rfl) (au G__law_mixed (hr.mono (by decide)) rfl T.bC T.aU.kp b__law_mixed .nil aC (FA.pa (aa (au G__law_cell_at (hr.mono (by decide)) rfl T.ck T.br.kp b__law_cell_at .nil aC (FA.pa (aa (fv 0) (aa ae ag)))) (aa (fv 4) ag)))))
      (ah (aB (i := 6) ND rfl (Or.inl rfl) (bd (aA K) (fv 3) (al aP (fv 5) (aJ (dO K) rfl T.iy eY (FA.pa (aa (fv 3) ag)))) (fun _ _ => rfl)))
      (ah (aB (i := 7) ND rfl (Or.inl rfl) (al aO (al aO (fv 6) (aN [58])) (bd (aA K) (fv 2) (al aP (al aW (fv 5) ae) ae) (fun _ _ => rfl))))
      (ak (cf (L2.PW.pt (sj (cj (mG K) (fv 7) (fv 3) (by with_unfolding_all rfl)) (oI (cj vc (cJ K PySem.F.plainAttrs_str PySem.F.slot_str_count PySem.F.type_str_count wc (fv 6) (FA.pa (aa (aN [58]) ag))) ae (bN _))))) (ak (cq (cJ K PySem.F.plainAttrs_list PySem.F.slot_list_append PySem.F.type_list_append cv (fv 3) (FA.pa (aa (fv 7) ag))))) bi))))))
      (ak (aI (fv 3)))))), ?_⟩
  walk_at "rd"
  refine ⟨hN, hS, hN, fun q hq => ⟨_, _, .inl (SqL.of ad), bL (j := 0) rfl, _, _, .inl (SqL.of ad), bL (j := 6) rfl, by walk_at "om", fun r hr => ?_⟩⟩
  have e1 : (ns.getD (Int.toNat 1) 0) = ns.getD 1 0 := rfl
  rw [e1] at hr ⊢
  generalize ns.getD 1 0 = c at hr k ⊢
  have s1 := aj (HO.lst (List.map (fun k => L2.T (nms c k)) (List.range 7))) hq
  have qr : q ≠ r := ai ad hr
  have r0 : H r = none := s1.free hr
  refine fP ?_
  walk_at "rd"
  refine ⟨by walk_at "om", by walk_at "om", dQ (lo := 0) (n := m.toNat) (fun i σ' H' => Same H H' ∧ NoT H' ∧ H' q = some (.lst ((List.range 7).map fun k => L2.T (nms c k))) ∧ ∃ ps x4 x5 x6 x7, il c ps ∧ ps.length ≤ 2 + i ∧ H' r = some (.lst (ps.map L2.T)) ∧ σ' = [some (.ref pS), some (.int m), some (.ref q), some (.ref r), x4, x5, x6, x7]) ⟨s1.trans (aj _ hr), aq (aq hN rfl) rfl, (ap qr).trans ad, _, none, none, none, none, il.two, by simp, ad, rfl⟩ ?_ ?_⟩
  · rintro i σ' H' hi ⟨sm, nT, hq', ps, x4, x5, x6, x7, hP, lp, hr', rfl⟩
    have l2 := hP.len2
    walk_at "rd"
    refine ⟨nT, hS.same sm, nT, ⟨by walk_at "om", by walk_at "om"⟩, _, .inl (SqL.of hr'), ?_⟩
    walk_at "rd"
    generalize MX (ns.getD (Int.toNat 2) 0) (0 + (i : Int)) = x
    obtain ⟨u, hu, eu⟩ := rg (ps := ps) x (by walk_at "om")
    obtain ⟨k7, e7⟩ := zw c x
    have pu := hP.ok u hu
    have lu := pu.len
    have l7 := kA (c := c) (k := k7)
    refine ⟨by rw [List.length_map]; omega, _, _, .inl (SqL.of hr'), eu, ?_⟩
    walk_at "rd"
    refine ⟨by walk_at "om", _, _, .inl (SqL.of hq'), e7, ?_⟩
    walk_at "rd"
    refine ⟨by simp; omega, _, .inl (SqL.of hr'), rfl, by simp [dt], ?_⟩
    have el : u ++ [58] ++ nms c k7 = u ++ 58 :: nms c k7 := by simp
    by_cases hm : u ++ 58 :: nms c k7 ∈ ps
    · exact itn (by rw [yN, el, decide_eq_true hm]; decide) ⟨sm, nT, hq', ps, _, _, _, _, hP, by walk_at "om", hr', rfl, rfl, rfl, rfl⟩
    · refine itp (by rw [yN, el, decide_eq_false hm]) ⟨by decide, ?_, ?_⟩
      · intro z
        have := pu.pn
        rw [show u = [] from z] at this
        exact absurd this (by decide)
      · by_cases h5 : ((spN 58 u).length : Int) - 1 < 5
        · refine itp h5 ⟨.inl ⟨_, SqL.of hr'⟩, r, _, _, rfl, rfl, hr', by rw [List.length_map]; omega, b8 sm r0, aq nT rfl, (ap qr).trans hq', _, _, _, _, _, .more hP hu hm (by walk_at "om"), by simp; omega, ?_, rfl, rfl, rfl, rfl⟩
          rw [ad, List.map_append, ← el]; rfl
        · exact itn h5 ⟨sm, nT, hq', ps, _, _, _, _, hP, by walk_at "om", hr', rfl, rfl, rfl, rfl⟩
  · rintro σ' H' ⟨sm, nT, hq', ps, x4, x5, x6, x7, hP, lp, hr', rfl⟩
    walk_at "rd"
    refine ⟨_, Gc.one sm r0 hr' rfl, k ps r hP (by walk_at "om") r0⟩
structure CG (cs : List Acc) (ps : List (List Nat)) : Prop where
  pa : cs.map (·.pa) = ps
  st : ∀ c ∈ cs, c.un = none ∧ c.fi = 0 ∧ c.be.length ≤ cs.length
theorem CG.top {cs : List Acc} {ps : List (List Nat)} {l : List Nat} {z : Acc} (h : CG cs ps) (e1 : z.pa = l) (e2 : z.fi = 0) (e3 : z.un = none) (e4 : z.be = []) : CG (cs ++ [z]) (ps ++ [l]) := by
  refine ⟨by rw [List.map_append, h.pa, ← e1]; rfl, fun y m => ?_⟩
  rcases List.mem_append.mp m with m | m
  · have := h.st y m
    exact ⟨this.1, this.2.1, by rw [List.length_append]; omega⟩
  · rw [List.mem_singleton.mp m]
    exact ⟨e3, e2, by rw [e4]; simp⟩
theorem CG.ext {cs : List Acc} {ps : List (List Nat)} {l v : List Nat} {z : Acc} (h : CG cs ps) (e1 : z.pa = l) (e2 : z.fi = 0) (e3 : z.un = none) (e4 : z.be = []) : CG (j2 cs v (grw l) ++ [z]) (ps ++ [l]) := by
  have ln : (j2 cs v (grw l)).length = cs.length := by unfold j2; rw [List.length_map]
  refine ⟨by rw [List.map_append, eL (f := grw l) _ fun _ => rfl, h.pa, ← e1]; rfl, fun y m => ?_⟩
  rw [List.length_append, ln, List.length_singleton]
  rcases List.mem_append.mp m with m | m
  · obtain ⟨x, hx, rfl⟩ := ix m
    have := h.st x hx
    split
    · exact ⟨this.1, this.2.1, by show (x.be ++ [l]).length ≤ _; rw [List.length_append, List.length_singleton]; omega⟩
    · exact ⟨this.1, this.2.1, by walk_at "om"⟩
  · rw [List.mem_singleton.mp m]
    exact ⟨e3, e2, by rw [e4]; simp⟩
theorem vk {ps : List (List Nat)} {i : Nat} {l : List Nat} (h : ps.Nodup) (e : ps[i]? = some l) : l ∉ ps.take i := fun m => by
  obtain ⟨j, hj⟩ := List.getElem?_of_mem m
  have hi := (List.getElem?_eq_some_iff.mp hj).1
  rw [List.length_take] at hi
  rw [List.getElem?_take_of_lt (by walk_at "om")] at hj
  have := (List.getElem?_inj (by walk_at "om") h).mp (hj.trans e.symm)
  omega
theorem CG.none_ {cs : List Acc} {ps : List (List Nat)} {l : List Nat} (h : CG cs ps) (m : l ∉ ps) : fnd cs l = none := List.find?_eq_none.mpr fun c hc e => m (by
  rw [← h.pa, ← (by simpa using e : c.pa = l)]; exact List.mem_map_of_mem hc)
theorem Aj (x : V) : List.lookup (Str.ofString "add_top") [(Str.ofString "by_path", x)] = none := by rw [bn (by decide +kernel)]; rfl
theorem Av (x : V) : List.lookup (Str.ofString "add") [(Str.ofString "by_path", x)] = none := by rw [bn (by decide +kernel)]; rfl
def sp_wn (C A : Addr) : Sp := sp1 fun x H Q _ => NoT H ∧ asR x fun q => ∃ c ps, H q = some (.lst (ps.map L2.T)) ∧ il c ps ∧ ps.length ≤ 11 ∧
  ∀ p d cs H', CAt C A H' p d cs → CG cs ps → (∀ z ∈ cs, H z.bl = none) → H d = none → Same H H' → NoT H' → Q (.ref p) H'
theorem lO (T : Txt K mg a) : bt P w K mg base (XE P w) 9 a.e_ a.gT ["_law_paths_here"] (sp_wn a.bX a.aV) := by
  refine T.fo.okX gR (fun vs H Q E h => sp1.len h) (fun cdv A outer s H vs Q E hr h => ?_)
  obtain ⟨x0, rfl, h⟩ := sp1.inv h
  have ND := gR.nd
  obtain ⟨hN, h1⟩ := h
  obtain ⟨q, rfl, c, ps, hq, hP, len, k⟩ := asR.inv h1
  have G_Chart_add := nj (P := P) (w := w) (base := base) T
  have b_Chart_add := oJ T.jD
  have G_Chart_add_top := jo (P := P) (w := w) (base := base) T
  have b_Chart_add_top := jb T.fJ
  have G_Chart___init__ := iL (P := P) (w := w) (base := base) T
  have b_Chart___init__ := iE T.eJ
  refine ⟨_, (ah (aB (i := 1) ND rfl (Or.inl rfl) (i7 T.vT G_Chart___init__ (hr.mono (by decide)) rfl T.xF b_Chart___init__ .nil aC))
      (ah (da (by passes_own) rfl (xX K rfl T.qA (FA.pa (aa (fv 0) ag))) (iO K (n := 2) rfl (b_ (aL (i := 2) ND rfl (Or.inl rfl)) (b_ (aL (i := 3) ND rfl (Or.inl rfl)) iT))) (ak (cf (cj Bz (aN [58]) (fv 3) (by with_unfolding_all rfl)) (ak (cq (eE (fv 1) T.cm T.oB G_Chart_add (hr.mono (by decide)) b_Chart_add .nil aC (FA.pa (aa (fv 3) (aa nD (aa ae ag))))))) (ak (cq (eE (fv 1) T.cm T.iX G_Chart_add_top (hr.mono (by decide)) b_Chart_add_top .nil aC (FA.pa (aa (fv 3) (aa (lB (FA.pa (aa (aN [111, 119, 101]) (aa (aN [99, 111, 115, 116]) ag))) (al aP (fv 2) ae) (fun _ _ => rfl)) ag)))))))))
      (ak (aI (fv 1))))), ?_⟩
  walk_at "rd"
  intro x dx hx hdx ne
  refine ⟨aq (aq hN rfl) rfl, _, ad, fun d H1 hd J0 K0 N0 => w8 ?_⟩
  have k0 := eM hx hdx K0
  have s0 : Same H H1 := fun c z e => k0 c z e List.not_mem_nil
  have d0 : H d = none := cX hd
  walk_at "rd"
  refine ⟨⟨_, SqL.of (s0 _ _ hq)⟩, xM (xs := ps.map L2.T) (fun i σ' H' => Same H H' ∧ NoT H' ∧ ∃ cs x2 x3, CAt a.bX a.aV H' x d cs ∧ CG cs (ps.take i) ∧ (∀ z ∈ cs, H z.bl = none) ∧ σ' = [some (.ref q), some (.ref x), x2, x3]) ⟨s0, N0, [], none, none, J0, ⟨rfl, fun _ m => nomatch m⟩, (fun _ m => nomatch m), rfl⟩ (fun i σ' H' _ h => SqL.of (h.1 _ _ hq)) ?_ ?_⟩
  · rintro i y σ' H' r hy hr ⟨sm, nT, cs, x2, x3, J, cg, fb_, rfl⟩
    rw [List.getElem?_map] at hy
    obtain ⟨l, hl, rfl⟩ := Option.map_eq_some_iff.mp hy
    have s2 := aj (HO.tup [V.int i, L2.T l]) hr
    have J2 := J.same s2
    have n2 : NoT (upd H' r (HO.tup [V.int i, L2.T l])) := aq nT rfl
    have sm2 := sm.trans s2
    walk_at "rd"
    refine ⟨_, _, rfl, SqT.of ad, rfl, _, _, rfl, _, _, rfl, rfl, ?_⟩
    generalize upd H' r (HO.tup [V.int i, L2.T l]) = G at J2 n2 sm2 ⊢
    walk_at "rd"
    have nf := cg.none_ (vk hP.nd hl)
    have lc : cs.length ≤ 11 := by rw [← List.length_map (f := (·.pa)), cg.pa, List.length_take]; omega
    obtain ⟨dx2, hp2⟩ := J2.ob
    have pl := hP.ok l (List.mem_of_getElem? hl)
    rw [cM hl]
    by_cases h58 : 58 ∈ l
    · refine itp (decide_eq_true h58) ?_
      rcases hP.up i l hl with ⟨z, _⟩ | ⟨v, kk, rfl, mv⟩
      · exact absurd h58 z
      · rw [← cg.pa] at mv
        obtain ⟨u, hu, pu⟩ := List.mem_map.mp mv
        have su := cg.st u hu
        refine ⟨_, _, hp2, Av _, n2, ⟨pl.lo, by have := pl.len; omega⟩, v, nms c kk, d, cs, u, rfl, ke c kk, pl.pn, J2, by walk_at "om", fun y m => by have := (cg.st y m).2.2; omega, nf, hu, pu, su.1, su.2.1, fun z H2 e1 e2 e3 e4 o1 o2 J3 K3 N3 => ?_⟩
        refine ⟨Keep.toSame sm2 K3 fun y m => ?_, N3, _, _, _, J3, cg.ext e1 e2 e3 e4, fun y m => ?_, rfl, rfl⟩
        · rcases List.mem_cons.mp m with rfl | m
          · exact d0
          · obtain ⟨y, my, rfl⟩ := List.mem_map.mp m
            exact fb_ y my
        · rcases List.mem_append.mp m with m | m
          · obtain ⟨y, my, rfl⟩ := ix m
            split
            · exact fb_ y my
            · exact fb_ y my
          · rw [List.mem_singleton.mp m]; exact Same.frees sm2 o2
    · refine itn (fun z => h58 (of_decide_eq_true z)) ⟨_, _, hp2, Aj _, n2, by rw [sizeLine_eq]; decide, fun p hp => uk (ls := [owe, AG]) (by walk_at "om") (by show _ < (2 : Int); omega) fun kd mk => ⟨n2, ?_, ?_, d, cs, J2, by walk_at "om", nf, fun z H2 e1 e2 e3 e4 o1 o2 J3 K3 N3 => ?_⟩⟩
      · rcases hP.up i l hl with ⟨_, kk, rfl⟩ | ⟨v, kk, rfl, _⟩
        · exact rQ c kk
        · exact absurd (by simp) h58
      · simp only [List.mem_cons, List.not_mem_nil, or_false] at mk
        rcases mk with rfl | rfl
        · exact .inl rfl
        · exact .inr rfl
      · refine ⟨Keep.toSame sm2 K3 fun y m => by rw [List.mem_singleton.mp m]; exact d0, N3, _, _, _, J3, cg.top e1 e2 e3 e4, fun y m => ?_, rfl, rfl⟩
        rcases List.mem_append.mp m with m | m
        · exact fb_ y m
        · rw [List.mem_singleton.mp m]; exact Same.frees sm2 o2
  · rintro σ' H' ⟨sm, nT, cs, x2, x3, J, cg, fb_, rfl⟩
    rw [List.length_map, List.take_length] at cg
    walk_at "rd"
    exact k x d cs H' J cg fb_ d0 sm nT
theorem xU {H : Hp} {r t : Addr} {vs : List V} {rs : List Row} {u w : List Nat} {m : Int} (ht : H t = none) (hr : H r = some (.lst vs)) (ha : A2 (RwAt H) vs rs) : A2 (RwAt (upd (upd H t (.tup [L2.T u, L2.T w, .int m])) r (.lst (vs ++ [.ref t])))) (vs ++ [.ref t]) (rs ++ [⟨u, w, m⟩]) := by
  have kp : Keep [r] H (upd (upd H t (.tup [L2.T u, L2.T w, .int m])) r (.lst (vs ++ [.ref t]))) := (Keep.refl.new ht).put (.head _)
  exact (bp kp (LW.one hr) ha).snoc ⟨t, rfl, by rw [ap (Ne.symm (ai hr ht)), ad]⟩
theorem xn {ps cu : List (List Nat)} {rs : List Row} {u w : List Nat} {m : Int} (h : ∀ z ∈ rs, z.pa ∈ ps ∧ z.cu ∈ cu) (hu : u ∈ ps) (hw : w ∈ cu) : ∀ z ∈ rs ++ [(⟨u, w, m⟩ : Row)], z.pa ∈ ps ∧ z.cu ∈ cu := fun z hz => by
  rcases List.mem_append.mp hz with hz | hz
  · exact h z hz
  · rw [List.mem_singleton.mp hz]; exact ⟨hu, hw⟩
def sp_x_ : Sp := sp3 fun x y z H Q _ => NoT H ∧ asI x fun c => asR y fun p => asR z fun q => 0 ≤ c ∧ ∃ ps cu : List (List Nat), H p = some (.lst (ps.map L2.T)) ∧ H q = some (.lst (cu.map L2.T)) ∧ 0 < ps.length ∧ ps.length ≤ 20 ∧ cu.length = 3 ∧
  ∀ rs vs r H', rs.length ≤ 6 → (∀ z ∈ rs, z.pa ∈ ps ∧ z.cu ∈ cu) → H r = none → H' r = some (.lst vs) → A2 (RwAt H') vs rs → Same H H' → NoT H' → Q (.ref r) H'
theorem oC (T : Txt K mg a) : bt P w K mg base (XE P w) 3 a.d9 a.iK ["_law_cell", "_law_paths_here", "_law_currencies_here"] sp_x_ := by
  refine T.f_.okX iM (fun vs H Q E h => sp3.len h) (fun cdv A outer s H vs Q E hr h => ?_)
  obtain ⟨x0, x1, x2, rfl, h⟩ := sp3.inv h
  have ND := iM.nd
  have HU : (cL (XE P w) P w K mg base ["_law_cell", "_law_paths_here", "_law_currencies_here", "_law_rows_here", "_law_k", "_law_path", "_law_currency", "_law_amount_here"] "_law_rows" (af bG) a.d9 cdv A outer s H E).A.units + 100 < cLine := bQ hr
  obtain ⟨hN, h1⟩ := h
  obtain ⟨c, rfl, h2⟩ := asI.inv h1
  obtain ⟨p, rfl, h3⟩ := asR.inv h2
  obtain ⟨q, rfl, hc, ps, cu, hp, hq, l1, l2, l3, k⟩ := asR.inv h3
  have sz : 1000 ≤ sizeLine := by rw [sizeLine_eq]; decide
  have G__law_amount := ky (P := P) (w := w) (base := base) T
  have b__law_amount := jW T.eA
  have G__law_mixed := eC (P := P) (w := w) (base := base) T
  have b__law_mixed := eD T.aU
  refine ⟨_, (ah (aB (i := 3) ND rfl (Or.inl rfl) (cS (FA.pa ag)))
      (ah (da (by passes_own) rfl (cY rfl T.dP (FA.pa (aa (al aO ae (al aP (fv 0) ae)) ag))) (aL (i := 4) ND rfl (Or.inl rfl)) (ah (aB (i := 5) ND rfl (Or.inl rfl) (bd (aA K) (fv 1) (al aP (au G__law_mixed (hr.mono (by decide)) rfl T.bC T.aU.kp b__law_mixed .nil aC (FA.pa (aa (fv 0) (aa (al aO (al cT ae (fv 4)) ae) ag)))) (aJ (dO K) rfl T.iy eY (FA.pa (aa (fv 1) ag)))) (fun _ _ => rfl)))
      (ah (aB (i := 6) ND rfl (Or.inl rfl) (bd (aA K) (fv 2) (al aP (al aW (au G__law_mixed (hr.mono (by decide)) rfl T.bC T.aU.kp b__law_mixed .nil aC (FA.pa (aa (fv 0) (aa (al aO (al cT ae (fv 4)) ae) ag)))) ae) ae) (fun _ _ => rfl)))
      (ah (aB (i := 7) ND rfl (Or.inl rfl) (au G__law_amount (hr.mono (by decide)) rfl T.lP T.eA.kp b__law_amount .nil aC (FA.pa (aa (au G__law_mixed (hr.mono (by decide)) rfl T.bC T.aU.kp b__law_mixed .nil aC (FA.pa (aa (fv 0) (aa (al aO (al cT ae (fv 4)) ae) ag)))) ag))))
      (ah (cf (L2.PW.pt (sj (cj Bo (fv 4) ae (bN _)) (oI (cj (dW K HU) (al aP (al aW (fv 0) ae) ae) ae (bN _))))) (ak (xx (i := 5) (j := 6) (k := 7) rfl ND rfl rfl rfl (by decide) (by decide) (by decide) rfl rfl rfl (FA.pa (aa (bd (aA K) (bd (aA K) (fv 3) (qP j8 ae) (fun _ _ => rfl)) ae (fun _ _ => rfl)) (aa (bd (aA K) (bd (aA K) (fv 3) (qP j8 ae) (fun _ _ => rfl)) ae (fun _ _ => rfl)) (aa (qP j8 (bd (aA K) (bd (aA K) (fv 3) (qP j8 ae) (fun _ _ => rfl)) ae (fun _ _ => rfl))) ag)))) (by with_unfolding_all rfl))) bi)
      (ak (cq (cJ K PySem.F.plainAttrs_list PySem.F.slot_list_append PySem.F.type_list_append cv (fv 3) (FA.pa (aa (cV (FA.pa (aa (fv 5) (aa (fv 6) (aa (fv 7) ag))))) ag))))))))))
      (ak (aI (fv 3))))), ?_⟩
  walk_at "rd"
  refine ⟨Nat.zero_le _, fun r hr => fP ?_⟩
  walk_at "rd"
  refine ⟨by walk_at "om", by walk_at "om", dQ (lo := 0) (n := (2 + c % 5).toNat) (fun i σ' H' => Same H H' ∧ NoT H' ∧ ∃ rs vs x4 x5 x6 x7, rs.length = i ∧ (∀ z ∈ rs, z.pa ∈ ps ∧ z.cu ∈ cu) ∧ H' r = some (.lst vs) ∧ A2 (RwAt H') vs rs ∧ σ' = [some (.int c), some (.ref p), some (.ref q), some (.ref r), x4, x5, x6, x7]) ⟨aj _ hr, aq hN rfl, [], [], none, none, none, none, rfl, (fun _ m => nomatch m), ad, .nil, rfl⟩ ?_ ?_⟩
  · rintro i σ' H' hi ⟨sm, nT, rs, vs, x4, x5, x6, x7, lr, hps, hr', ha, rfl⟩
    have hp' := sm _ _ hp
    have hq' := sm _ _ hq
    walk_at "rd"
    refine ⟨nT, ⟨by walk_at "om", by walk_at "om"⟩, _, .inl (SqL.of hp'), ?_⟩
    walk_at "rd"
    generalize MX c (3 * (0 + (i : Int)) + 1) = y1
    obtain ⟨u, hu, eu⟩ := rg (ps := ps) y1 l1
    refine ⟨by rw [List.length_map]; omega, _, _, .inl (SqL.of hp'), eu, nT, ⟨by walk_at "om", by walk_at "om"⟩, ?_⟩
    walk_at "rd"
    obtain ⟨w1, hw1, ew1⟩ := xI (cu := cu) (MX c (3 * (0 + (i : Int)) + 2) / 7) l3
    have lv := ha.len
    refine ⟨_, _, .inl (SqL.of hq'), ew1, nT, ⟨by walk_at "om", by walk_at "om"⟩, nT, yO _ _, fun am => ?_⟩
    have fin : ∀ (u w : List Nat) (m : Int), u ∈ ps → w ∈ cu → ((∃ xs, SqL K H' r xs) ∨ ("list" = "tuple" ∧ ∃ o, List.lookup r K = some o ∧ o.cls = Value.type "tuple" ∧ o.dict = none) ∨ "list" = "dict" ∧ ((∃ kvs, H' r = some (HO.dK kvs)) ∨ ∃ kvs, H' r = some (HO.dT kvs)) ∨ "list" = "set" ∧ ∃ S n, H' r = some (HO.set S n)) ∧ 3 ≤ sizeLine ∧ ∀ p, H' p = none → ∃ l xs y, r = l ∧ V.ref p = y ∧ upd H' p (HO.tup [L2.T u, L2.T w, .int m]) l = some (HO.lst xs) ∧ xs.length < sizeLine ∧ Same H (upd (upd H' p (HO.tup [L2.T u, L2.T w, .int m])) l (HO.lst (xs ++ [y]))) ∧ NoT (upd (upd H' p (HO.tup [L2.T u, L2.T w, .int m])) l (HO.lst (xs ++ [y]))) ∧
        ∃ rs vs x4 x5 x6 x7, rs.length = i + 1 ∧ (∀ z ∈ rs, z.pa ∈ ps ∧ z.cu ∈ cu) ∧ upd (upd H' p (HO.tup [L2.T u, L2.T w, .int m])) l (HO.lst (xs ++ [y])) r = some (HO.lst vs) ∧ A2 (RwAt (upd (upd H' p (HO.tup [L2.T u, L2.T w, .int m])) l (HO.lst (xs ++ [y])))) vs rs ∧ some (V.int (0 + ↑i)) = x4 ∧ some (L2.T u) = x5 ∧ some (L2.T w) = x6 ∧ some (V.int m) = x7 := fun u w m hu hw =>
      ⟨.inl ⟨_, SqL.of hr'⟩, by walk_at "om", fun t ht => ⟨r, vs, _, rfl, rfl, (ap (ai hr' ht)).trans hr', by walk_at "om", b8 (sm.trans (aj _ ht)) hr, aq (aq nT rfl) rfl, rs ++ [⟨u, w, m⟩], _, _, _, _, _, by simp [lr], xn hps hu hw, ad, xU ht hr' ha, rfl, rfl, rfl, rfl⟩⟩
    by_cases h0 : 0 < 0 + (i : Int)
    · refine itp h0 ?_
      by_cases h1 : c / 5 % 3 = 1
      · have hne : vs ≠ [] := fun z => by rw [z] at lv; simp at lv; omega
        have el : atI vs (-1) = some (vs.getLast hne) := by
          have := qQ vs.dropLast (vs.getLast hne)
          rwa [List.dropLast_concat_getLast] at this
        obtain ⟨r0, m0, q0, e0, e1⟩ := ha.mem (List.getLast_mem hne)
        rw [e0] at el
        refine itp h1 ⟨_, _, .inl (SqL.of hr'), el, ?_⟩
        walk_at "rd"
        refine ⟨_, _, .inr (SqT.of e1), bL (j := 0) rfl, _, _, .inl (SqL.of hr'), el, ?_⟩
        walk_at "rd"
        refine ⟨_, _, .inr (SqT.of e1), bL (j := 1) rfl, _, _, .inl (SqL.of hr'), el, ?_⟩
        walk_at "rd"
        refine ⟨_, _, .inr (SqT.of e1), bL (j := 2) rfl, ?_⟩
        walk_at "rd"
        exact ⟨_, _, _, ⟨rfl, rfl, rfl⟩, fin _ _ _ (hps r0 m0).1 (hps r0 m0).2⟩
      · exact itn h1 (fin _ _ _ hu hw1)
    · exact itn h0 (fin _ _ _ hu hw1)
  · rintro σ' H' ⟨sm, nT, rs, vs, x4, x5, x6, x7, lr, hps, hr', ha, rfl⟩
    walk_at "rd"
    exact k rs vs r H' (by walk_at "om") hps hr hr' ha sm nT
end
section
variable {pS : Addr} {ns : List Int} {P : Program} {w : World} {K : PySem.W.Frag} {mg : Str → Option Value} {base : Heap} {a : Adr}
theorem yf {H : Hp} {n : Nat} {i : Int} : EqH K H n (.int i) (.int i) true := by
  have := EqH.flat (K := K) (H := H) (n := n) (x := .int i) (y := .int i) rfl rfl
  rwa [show eqV (.int i) (.int i) = true from beq_self_eq_true i] at this
theorem tK {H : Hp} {n : Nat} {l : List Nat} : EqH K H n (L2.T l) (L2.T l) true := by
  have := EqH.flat (K := K) (H := H) (n := n) (x := L2.T l) (y := L2.T l) rfl rfl
  rwa [show eqV (L2.T l) (L2.T l) = true by simp [eqV]] at this
theorem AZ {H : Hp} {n : Nat} {v v' : V} {e : Row} (h : RwAt H v e) (h' : RwAt H v' e) : EqH K H (n + 1) v v' true := by
  obtain ⟨q, rfl, e1⟩ := h
  obtain ⟨q', rfl, e2⟩ := h'
  by_cases hq : q = q'
  · subst hq; exact .same
  · have := EqH.tup (K := K) (H := H) (n := n) (e := fun _ => true) hq (SqT.of e1) (SqT.of e2) fun j x y gx gy => by
      match j, gx, gy with
      | 0, gx, gy => cases gx; cases gy; exact tK
      | 1, gx, gy => cases gx; cases gy; exact tK
      | 2, gx, gy => cases gx; cases gy; exact yf
      | j + 3, gx, gy => simp at gx
    exact this
theorem Ad {H : Hp} {n : Nat} {xs ys : List V} {ls : List Row} (h : A2 (RwAt H) xs ls) (h' : A2 (RwAt H) ys ls) : ∀ (j : Nat) (x y : V), xs[j]? = some x → ys[j]? = some y → EqH K H (n + 1) x y true := fun j x y gx gy => by
  obtain ⟨e, g1, r1⟩ := h.at_ gx
  obtain ⟨e', g2, r2⟩ := h'.at_ gy
  rw [g1] at g2; cases g2
  exact AZ r1 r2
theorem r9 {H : Hp} {p q : Addr} {xs ys : List V} {ls : List Row} (hp : H p = some (.lst xs)) (hq : H q = some (.lst ys)) (h : A2 (RwAt H) xs ls) (h' : A2 (RwAt H) ys ls) : EqR K H p q true := by
  have := EqR.lst (K := K) (e := fun _ => true) (SqL.of hp) (SqL.of hq) (h.len.trans h'.len.symm) (Ad (n := 49) h h')
  rwa [show (List.range xs.length).all (fun _ => true) = true by simp] at this
def mr : Row := ⟨[109, 111, 114, 101], [65, 65, 65], 1⟩
def sp_xS (J : Addr) : Sp := sp5 fun _ y m g h H Q _ => NoT H ∧ asR y fun j => asR m fun bk => asI g fun t => asR h fun hd => ∃ b u vs bs ws hs, JAt J H j b u vs ∧ A2 (BkAt H) vs bs ∧ H bk = some (.lst ws) ∧ A2 (MnAt [] H) ws bs ∧ bs.length ≤ 20 ∧ (∀ b ∈ bs, b.rs.length ≤ 10) ∧ (dk (rsd t bs)).length < 64 ∧ H hd = some (.lst hs) ∧ hs.length ≤ 1000 ∧ b ≠ hd ∧
  ∀ e H', (∀ W, LW W H → HdAt W H' (.ref e)) → H' hd = some (.lst (hs ++ [.ref e])) → Keep [hd] H H' → NoT H' → Q (.bl true) H'
theorem oH (T : Txt K mg a) : bt P w K mg base (XE P w) 6 a.dm a.iG ["_law_chart_here", "_law_journal", "_law_booked", "_law_day_here", "_law_held"] (sp_xS a.aK) := by
  refine T.eh.okX iI (fun vs H Q E h => sp5.len h) (fun cdv A outer s H vs Q E hr h => ?_)
  obtain ⟨x0, x1, x2, x3, x4, rfl, h⟩ := sp5.inv h
  have ND := iI.nd
  have HU : (cL (XE P w) P w K mg base ["_law_chart_here", "_law_journal", "_law_booked", "_law_day_here", "_law_held", "_law_due_here", "_law_found", "_law_row"] "_law_told" (af bj) a.dm cdv A outer s H E).A.units + 100 < cLine := bQ hr
  obtain ⟨hN, h2⟩ := h
  obtain ⟨j, rfl, h3⟩ := asR.inv h2
  obtain ⟨bk, rfl, h4⟩ := asR.inv h3
  obtain ⟨t, rfl, h5⟩ := asI.inv h4
  obtain ⟨hd, rfl, b, u, vs, bs, ws, hs, JJ, hv, hbk, hw, len, ok, l64, hhd, lh, nb, k⟩ := asR.inv h5
  have sz : 1000 ≤ sizeLine := by rw [sizeLine_eq]; decide
  have G_balances := pK (P := P) (w := w) (base := base) T
  have b_balances := o3 T.fm
  have G__law_whole := lJ (P := P) (w := w) (base := base) T
  have b__law_whole := lH T.eU
  have G__law_due := pi (P := P) (w := w) (base := base) T
  have b__law_due := pA T.g8
  have c4 : ∃ u, PSs (cL (XE P w) P w K mg base ["_law_chart_here", "_law_journal", "_law_booked", "_law_day_here", "_law_held", "_law_due_here", "_law_found", "_law_row"] "_law_told" (af bj) a.dm cdv A outer s H E) (List.drop 4 (av bj)) u ∧ ∀ l1 ys1 l2 ys2 out x7 H1, out.Perm ((dk (rsd t bs)).map (·.1)) → uz out → Same H H1 → NoT H1 → H l1 = none → H l2 = none → l1 ≠ l2 → H1 l1 = some (.lst ys1) → H1 l2 = some (.lst ys2) → A2 (RwAt H1) ys1 (res (rsd t bs) out) → A2 (RwAt H1) ys2 (res (rsd t bs) out) →
      u { nx := fun _ H' => Q .non H', rt := Q } [some x0, some (.ref j), some (.ref bk), some (.int t), some (.ref hd), some (.ref l1), some (.ref l2), x7] H1 := by
    refine ⟨_, (ah (cq (cJ K PySem.F.plainAttrs_list PySem.F.slot_list_append PySem.F.type_list_append cv (fv 6) (FA.pa (aa (cV (FA.pa (aa (aN [109, 111, 114, 101]) (aa (aN [65, 65, 65]) (aa ae ag))))) ag))))
      (ah (cq (cJ K PySem.F.plainAttrs_list PySem.F.slot_list_append PySem.F.type_list_append cv (fv 4) (FA.pa (aa (cS (FA.pa (aa (fv 6) (aa (al vC (fv 5) (cS (FA.pa (aa (cV (FA.pa (aa (aN [109, 111, 114, 101]) (aa (aN [65, 65, 65]) (aa ae ag))))) ag)))) ag)))) ag))))
      (ak (aI (ei (dW K HU) (au G_balances (hr.mono (by decide)) rfl T.lz T.fm.kp b_balances .nil aC (FA.pa (aa (fv 0) (aa (fv 1) (aa (fv 3) ag))))) (fv 5) (bN _)))))), fun l1 ys1 l2 ys2 out x7 H1 po oo sm nT f1 f2 n12 h2 h4 a1 a2 => ?_⟩
    walk_at "rd"
    have hd1 := sm _ _ hhd
    have dl : hd ≠ l2 := ai hhd f2
    have lm : (res (rsd t bs) out).length ≤ 64 := by
      refine Nat.le_trans (by unfold res; rw [List.length_map]; exact List.length_filter_le _ _) ?_
      rw [po.length_eq, List.length_map]; omega
    have y1 := a1.len
    have y2 := a2.len
    refine ⟨.inl ⟨_, SqL.of h4⟩, by walk_at "om", fun z1 hz1 => ⟨l2, ys2, _, rfl, rfl, (ap (ai h4 hz1)).trans h4, by walk_at "om", ?_⟩⟩
    have kp : Keep [l2] H1 (upd (upd H1 z1 (.tup [L2.T [109, 111, 114, 101], L2.T [65, 65, 65], .int 1])) l2 (.lst (ys2 ++ [.ref z1]))) := (Keep.refl.new hz1).put (.head _)
    have lw := LW.one h4
    have sG : Same H (upd (upd H1 z1 (.tup [L2.T [109, 111, 114, 101], L2.T [65, 65, 65], .int 1])) l2 (.lst (ys2 ++ [.ref z1]))) := b8 (sm.trans (aj _ hz1)) f2
    have nG : NoT (upd (upd H1 z1 (.tup [L2.T [109, 111, 114, 101], L2.T [65, 65, 65], .int 1])) l2 (.lst (ys2 ++ [.ref z1]))) := aq (aq nT rfl) rfl
    have h4' : upd (upd H1 z1 (.tup [L2.T [109, 111, 114, 101], L2.T [65, 65, 65], .int 1])) l2 (.lst (ys2 ++ [.ref z1])) l2 = _ := ad
    have a2' : A2 (RwAt (upd (upd H1 z1 (.tup [L2.T [109, 111, 114, 101], L2.T [65, 65, 65], .int 1])) l2 (.lst (ys2 ++ [.ref z1])))) (ys2 ++ [.ref z1]) (res (rsd t bs) out ++ [mr]) := (bp kp lw a2).snoc ⟨z1, rfl, by rw [ap (Ne.symm (ai h4 hz1)), ad]; rfl⟩
    have a1' := bp kp lw a1
    have h2' := kp _ _ h2 (by simpa using n12)
    have hd' := kp _ _ hd1 (by simpa using dl)
    generalize upd (upd H1 z1 (.tup [L2.T [109, 111, 114, 101], L2.T [65, 65, 65], .int 1])) l2 (.lst (ys2 ++ [.ref z1])) = G at sG nG h4' a2' a1' h2' hd' ⊢
    clear kp lw
    refine ⟨.inl ⟨_, SqL.of hd'⟩, by walk_at "om", fun z2 hz2 => ⟨by walk_at "om", fun z3 hz3 => ?_⟩⟩
    walk_at "rd"
    have s1 := aj (HO.tup [L2.T [109, 111, 114, 101], L2.T [65, 65, 65], V.int 1]) hz2
    have s2 := s1.trans (aj (HO.lst [V.ref z2]) hz3)
    refine ⟨ys1, [.ref z2], s2 _ _ h2', ad, by simp; omega, fun m hm => ⟨by walk_at "om", fun e he => ?_⟩⟩
    have s3 := s2.trans (aj (HO.lst (ys1 ++ [V.ref z2])) hm)
    have s4 := s3.trans (aj (HO.lst [V.ref l2, V.ref m]) he)
    have m0 : H m = none := (sG.trans s2).free hm
    have e0 : H e = none := (sG.trans s3).free he
    have z0 : upd (upd (upd (upd G z2 (HO.tup [L2.T [109, 111, 114, 101], L2.T [65, 65, 65], V.int 1])) z3 (HO.lst [V.ref z2])) m (HO.lst (ys1 ++ [V.ref z2]))) e (HO.lst [V.ref l2, V.ref m]) z2 = some (.tup [L2.T [109, 111, 114, 101], L2.T [65, 65, 65], .int 1]) := (aj _ he) _ _ ((aj _ hm) _ _ ((aj _ hz3) _ _ ad))
    have gm : upd (upd (upd (upd G z2 (HO.tup [L2.T [109, 111, 114, 101], L2.T [65, 65, 65], V.int 1])) z3 (HO.lst [V.ref z2])) m (HO.lst (ys1 ++ [V.ref z2]))) e (HO.lst [V.ref l2, V.ref m]) m = _ := (aj _ he) _ _ ad
    have ge : upd (upd (upd (upd G z2 (HO.tup [L2.T [109, 111, 114, 101], L2.T [65, 65, 65], V.int 1])) z3 (HO.lst [V.ref z2])) m (HO.lst (ys1 ++ [V.ref z2]))) e (HO.lst [V.ref l2, V.ref m]) e = _ := ad
    have n4 : NoT (upd (upd (upd (upd G z2 (HO.tup [L2.T [109, 111, 114, 101], L2.T [65, 65, 65], V.int 1])) z3 (HO.lst [V.ref z2])) m (HO.lst (ys1 ++ [V.ref z2]))) e (HO.lst [V.ref l2, V.ref m])) := aq (aq (aq (aq nG rfl) rfl) rfl) rfl
    generalize upd (upd (upd (upd G z2 (HO.tup [L2.T [109, 111, 114, 101], L2.T [65, 65, 65], V.int 1])) z3 (HO.lst [V.ref z2])) m (HO.lst (ys1 ++ [V.ref z2]))) e (HO.lst [V.ref l2, V.ref m]) = F at s4 z0 gm ge n4 ⊢
    clear s3 s2 s1 hm he hz3 hz2
    have sF := sG.trans s4
    have hF := s4 _ _ hd'
    refine ⟨hd, hs, _, rfl, rfl, hF, by rw [sizeLine_eq]; omega, aq n4 rfl, b, u, vs, bs, ?_⟩
    have kp : Keep [hd] H (upd F hd (.lst (hs ++ [.ref e]))) := (Keep.same sF).put (.head _)
    have kF : Keep [hd] F (upd F hd (.lst (hs ++ [.ref e]))) := Keep.refl.put (.head _)
    have lw := LW.one hF
    have a2F := bp kF lw (bJ s4 a2')
    have a1F := bp kF lw (bJ s4 a1')
    have zF := kF _ _ z0 (lw.tup z0)
    have no1 : ∀ q o, H q = none → F q = some o → upd F hd (.lst (hs ++ [.ref e])) q = some o := fun q o h g => kF _ _ g (by simpa using Ne.symm (ai hhd h))
    have l1F := no1 _ _ f1 (s4 _ _ h2')
    have l2F := no1 _ _ f2 (s4 _ _ h4')
    have mF := no1 _ _ m0 gm
    have eF := no1 _ _ e0 ge
    have dF : upd F hd (.lst (hs ++ [.ref e])) hd = _ := ad
    clear no1 kF
    generalize upd F hd (.lst (hs ++ [.ref e])) = X at kp a2F a1F zF l1F l2F mF eF dF ⊢
    obtain ⟨dj, hj⟩ := JJ.ob
    have lh1 := LW.one hhd
    refine ⟨JJ.keep kp (lh1.no hj (by intro _ z; cases z)) (by simpa using nb) (lh1.no JJ.dc (by intro _ z; cases z)), gn kp lh1 hv, len, ok, l64, ?_⟩
    intro out3 l3 ys3 H3 po3 oo3 _ i2 a3 s3 N3
    obtain rfl : out3 = out := jq (po3.trans po.symm) oo3 oo
    walk_at "rd"
    refine ⟨_, r9 i2 (s3 _ _ l1F) a3 (bJ s3 a1F), k e H3 (fun W lW => ?_) (s3 _ _ dF) (fun c z h n => s3 _ _ (kp c z h n)) N3⟩
    exact ⟨e, l2, m, _, _, _, rfl, lW.new e0, lW.new f2, lW.new m0, s3 _ _ eF, s3 _ _ l2F, s3 _ _ mF, bJ s3 a2F, bJ s3 (a1F.snoc ⟨z2, rfl, zF⟩)⟩
  obtain ⟨u4, hu4, c4⟩ := c4
  refine ⟨_, (ah (aB (i := 5) ND rfl (Or.inl rfl) (au G__law_due (hr.mono (by decide)) rfl T.rF T.g8.kp b__law_due .nil aC (FA.pa (aa (fv 2) (aa (fv 3) ag)))))
      (ah (aB (i := 6) ND rfl (Or.inl rfl) (au G_balances (hr.mono (by decide)) rfl T.lz T.fm.kp b_balances .nil aC (FA.pa (aa (fv 0) (aa (fv 1) (aa (fv 3) ag))))))
      (ah (cf (L2.PW.pt (vQ (dU (d5 (aJ (dH K) rfl T.bA bq (FA.pa (aa (fv 6) (aa (dJ (v := .ty "list") rfl T.qY nI rfl) ag)))))) (rf (cj (oa K HU) (fv 6) (fv 5) (bN _))))) (ak (aI sZ)) bi)
      (ah (da (by passes_own) rfl (cC K (fv 6)) (aL (i := 7) ND rfl (Or.inl rfl)) (ak (cf (L2.PW.pt (vQ (dU (d5 (aJ (dH K) rfl T.bA bq (FA.pa (aa (fv 7) (aa (dJ (v := .ty "tuple") rfl T.sQ qB rfl) ag)))))) (rf (dU (d5 (au G__law_whole (hr.mono (by decide)) rfl T.nQ T.eU.kp b__law_whole .nil aC (FA.pa (aa (bd (aA K) (fv 7) ae (fun _ _ => rfl)) ag)))))))) (ak (aI sZ)) bi)))
      hu4)))), ?_⟩
  walk_at "rd"
  refine ⟨hN, ws, bs, hbk, hw, len, ok, l64, ?_⟩
  intro out1 l1 ys1 H1 po1 oo1 f1 h1 a1 s1 N1
  walk_at "rd"
  refine ⟨N1, b, u, vs, bs, JJ.keep (S := []) (Keep.same s1) List.not_mem_nil List.not_mem_nil List.not_mem_nil, vW s1 hv, len, ok, l64, ?_⟩
  intro out2 l2 ys2 H2 po2 oo2 f2 h2 a2 s2 N2
  have e : out2 = out1 := jq (po2.trans po1.symm) oo2 oo1
  subst e
  have a1' := bJ s2 a1
  have h1' := s2 _ _ h1
  have kl : cz H2 (.ref l2) = some "list" := by simp [cz, h2]
  walk_at "rd"
  simp only [kl]
  refine itn (by decide) ⟨_, r9 h2 h1' a2 a1', itn (by decide) (fV ?_)⟩
  walk_at "rd"
  refine gl (SqL.of h2) (fZ (fun i σ' H' => H' = H2 ∧ ∃ x7, σ' = [some x0, some (.ref j), some (.ref bk), some (.int t), some (.ref hd), some (.ref l1), some (.ref l2), x7]) ⟨rfl, none, rfl⟩ (fun i σ' H' _ h => by rw [h.1]; exact SqL.of h2) ?_ ?_)
  · rintro i x σ' H' hx ⟨rfl, x7, rfl⟩
    obtain ⟨e, he, q, rfl, hq⟩ := a2.at_ hx
    have kx : cz H' (.ref q) = some "tuple" := by simp [cz, hq]
    walk_at "rd"
    simp only [kx]
    refine itn (by decide) ⟨_, _, .inr (SqT.of hq), bL (j := 2) rfl, N2, asK.of (t := "int") rfl (itn (by intro z; cases z) ?_)⟩
    exact ⟨_, rfl⟩
  · rintro σ' H' ⟨rfl, x7, rfl⟩
    exact c4 l1 ys1 l2 ys2 out2 x7 H' po2 oo2 (s1.trans s2) N2 f1 (s1.free f2) (ai h1 f2) h1' h2 a1' a2
end
section
variable {pS : Addr} {ns : List Int} {P : Program} {w : World} {K : PySem.W.Frag} {mg : Str → Option Value} {base : Heap} {a : Adr}
theorem Aa (x y : V) : List.lookup (Str.ofString "put") [(Str.ofString "bookings", x), (Str.ofString "undoings", y)] = none := by rw [bn (by decide +kernel), bn (by decide +kernel)]; rfl
def SameA (s t : iQ) : Prop := t.j = s.j ∧ t.b = s.b ∧ t.u = s.u ∧ t.k = s.k
theorem SameA.refl (s : iQ) : SameA s s := ⟨rfl, rfl, rfl, rfl⟩
theorem SameA.trans {s t u : iQ} (h : SameA s t) (g : SameA t u) : SameA s u := ⟨g.1.trans h.1, g.2.1.trans h.2.1, g.2.2.1.trans h.2.2.1, g.2.2.2.trans h.2.2.2⟩
theorem few {bs : List Bk} {ps cu : List (List Nat)} {t : Int} (ok : ∀ b ∈ bs, yZ ps cu b) (lp : ps.length ≤ 11) (lc : cu.length = 3) : (dk (rsd t bs)).length < 64 := by
  have h := zY (rs := rsd t bs) (ps := ps) (cu := cu) fun r hr => by
    obtain ⟨b, hb, m⟩ := xW hr
    exact (ok b hb).2 r m
  rw [lc] at h; omega
theorem sC {J : Addr} {ps cu : List (List Nat)} {H0 H : Hp} {hd : Addr} {fx : List (Addr × List V)} {s0 t0 s t : iQ} {hs : List V} {i : Int} (hi : i = 0 ∨ i = 1) (es : SameA s0 s) (et : SameA t0 t) (L : LS J ps cu H0 hd fx H s t hs) :
    ∃ x y, LS J ps cu H0 hd fx H x y hs ∧ atI [V.ref s0.j, V.ref t0.j] i = some (.ref x.j) ∧ atI [V.ref s0.k, V.ref t0.k] i = some (.ref x.k) ∧ x.bs.length + y.bs.length = s.bs.length + t.bs.length ∧
      ∀ x' hs' H', SameA x x' → LS J ps cu H0 hd fx H' x' y hs' → ∃ s' t', SameA s0 s' ∧ SameA t0 t' ∧ LS J ps cu H0 hd fx H' s' t' hs' ∧ s'.bs.length + t'.bs.length = x'.bs.length + y.bs.length := by
  rcases hi with rfl | rfl
  · exact ⟨s, t, L, by rw [es.1]; rfl, by rw [es.2.2.2]; rfl, rfl, fun x' hs' H' e L' => ⟨x', t, es.trans e, et, L', rfl⟩⟩
  · exact ⟨t, s, L.swap, by rw [et.1]; rfl, by rw [et.2.2.2]; rfl, Nat.add_comm _ _, fun x' hs' H' e L' => ⟨s, x', es, et.trans e, L'.swap, Nat.add_comm _ _⟩⟩
def sp_law (K : PySem.W.Frag) : Sp := sp1 fun x H Q _ => asR x fun p => NoT H ∧ ∃ ns : List Int, SqL K H p (ns.map V.int) ∧ ns.length ≤ 63 ∧ Q (.bl true) H
set_option maxHeartbeats 4000000 in
theorem zU (T : Txt K mg a) : bt P w K mg base (XE P w) 14 a.mS a.v_ ["_law_script"] (sp_law K) := by
  refine T.Bx.okG vB (fun vs H Q E h => sp1.len h) (fun cdv A outer s H vs Q E hr h => ?_)
  obtain ⟨x0, rfl, h⟩ := sp1.inv h
  have ND := vB.nd
  have HU : (cL (XE P w) P w K mg base ["_law_script", "_law_base", "_law_paths_here", "_law_currencies_here", "_law_chart_here", "_law_both", "_law_booked", "_law_held", "_law_k", "_law_at", "_law_rows_here", "_law_day_here", "_law_handed", "_law_one", "_law_other", "_law_query"] "law" (af d_) a.mS cdv A outer s H (gcE H E)).A.units + 100 < cLine := bQ hr
  obtain ⟨pS, rfl, hN, ns, hS, hl, k⟩ := asR.inv h
  have G__law_told := oH (P := P) (w := w) (base := base) T
  have b__law_told := oy T.eh
  have G__law_day := pG (P := P) (w := w) (base := base) T
  have b__law_day := pT T.eQ
  have G__law_mixed := eC (P := P) (w := w) (base := base) T
  have b__law_mixed := eD T.aU
  have G_Journal_put := lq (P := P) (w := w) (base := base) T
  have b_Journal_put := kz T.g7
  have G__law_rows := oC (P := P) (w := w) (base := base) T
  have b__law_rows := oF T.f_
  have G_Journal___init__ := gL (P := P) (w := w) (base := base) T
  have b_Journal___init__ := gK T.dZ
  have G__law_chart := lO (P := P) (w := w) (base := base) T
  have b__law_chart := lU T.fo
  have G__law_currencies := ia (P := P) (w := w) (base := base) T
  have b__law_currencies := hG T.cO
  have G__law_cell_at := fA (P := P) (w := w) (base := base) T (pS := pS) (ns := ns)
  have b__law_cell_at := fH T.br
  have G__law_paths := md (P := P) (w := w) (base := base) T (pS := pS) (ns := ns)
  have b__law_paths := mh T.eW
  have sz : 1000 ≤ sizeLine := by rw [sizeLine_eq]; decide
  have c8 : ∃ u, PSs (cL (XE P w) P w K mg base ["_law_script", "_law_base", "_law_paths_here", "_law_currencies_here", "_law_chart_here", "_law_both", "_law_booked", "_law_held", "_law_k", "_law_at", "_law_rows_here", "_law_day_here", "_law_handed", "_law_one", "_law_other", "_law_query"] "law" (af d_) a.mS cdv A outer s H (gcE H E)) (List.drop 8 (av d_)) u ∧ ∀ (ps cu : List (List Nat)) H0 H1 pb pk hd (s0 t0 s t : iQ) hs x1 x2 x3 x4 x8 x9 x10 x11 x12 x13 x14 x15,
      Same H H0 → SameA s0 s → SameA t0 t → LS a.aK ps cu H0 hd [(pb, [.ref s0.j, .ref t0.j]), (pk, [.ref s0.k, .ref t0.k])] H1 s t hs → s.bs.length + t.bs.length ≤ 14 → hs.length ≤ 42 → ps.length ≤ 11 → cu.length = 3 →
      u { nx := fun _ H' => ∃ G, Gc H G H' ∧ Q .non G, rt := fun v H' => ∃ G, Gc H G H' ∧ Q v G } [some (.ref pS), x1, x2, x3, some x4, some (.ref pb), some (.ref pk), some (.ref hd), x8, x9, x10, x11, x12, x13, x14, x15] H1 := by
    refine ⟨_, (ah (da (by passes_own) rfl (cY rfl T.dP (FA.pa (aa ae ag))) (aL (i := 9) ND rfl (Or.inl rfl)) (ak (cf (dU (d5 (au G__law_told (hr.mono (by decide)) rfl T.jC T.eh.kp b__law_told .nil aC (FA.pa (aa (fv 4) (aa (bd (aA K) (fv 5) (fv 9) (fun _ _ => rfl)) (aa (bd (aA K) (fv 6) (fv 9) (fun _ _ => rfl)) (aa ae (aa (fv 7) ag))))))))) (ak (aI sZ)) bi)))
      (ak (aI (aJ (nz K rfl) rfl T.vy rq (FA.pa (aa (cP rfl (cl := _) (x := "_law_pair") (xs := ["_law_pair"]) (fr := []) (ks := []) (by exact ⟨rfl, by decide +kernel, rfl, by decide +kernel, rfl, dL rfl, rfl, bo rfl, bo (k := fun y => List.lookup y _) rfl, dN rfl⟩) rfl (cC K (fv 7)) (fun _ _ _ _ _ => (aL (i := 0) (gX (l := ["_law_pair"]) (by decide)) rfl (Or.inl rfl))) (fun _ _ _ _ _ => gH) (fun _ _ _ _ _ => (ei (dW K HU) (bd (aA K) (fv 0) ae (fun _ _ => rfl)) (bd (aA K) (fv 0) ae (fun _ _ => rfl)) (bN _)))) ag)))))), fun ps cu H0 H1 pb pk hd s0 t0 s t hs x1 x2 x3 x4 x8 x9 x10 x11 x12 x13 x14 x15 s00 es et L lb lh lp lc => ?_⟩
    walk_at "rd"
    refine fP ?_
    walk_at "rd"
    refine dQ (lo := 0) (n := 2) (fun i σ' H' => ∃ s t hs x9, SameA s0 s ∧ SameA t0 t ∧ LS a.aK ps cu H0 hd [(pb, [.ref s0.j, .ref t0.j]), (pk, [.ref s0.k, .ref t0.k])] H' s t hs ∧ s.bs.length + t.bs.length ≤ 14 ∧ hs.length ≤ 42 + i ∧ σ' = [some (.ref pS), x1, x2, x3, some x4, some (.ref pb), some (.ref pk), some (.ref hd), x8, x9, x10, x11, x12, x13, x14, x15]) ⟨s, t, hs, x9, es, et, L, lb, lh, rfl⟩ ?_ ?_
    · clear L es et
      rintro i σ' H' hi ⟨s, t, hs, x9, es, et, L, lb, lh, rfl⟩
      obtain ⟨x, y, L1, eB, eK, ln, back⟩ := sC (i := 0 + (i : Int)) (by omega) es et L
      obtain ⟨fB, _⟩ := L1.fx _ (.head _)
      obtain ⟨fK, _⟩ := L1.fx _ (.tail _ (.head _))
      walk_at "rd"
      refine ⟨_, _, .inl (SqL.of fB), eB, _, _, .inl (SqL.of fK), eK, L1.nT, ?_⟩
      walk_at "rd"
      refine ⟨x.b, x.u, x.vs, x.bs, x.ws, hs, L1.a0.jr, L1.a0.jv, L1.a0.bl, tw L1.a0.bw, by walk_at "om", fun b hb => (L1.a0.ok b hb).1, few L1.a0.ok lp lc, L1.hl, by walk_at "om", Ne.symm L1.ne.1.2.1, fun e H3 h3 d3 k3 N3 => ?_⟩
      obtain ⟨s', t', e1, e2, L2', ln2⟩ := back x _ H3 (SameA.refl _) (L1.told k3 N3 d3 (h3 _ L1.lw))
      exact ⟨s', t', _, _, e1, e2, L2', by walk_at "om", by simp; omega, rfl⟩
    · clear L es et
      rintro σ' H' ⟨s, t, hs, x9, es, et, L, lb, lh, rfl⟩
      walk_at "rd"
      have d4 := L.hl
      refine cmL hd hs (fun H5 => Same H' H5) (fun D ys hD => aj _ hD) (fun H5 c => SqL.of (c _ _ d4)) (fun _ => true) (fun _ => .bl true) (fun R r => r) (SqL.of d4) (by walk_at "om") (fun x _ H5 R _ r => r) (fun x hx _ H5 R cc' r => ?_) (fun D hD => ?_)
      · obtain ⟨q, c1, d1, xs, ys, ls, rfl, _, _, _, i1, i2, i3, r1, r2⟩ := L.hh x hx
        walk_at "rd"
        refine ⟨_, _, .inl (SqL.of (cc' _ _ i1)), bL (j := 0) rfl, _, _, .inl (SqL.of (cc' _ _ i1)), bL (j := 1) rfl, ?_⟩
        walk_at "rd"
        exact ⟨_, r9 (cc' _ _ i2) (cc' _ _ i3) (bJ cc' r1) (bJ cc' r2), r⟩
      · walk_at "rd"
        refine ⟨hs.map fun _ => true, SqL.of (by rw [ad, List.filter_eq_self.mpr (by simp), List.map_map]; rfl), H, Gc.none ((s00.trans L.sm).trans (aj _ hD)), ?_⟩
        rw [show (hs.map fun _ => true).all id = true by simp]; exact k
  obtain ⟨u8, hu8, c8⟩ := c8
  have c7 : ∃ u, PSs (cL (XE P w) P w K mg base ["_law_script", "_law_base", "_law_paths_here", "_law_currencies_here", "_law_chart_here", "_law_both", "_law_booked", "_law_held", "_law_k", "_law_at", "_law_rows_here", "_law_day_here", "_law_handed", "_law_one", "_law_other", "_law_query"] "law" (af d_) a.mS cdv A outer s H (gcE H E)) (List.drop 7 (av d_)) u ∧ ∀ (ps cu : List (List Nat)) H0 H1 pp cp pb pk hd (s0 t0 : iQ) cc (x1 : Int) x4,
      Same H H0 → LS a.aK ps cu H0 hd [(pb, [.ref s0.j, .ref t0.j]), (pk, [.ref s0.k, .ref t0.k])] H1 s0 t0 [] → s0.bs.length + t0.bs.length = 0 → il cc ps → ps.length ≤ 11 → cu.length = 3 → H0 pp = some (.lst (ps.map L2.T)) → H0 cp = some (.lst (cu.map L2.T)) →
      u { nx := fun _ H' => ∃ G, Gc H G H' ∧ Q .non G, rt := fun v H' => ∃ G, Gc H G H' ∧ Q v G } [some (.ref pS), some (.int x1), some (.ref pp), some (.ref cp), some x4, some (.ref pb), some (.ref pk), some (.ref hd), none, none, none, none, none, none, none, none] H1 := by
    refine ⟨_, (ah (da (by passes_own) rfl (mB rfl T.dP (FA.pa (aa ae (aa (aJ (zC rfl) rfl T.Bi AK (FA.pa (aa (aJ (dO K) rfl T.iy eY (FA.pa (aa (fv 0) ag))) (aa ae ag)))) ag)))) (aL (i := 8) ND rfl (Or.inl rfl)) (ah (aB (i := 9) ND rfl (Or.inl rfl) (al aW (al aP (bd (aA K) (fv 0) (fv 8) (fun _ _ => rfl)) ae) ae))
      (ah (aB (i := 10) ND rfl (Or.inl rfl) (au G__law_rows (hr.mono (by decide)) rfl T.pX T.f_.kp b__law_rows .nil aC (FA.pa (aa (al aW (au G__law_mixed (hr.mono (by decide)) rfl T.bC T.aU.kp b__law_mixed .nil aC (FA.pa (aa (bd (aA K) (fv 0) (fv 8) (fun _ _ => rfl)) (aa ae ag)))) ae) (aa (fv 2) (aa (fv 3) ag))))))
      (ah (aB (i := 11) ND rfl (Or.inl rfl) (au G__law_day (hr.mono (by decide)) rfl T.kU T.eQ.kp b__law_day .nil aC (FA.pa (aa (al aW (au G__law_mixed (hr.mono (by decide)) rfl T.bC T.aU.kp b__law_mixed .nil aC (FA.pa (aa (bd (aA K) (fv 0) (fv 8) (fun _ _ => rfl)) (aa ae ag)))) ae) (aa (al aO (fv 1) (al aP (al aW (au G__law_mixed (hr.mono (by decide)) rfl T.bC T.aU.kp b__law_mixed .nil aC (FA.pa (aa (bd (aA K) (fv 0) (fv 8) (fun _ _ => rfl)) (aa ae ag)))) ae) ae)) ag)))))
      (ah (aB (i := 12) ND rfl (Or.inl rfl) (gG (sM K) rfl T.qY nI (FA.pa (aa (fv 10) ag))))
      (ah (cq (eE (bd (aA K) (fv 5) (fv 9) (fun _ _ => rfl)) T.cK T.lg G_Journal_put (hr.mono (by decide)) b_Journal_put .nil aC (FA.pa (aa (fv 11) (aa (aN []) (aa (fv 12) (aa nD ag)))))))
      (ah (cq (xb K PySem.F.plainAttrs_list PySem.F.slot_list_clear PySem.F.type_list_clear vS (fv 12)))
      (ah (cq (cJ K PySem.F.plainAttrs_list PySem.F.slot_list_append PySem.F.type_list_append cv (bd (aA K) (fv 6) (fv 9) (fun _ _ => rfl)) (FA.pa (aa (cV (FA.pa (aa (fv 11) (aa (fv 10) ag)))) ag))))
      (ah (aB (i := 13) ND rfl (Or.inl rfl) (au G__law_day (hr.mono (by decide)) rfl T.kU T.eQ.kp b__law_day .nil aC (FA.pa (aa (al aW (au G__law_mixed (hr.mono (by decide)) rfl T.bC T.aU.kp b__law_mixed .nil aC (FA.pa (aa (bd (aA K) (fv 0) (fv 8) (fun _ _ => rfl)) (aa ae ag)))) ae) (aa (al aO (fv 1) (al aP (al aW (au G__law_mixed (hr.mono (by decide)) rfl T.bC T.aU.kp b__law_mixed .nil aC (FA.pa (aa (bd (aA K) (fv 0) (fv 8) (fun _ _ => rfl)) (aa ae ag)))) ae) ae)) ag)))))
      (ah (aB (i := 14) ND rfl (Or.inl rfl) (lB (FA.pa (aa ae (aa (fv 11) (aa (al kf (fv 11) ae) (aa ae ag))))) (al aP (al aW (bd (aA K) (fv 0) (fv 8) (fun _ _ => rfl)) ae) ae) (fun _ _ => rfl)))
      (ak (da (by passes_own) rfl (xC K (cV (FA.pa (aa (fv 13) (aa (aJ (Ar rfl) rfl T.Bw Al (FA.pa (aa ae (aa (fv 14) ag)))) (aa (fv 13) ag)))))) (aL (i := 15) ND rfl (Or.inl rfl)) (ak (cf (dU (d5 (au G__law_told (hr.mono (by decide)) rfl T.jC T.eh.kp b__law_told .nil aC (FA.pa (aa (fv 4) (aa (bd (aA K) (fv 5) (fv 9) (fun _ _ => rfl)) (aa (bd (aA K) (fv 6) (fv 9) (fun _ _ => rfl)) (aa (fv 15) (aa (fv 7) ag))))))))) (ak (aI sZ)) bi))))))))))))))
      hu8), fun ps cu H0 H1 pp cp pb pk hd s0 t0 cc x1 x4 s00 L l0 hP lp lc hpp hcp => ?_⟩
    walk_at "rd"
    refine uD ?_
    walk_at "rd"
    have ll : (ns.map V.int).length ≤ 63 := by rw [List.length_map]; exact hl
    refine ⟨_, .inl (hS.same (s00.trans L.sm)), ?_⟩
    walk_at "rd"
    rw [List.length_map]
    generalize hj : (if (18 : Int) < (ns.length : Int) then (18 : Int) else (ns.length : Int)) = j
    have j1 : j ≤ 18 ∧ j ≤ (ns.length : Int) ∧ 0 ≤ j := by rw [← hj]; split <;> omega
    refine ⟨4, j, ⟨rfl, rfl⟩, ⟨by decide, by decide, by walk_at "om", by walk_at "om"⟩, ?_⟩
    generalize hn : (j - 4).toNat = n
    refine dQ (lo := 4) (n := n) (fun i σ' H' => ∃ s t hs x8 x9 x10 x11 x12 x13 x14 x15, SameA s0 s ∧ SameA t0 t ∧ LS a.aK ps cu H0 hd [(pb, [.ref s0.j, .ref t0.j]), (pk, [.ref s0.k, .ref t0.k])] H' s t hs ∧ s.bs.length + t.bs.length = i ∧ hs.length ≤ 3 * i ∧ σ' = [some (.ref pS), some (.int x1), some (.ref pp), some (.ref cp), some x4, some (.ref pb), some (.ref pk), some (.ref hd), x8, x9, x10, x11, x12, x13, x14, x15]) ⟨s0, t0, [], none, none, none, none, none, none, none, none, SameA.refl _, SameA.refl _, L, l0, by simp, rfl⟩ ?_ ?_
    · clear L l0
      rintro i σ' H' hi ⟨s, t, hs, x8, x9, x10, x11, x12, x13, x14, x15, es, et, L0, lb, lh, rfl⟩
      have hS1 := hS.same (s00.trans L0.sm)
      have k0 : atI (ns.map V.int) (4 + (i : Int)) = some (.int (ns.getD (4 + (i : Int)).toNat 0)) := rW (by walk_at "om") (by walk_at "om")
      generalize ns.getD (4 + (i : Int)).toNat 0 = v0 at k0
      obtain ⟨x, y, L, eB, eK, ln, back⟩ := sC (i := v0 % 3 / 2) (by omega) es et L0
      clear L0
      have l2 := hP.len2
      walk_at "rd"
      refine ⟨_, _, .inl hS1, k0, ?_⟩
      walk_at "rd"
      refine ⟨_, _, .inl hS1, k0, L.nT, ?_⟩
      walk_at "rd"
      refine ⟨L.nT, by have := (yO v0 20).1; omega, ps, cu, L.sm _ _ hpp, L.sm _ _ hcp, by walk_at "om", by walk_at "om", lc, fun rs rv r G lr hr1 fr hr2 ha sm1 N1 => ?_⟩
      refine ⟨_, _, .inl (hS1.same sm1), k0, N1, ?_⟩
      walk_at "rd"
      refine ⟨_, _, .inl (hS1.same sm1), k0, N1, ?_⟩
      walk_at "rd"
      refine ⟨N1, fun dy => ⟨rv, .inl (SqL.of hr2), fun hh fh => ?_⟩⟩
      have L1 := L.same sm1 N1
      have sh := aj (HO.lst rv) fh
      have L3 := L1.same sh (aq N1 rfl)
      have hhh : upd G hh (HO.lst rv) hh = _ := ad
      have hr3 := sh _ _ hr2
      have ha3 := bJ sh ha
      have fr3 : H' hh = none := sm1.free fh
      have smG := sm1.trans sh
      have rh : r ≠ hh := ai hr2 fh
      generalize upd G hh (HO.lst rv) = F at L3 hhh hr3 ha3 smG ⊢
      obtain ⟨fB, nB⟩ := L3.fx _ (.head _)
      obtain ⟨fK, nK⟩ := L3.fx _ (.tail _ (.head _))
      have lv := L3.a0.jv.len
      have lw := L3.a0.bw.len
      obtain ⟨dj, hj⟩ := L3.a0.jr.ob
      obtain ⟨⟨m1, m2, m3, m4⟩, m5, m6, m7⟩ := L3.ne
      refine ⟨_, _, .inl (SqL.of fB), eB, ?_⟩
      walk_at "rd"
      refine ⟨_, _, hj, Aa _ _, L3.nT, x.b, x.u, x.vs, rv, L3.a0.jr, by walk_at "om", hhh, fun q1 q F1 ft h3 fq h4 J3 K3 N3 => ?_⟩
      have bh : x.b ≠ hh := ai L.a0.jr.ls fr3
      have kh : x.k ≠ hh := ai L.a0.bl fr3
      have rb : r ≠ x.b := Ne.symm (ai L.a0.jr.ls fr)
      have rk : r ≠ x.k := Ne.symm (ai L.a0.bl fr)
      have hh3 := K3 _ _ hhh (by simpa using Ne.symm bh)
      have bk3 := K3 _ _ L3.a0.bl (by simpa using m5)
      have bk4 : upd F1 hh (.lst []) x.k = some (.lst x.ws) := (ap kh).trans bk3
      have pkh : pk ≠ hh := ai ((L.fx _ (.tail _ (.head _))).1) fr3
      have fK3 := K3 _ _ fK (by intro z; exact nK (by rw [List.mem_singleton.mp z]; exact .tail _ (.tail _ (.head _))))
      have fK4 : upd F1 hh (.lst []) pk = _ := (ap pkh).trans fK3
      walk_at "rd"
      refine ⟨.inl ⟨_, SqL.of hh3⟩, hh, rv, rfl, hh3, _, _, .inl (SqL.of fK4), eK, ?_⟩
      walk_at "rd"
      refine ⟨.inl ⟨_, SqL.of bk4⟩, by walk_at "om", fun m hm => ⟨x.k, x.ws, _, rfl, rfl, (aj _ hm) _ _ bk4, by walk_at "om", ?_⟩⟩
      have k1 : Keep [hh, x.k] F1 (upd (upd (upd F1 hh (.lst [])) m (.tup [.int dy, .ref r])) x.k (.lst (x.ws ++ [.ref m]))) := ((Keep.refl.put (.head _)).new hm).put (.tail _ (.head _))
      have lw1 : LW [hh, x.k] F1 := fun s ms => by
        rcases List.mem_cons.mp ms with rfl | ms
        · exact ⟨_, hh3⟩
        · rw [List.mem_singleton.mp ms]; exact ⟨_, bk3⟩
      have kX : Keep [x.k, x.b] H' (upd (upd (upd F1 hh (.lst [])) m (.tup [.int dy, .ref r])) x.k (.lst (x.ws ++ [.ref m]))) := ((((Keep.same smG).trans (K3.mono fun c ms => .tail _ ms)).fresh fr3).new hm).put (.head _)
      have ha4 := bp k1 lw1 (bp K3 (LW.one L3.a0.jr.ls) ha3)
      have LX := L.book (x := ⟨x.vs.length, dy, rs⟩) kX (aq (aq (aq N3 rfl) rfl) rfl) (k1 _ _ J3.ls (by simpa using ⟨bh, Ne.symm m5⟩)) ⟨q, q1, rv, rfl, k1 _ _ h4 (lw1.tup h4), k1 _ _ h3 (lw1.tup h3), ha4⟩ ad ⟨m, r, rv, rfl, by rw [ap (Ne.symm (ai bk4 hm)), ad], L.lw.new fr, k1 _ _ (K3 _ _ hr3 (by simpa using rb)) (by simpa using ⟨rh, rk⟩), ha4⟩ ⟨by show rs.length ≤ 10; omega, hr1⟩
      generalize upd (upd (upd F1 hh (.lst [])) m (.tup [.int dy, .ref r])) x.k (.lst (x.ws ++ [.ref m])) = X at LX ⊢
      have ex : SameA x { x with vs := x.vs ++ [.ref q], ws := x.ws ++ [.ref m], bs := x.bs ++ [⟨x.vs.length, dy, rs⟩] } := ⟨rfl, rfl, rfl, rfl⟩
      have eB' : atI [V.ref s0.j, V.ref t0.j] (v0 % 3 / 2) = some (.ref ({ x with vs := x.vs ++ [.ref q], ws := x.ws ++ [.ref m], bs := x.bs ++ [⟨x.vs.length, dy, rs⟩] } : iQ).j) := eB
      have eK' : atI [V.ref s0.k, V.ref t0.k] (v0 % 3 / 2) = some (.ref ({ x with vs := x.vs ++ [.ref q], ws := x.ws ++ [.ref m], bs := x.bs ++ [⟨x.vs.length, dy, rs⟩] } : iQ).k) := eK
      have lnX : ({ x with vs := x.vs ++ [.ref q], ws := x.ws ++ [.ref m], bs := x.bs ++ [⟨x.vs.length, dy, rs⟩] } : iQ).bs.length + y.bs.length = i + 1 := by
        show (x.bs ++ [_]).length + _ = _
        rw [List.length_append, List.length_singleton]; omega
      generalize ({ x with vs := x.vs ++ [.ref q], ws := x.ws ++ [.ref m], bs := x.bs ++ [⟨x.vs.length, dy, rs⟩] } : iQ) = z at LX ex eB' eK' lnX
      clear eB eK L L1 L3 k1 kX lw1 K3 J3 m1 m2 m3 m4 m5 m6 m7
      refine ⟨_, _, .inl (hS.same (s00.trans LX.sm)), k0, LX.nT, ?_⟩
      walk_at "rd"
      refine ⟨_, _, .inl (hS.same (s00.trans LX.sm)), k0, LX.nT, ?_⟩
      walk_at "rd"
      refine ⟨LX.nT, fun d1 => ⟨LX.nT, by walk_at "om", fun l1 hl1 => ?_⟩⟩
      walk_at "rd"
      refine ⟨_, _, .inl ((hS.same (s00.trans LX.sm)).same (aj _ hl1)), k0, ?_⟩
      walk_at "rd"
      refine ng (ns := [0, dy, dy - 1, 146096]) (by walk_at "om") (by show _ < (4 : Int); omega) ?_
      generalize List.getD [0, dy, dy - 1, 146096] (v0 / 3 % 4).toNat 0 = ot
      refine vM ?_
      walk_at "rd"
      generalize (if ot > 0 then ot else 0) = o2
      refine ⟨by walk_at "om", fun tq htq => ?_⟩
      have stq := aj (HO.tup [V.int d1, V.int o2, V.int d1]) htq
      have LT := LX.same stq (aq LX.nT rfl)
      have htT : upd X tq (HO.tup [V.int d1, V.int o2, V.int d1]) tq = _ := ad
      generalize upd X tq (HO.tup [V.int d1, V.int o2, V.int d1]) = T0 at LT htT ⊢
      refine vR (SqT.of htT) (xl (fun j σ' H2 => Keep [hd] T0 H2 ∧ ∃ hs2 x15, LS a.aK ps cu H0 hd [(pb, [.ref s0.j, .ref t0.j]), (pk, [.ref s0.k, .ref t0.k])] H2 z y hs2 ∧ hs2.length ≤ 3 * i + j ∧ σ' = [some (.ref pS), some (.int x1), some (.ref pp), some (.ref cp), some x4, some (.ref pb), some (.ref pk), some (.ref hd), some (.int (4 + (i : Int))), some (.int (v0 % 3 / 2)), some (.ref r), some (.int dy), some (.ref hh), some (.int d1), some (.int ot), x15]) ⟨Keep.refl, hs, x15, LT, by walk_at "om", rfl⟩ (fun j σ' H2 _ h => SqT.of (h.1 _ _ htT ((LW.one LT.hl).tup htT))) ?_ ?_)
      · rintro j v σ' H2 hx ⟨kT, hs2, x15, L2', lh2, rfl⟩
        have hj3 : j < 3 := by
          have := (List.getElem?_eq_some_iff.mp hx).1
          simpa using this
        obtain ⟨dd, rfl⟩ : ∃ dd, v = .int dd := by
          have mx : v ∈ [V.int d1, V.int o2, V.int d1] := List.mem_of_getElem? hx
          simp only [List.mem_cons, List.not_mem_nil, or_false] at mx
          rcases mx with rfl | rfl | rfl <;> exact ⟨_, rfl⟩
        obtain ⟨fB, _⟩ := L2'.fx _ (.head _)
        obtain ⟨fK, _⟩ := L2'.fx _ (.tail _ (.head _))
        walk_at "rd"
        refine ⟨_, _, .inl (SqL.of fB), eB', _, _, .inl (SqL.of fK), eK', L2'.nT, ?_⟩
        walk_at "rd"
        refine ⟨z.b, z.u, z.vs, z.bs, z.ws, hs2, L2'.a0.jr, L2'.a0.jv, L2'.a0.bl, tw L2'.a0.bw, by walk_at "om", fun b hb => (L2'.a0.ok b hb).1, few L2'.a0.ok lp lc, L2'.hl, by walk_at "om", Ne.symm L2'.ne.1.2.1, fun e H3 h3 d3 k3 N3 => ?_⟩
        exact ⟨fun c o h n => k3 _ _ (kT c o h n) n, _, _, L2'.told k3 N3 d3 (h3 _ L2'.lw), by simp; omega, rfl⟩
      · rintro σ' H2 ⟨kT, hs2, x15, L2', lh2, rfl⟩
        obtain ⟨s', t', e1, e2, L4, ln2⟩ := back z _ H2 ex L2'
        exact ⟨s', t', _, _, _, _, _, _, _, _, _, e1, e2, L4, by walk_at "om", by simp at lh2; omega, rfl⟩
    · rintro σ' H' ⟨s, t, hs, x8, x9, x10, x11, x12, x13, x14, x15, es, et, L, lb, lh, rfl⟩
      exact c8 ps cu H0 H' pb pk hd s0 t0 s t hs _ _ _ _ _ _ _ _ _ _ _ _ s00 es et L (by walk_at "om") (by walk_at "om") lp lc
  obtain ⟨u7, hu7, c7⟩ := c7
  refine ⟨hN, _, (ah (aB (i := 1) ND rfl (Or.inl rfl) (al aP (au G__law_cell_at (hr.mono (by decide)) rfl T.ck T.br.kp b__law_cell_at .nil aC (FA.pa (aa (fv 0) (aa ae ag)))) ae))
      (ah (aB (i := 2) ND rfl (Or.inl rfl) (au G__law_paths (hr.mono (by decide)) rfl T.nq T.eW.kp b__law_paths .nil aC (FA.pa (aa (fv 0) (aa (al aO ae (al aP (al aW (au G__law_cell_at (hr.mono (by decide)) rfl T.ck T.br.kp b__law_cell_at .nil aC (FA.pa (aa (fv 0) (aa ae ag)))) ae) ae)) ag)))))
      (ah (aB (i := 3) ND rfl (Or.inl rfl) (au G__law_currencies (hr.mono (by decide)) rfl T.iP T.cO.kp b__law_currencies .nil aC (FA.pa (aa (au G__law_cell_at (hr.mono (by decide)) rfl T.ck T.br.kp b__law_cell_at .nil aC (FA.pa (aa (fv 0) (aa ae ag)))) ag))))
      (ah (aB (i := 4) ND rfl (Or.inl rfl) (au G__law_chart (hr.mono (by decide)) rfl T.oj T.fo.kp b__law_chart .nil aC (FA.pa (aa (fv 2) ag))))
      (ah (aB (i := 5) ND rfl (Or.inl rfl) (cS (FA.pa (aa (i7 T.j5 G_Journal___init__ (hr.mono (by decide)) rfl T.mQ b_Journal___init__ .nil aC) (aa (i7 T.j5 G_Journal___init__ (hr.mono (by decide)) rfl T.mQ b_Journal___init__ .nil aC) ag)))))
      (ah (aB (i := 6) ND rfl (Or.inl rfl) (cS (FA.pa (aa (cS (FA.pa ag)) (aa (cS (FA.pa ag)) ag)))))
      (ah (aB (i := 7) ND rfl (Or.inl rfl) (cS (FA.pa ag)))
      hu7))))))), ?_⟩
  walk_at "rd"
  refine ⟨hN, hS, hN, hS, hN, hS, ⟨by walk_at "om", by walk_at "om"⟩, fun ps pp hP lp hpp => ?_⟩
  have s1 := aj (HO.lst (ps.map L2.T)) hpp
  refine ⟨aq hN rfl, hS.same s1, aq hN rfl, fun cu lc _ cp hcp => ?_⟩
  have s2 := s1.trans (aj (HO.lst (cu.map L2.T)) hcp)
  refine ⟨aq (aq hN rfl) rfl, _, ps, (aj _ hcp) _ _ ad, hP, lp, fun pc d cs H1 JC cg fbl fd s3 N3 => ?_⟩
  have hpp1 := s3 _ _ ((aj (HO.lst (cu.map L2.T)) hcp) _ _ (ad (H := H) (a := pp)))
  have hcp1 := s3 cp _ ad
  intro j0 dx0 hj0 hdx0 ne0
  refine ⟨aq (aq N3 rfl) rfl, _, ad, fun b0 u0 G0 hb0 hu0 J0 K0 M0 => ?_⟩
  intro j1 dx1 hj1 hdx1 ne1
  refine ⟨aq (aq M0 rfl) rfl, _, ad, fun b1 u1 G1 hb1 hu1 J1 K1 M1 => ⟨by walk_at "om", fun pb hpb => ⟨Nat.zero_le _, fun k0 hk0 => ⟨Nat.zero_le _, fun k1 hk1 => ⟨by walk_at "om", fun pk hpk => ⟨Nat.zero_le _, fun hd hhd => ?_⟩⟩⟩⟩⟩⟩
  have q0 : Same H1 G0 := fun c z e => eM hj0 hdx0 K0 c z e List.not_mem_nil
  have q1 : Same G0 G1 := fun c z e => eM hj1 hdx1 K1 c z e List.not_mem_nil
  have t1 := aj (HO.lst [.ref j0, .ref j1]) hpb
  have i2 := aj (HO.lst []) hk0
  have i3 := aj (HO.lst []) hk1
  have i4 := aj (HO.lst [.ref k0, .ref k1]) hpk
  have i5 := aj (HO.lst []) hhd
  have t2 := t1.trans i2
  have t3 := t2.trans i3
  have t4 := t3.trans i4
  have t5 := t4.trans i5
  have B0 := q1 _ _ J0.ls
  have B1 := J1.ls
  have f0 := cX hb0
  have f1 := cX hb1
  have n01 : b0 ≠ b1 := ai J0.ls f1
  have p0 := ai B0 hpb
  have p1 := ai B1 hpb
  have k00 := ai (t1 _ _ B0) hk0
  have k01 := ai (t1 _ _ B1) hk0
  have k0p := ai (ad (H := G1) (a := pb) (o := HO.lst [.ref j0, .ref j1])) hk0
  have k10 := ai (t2 _ _ B0) hk1
  have k11 := ai (t2 _ _ B1) hk1
  have k1p := ai (i2 _ _ (ad (H := G1) (a := pb) (o := HO.lst [.ref j0, .ref j1]))) hk1
  have kk := ai (ad (a := k0) (o := HO.lst [])) hk1
  have r0 := ai (t3 _ _ B0) hpk
  have r1 := ai (t3 _ _ B1) hpk
  have rk0 := ai (i3 _ _ (ad (a := k0) (o := HO.lst []))) hpk
  have rk1 := ai (ad (a := k1) (o := HO.lst [])) hpk
  have h0 := ai (t4 _ _ B0) hhd
  have h1 := ai (t4 _ _ B1) hhd
  have hp' := ai (i4 _ _ (i3 _ _ (i2 _ _ (ad (H := G1) (a := pb) (o := HO.lst [.ref j0, .ref j1]))))) hhd
  have hk0' := ai (i4 _ _ (i3 _ _ (ad (a := k0) (o := HO.lst [])))) hhd
  have hk1' := ai (i4 _ _ (ad (a := k1) (o := HO.lst []))) hhd
  have hpk' := ai (ad (a := pk) (o := HO.lst [.ref k0, .ref k1])) hhd
  have g1 := q0.trans q1
  refine c7 ps cu H1 _ pp cp pb pk hd ⟨j0, b0, u0, k0, [], [], []⟩ ⟨j1, b1, u1, k1, [], [], []⟩ _ _ _ (s2.trans s3) ⟨g1.trans t5, aq (aq (aq (aq (aq M1 rfl) rfl) rfl) rfl) rfl, ⟨J0.keep (S := []) (Keep.same (q1.trans t5)) List.not_mem_nil List.not_mem_nil List.not_mem_nil, .nil, i5 _ _ (i4 _ _ (i3 _ _ ad)), .nil, (fun _ m => nomatch m)⟩, ⟨J1.keep (S := []) (Keep.same t5) List.not_mem_nil List.not_mem_nil List.not_mem_nil, .nil, i5 _ _ (i4 _ _ ad), .nil, (fun _ m => nomatch m)⟩, ad, (fun _ m => nomatch m), ?_, fun c m => ?_, fun e m => ?_⟩ rfl hP lp lc hpp1 hcp1
  · simp only [WS, List.nodup_cons, List.mem_cons, List.not_mem_nil, or_false, not_or, not_false_eq_true, List.nodup_nil, and_true]
    exact ⟨⟨Ne.symm hk0', Ne.symm h0, Ne.symm hk1', Ne.symm h1⟩, ⟨Ne.symm k00, kk, Ne.symm k01⟩, ⟨k10, n01⟩, Ne.symm k11⟩
  · simp only [WS, List.mem_cons, List.not_mem_nil, or_false] at m
    rcases m with rfl | rfl | rfl | rfl | rfl
    · exact (g1.trans t4).free hhd
    · exact (g1.trans t1).free hk0
    · exact f0
    · exact (g1.trans t2).free hk1
    · exact q0.free f1
  · simp only [List.mem_cons, List.not_mem_nil, or_false] at m
    simp only [WS, List.mem_cons, List.not_mem_nil, or_false, not_or]
    rcases m with rfl | rfl
    · exact ⟨i5 _ _ (i4 _ _ (i3 _ _ (i2 _ _ ad))), hp', k0p, Ne.symm p0, k1p, Ne.symm p1⟩
    · exact ⟨i5 _ _ ad, hpk', Ne.symm rk0, Ne.symm r0, Ne.symm rk1, Ne.symm r1⟩
theorem law_starts {H : Hp} {p : Addr} (hO : ua H) (hS : SqL K H p (ns.map V.int)) (hl : ns.length ≤ 63) : sp_law K [.ref p] H (fun v _ => v = .bl true) fun _ _ _ => False := ⟨vF hO, ns, hS, hl, rfl⟩
end
noncomputable abbrev fnQ (x q : String) (s : Stmt) (kV dc pm : Value) (an : Option Addr) (cd ct : Value) : FuncData := PySem.W.fnOf x q (ay s) (av s) (af s) .none kV dc pm an cd ct
open PySem.W in
theorem all_mk {l : OpenLaw} {w : World} {K : Frag} {h : Heap} {mg : Str → Option Value} {fa : Addr} (X : K.In h) (G : h.Ns mainGlobals mg) (hfa : mg "law" = some (.ref fa))
 {C0 C1 C2 C3 C4 C5 C6 C7 C8 C9 C10 C11 C12 : Addr}
 {f0 f1 f2 f3 f4 f5 f6 f7 f8 f9 f10 f11 f12 f13 f14 f15 f16 f17 f18 f19 f20 f21 f22 f23 f24 f25 f26 f27 f28 f29 f30 f31 f32 f33 f34 f35 f36 f37 f38 f39 : Addr} {od0 od1 od2 od3 od4 od5 od6 od7 od8 od9 od10 od11 od12 od13 od14 od15 od16 od17 od18 od19 od20 od21 od22 od23 od24 od25 od26 od27 od28 od29 od30 od31 od32 od33 od34 od35 od36 od37 od38 od39 an0 an1 an2 an3 an4 an5 an6 an7 an8 an9 an10 an11 an12 an13 an14 an15 an16 an17 an18 an19 an20 an21 an22 an23 an24 an25 an26 an27 an28 an29 an30 an31 an32 an33 an34 an35 an36 an37 an38 an39 : Option Addr} {sl0 sl1 sl2 sl3 sl4 sl5 sl6 sl7 sl8 sl9 sl10 sl11 sl12 sl13 sl14 sl15 sl16 sl17 sl18 sl19 sl20 sl21 sl22 sl23 sl24 sl25 sl26 sl27 sl28 sl29 sl30 sl31 sl32 sl33 sl34 sl35 sl36 sl37 sl38 sl39 : Array (Option Value)} {oc0 oc1 oc2 oc3 oc4 oc5 oc6 oc7 oc8 oc9 oc10 oc11 oc12 oc13 oc14 oc15 oc16 oc17 oc18 oc19 oc20 oc21 oc22 oc23 oc24 oc25 oc26 oc27 oc28 oc29 oc30 oc31 oc32 oc33 oc34 oc35 oc36 oc37 oc38 oc39 kV0 kV1 kV2 kV3 kV4 kV5 kV6 kV7 kV8 kV9 kV10 kV11 kV12 kV13 kV14 kV15 kV16 kV17 kV18 kV19 kV20 kV21 kV22 kV23 kV24 kV25 kV26 kV27 kV28 kV29 kV30 kV31 kV32 kV33 kV34 kV35 kV36 kV37 kV38 kV39 dc0 dc1 dc2 dc3 dc4 dc5 dc6 dc7 dc8 dc9 dc10 dc11 dc12 dc13 dc14 dc15 dc16 dc17 dc18 dc19 dc20 dc21 dc22 dc23 dc24 dc25 dc26 dc27 dc28 dc29 dc30 dc31 dc32 dc33 dc34 dc35 dc36 dc37 dc38 dc39 pm0 pm1 pm2 pm3 pm4 pm5 pm6 pm7 pm8 pm9 pm10 pm11 pm12 pm13 pm14 pm15 pm16 pm17 pm18 pm19 pm20 pm21 pm22 pm23 pm24 pm25 pm26 pm27 pm28 pm29 pm30 pm31 pm32 pm33 pm34 pm35 pm36 pm37 pm38 pm39 cd0 cd1 cd2 cd3 cd4 cd5 cd6 cd7 cd8 cd9 cd10 cd11 cd12 cd13 cd14 cd15 cd16 cd17 cd18 cd19 cd20 cd21 cd22 cd23 cd24 cd25 cd26 cd27 cd28 cd29 cd30 cd31 cd32 cd33 cd34 cd35 cd36 cd37 cd38 cd39 ct0 ct1 ct2 ct3 ct4 ct5 ct6 ct7 ct8 ct9 ct10 ct11 ct12 ct13 ct14 ct15 ct16 ct17 ct18 ct19 ct20 ct21 ct22 ct23 ct24 ct25 ct26 ct27 ct28 ct29 ct30 ct31 ct32 ct33 ct34 ct35 ct36 ct37 ct38 ct39 : Value}
 {D0 : Addr} {dd0 : Option Addr} {dsl0 : Array (Option Value)} {dn0 : Nat} {tk0 tk1 tk2 tk3 tk4 : Tok}
 (p0 : nsIn K mainGlobals "HouseError" = some (some (.ref C0)))
 (p1 : nsIn K mainGlobals "BadName" = some (some (.ref C1)))
 (p2 : nsIn K mainGlobals "BadDay" = some (some (.ref C2)))
 (p3 : nsIn K mainGlobals "BadCurrency" = some (some (.ref C3)))
 (p4 : nsIn K mainGlobals "BadPath" = some (some (.ref C4)))
 (p5 : nsIn K mainGlobals "BadKind" = some (some (.ref C5)))
 (p6 : nsIn K mainGlobals "NoAccount" = some (some (.ref C6)))
 (p7 : nsIn K mainGlobals "Twice" = some (some (.ref C7)))
 (p8 : nsIn K mainGlobals "NotOpen" = some (some (.ref C8)))
 (p9 : nsIn K mainGlobals "NoBooking" = some (some (.ref C9)))
 (p10 : nsIn K mainGlobals "Account" = some (some (.ref C10)))
 (p11 : nsIn K mainGlobals "Chart" = some (some (.ref C11)))
 (p12 : nsIn K mainGlobals "Journal" = some (some (.ref C12)))
 (a0 : nsIn K mainGlobals "is_whole" = some (some (.ref f0)))
 (l0 : K.lookup f0 = some ⟨oc0, od0, .func (fnQ "is_whole" "is_whole" bY kV0 dc0 pm0 an0 cd0 ct0), sl0⟩) (c0 : codeIn K cd0 "is_whole" = true) (k0 : keepIn K (.ref f0) = true)
 (a1 : nsIn K mainGlobals "is_among" = some (some (.ref f1)))
 (l1 : K.lookup f1 = some ⟨oc1, od1, .func (fnQ "is_among" "is_among" b4 kV1 dc1 pm1 an1 cd1 ct1), sl1⟩) (c1 : codeIn K cd1 "is_among" = true) (k1 : keepIn K (.ref f1) = true)
 (a2 : nsIn K mainGlobals "signs_lie" = some (some (.ref f2)))
 (l2 : K.lookup f2 = some ⟨oc2, od2, .func (fnQ "signs_lie" "signs_lie" bR kV2 dc2 pm2 an2 cd2 ct2), sl2⟩) (c2 : codeIn K cd2 "signs_lie" = true) (k2 : keepIn K (.ref f2) = true)
 (a3 : nsIn K mainGlobals "is_name" = some (some (.ref f3)))
 (l3 : K.lookup f3 = some ⟨oc3, od3, .func (fnQ "is_name" "is_name" cw kV3 dc3 pm3 an3 cd3 ct3), sl3⟩) (c3 : codeIn K cd3 "is_name" = true) (k3 : keepIn K (.ref f3) = true)
 (a4 : nsIn K mainGlobals "is_currency" = some (some (.ref f4)))
 (l4 : K.lookup f4 = some ⟨oc4, od4, .func (fnQ "is_currency" "is_currency" ba kV4 dc4 pm4 an4 cd4 ct4), sl4⟩) (c4 : codeIn K cd4 "is_currency" = true) (k4 : keepIn K (.ref f4) = true)
 (a5 : nsIn K mainGlobals "sums_of" = some (some (.ref f5)))
 (l5 : K.lookup f5 = some ⟨oc5, od5, .func (fnQ "sums_of" "sums_of" ce kV5 dc5 pm5 an5 cd5 ct5), sl5⟩) (c5 : codeIn K cd5 "sums_of" = true) (k5 : keepIn K (.ref f5) = true)
 (a6 : nsIn K mainGlobals "are_names" = some (some (.ref f6)))
 (l6 : K.lookup f6 = some ⟨oc6, od6, .func (fnQ "are_names" "are_names" bS kV6 dc6 pm6 an6 cd6 ct6), sl6⟩) (c6 : codeIn K cd6 "are_names" = true) (k6 : keepIn K (.ref f6) = true)
 (a7 : nsIn K mainGlobals "is_path" = some (some (.ref f7)))
 (l7 : K.lookup f7 = some ⟨oc7, od7, .func (fnQ "is_path" "is_path" cr kV7 dc7 pm7 an7 cd7 ct7), sl7⟩) (c7 : codeIn K cd7 "is_path" = true) (k7 : keepIn K (.ref f7) = true)
 (a8 : nsIn K mainGlobals "names_of" = some (some (.ref f8)))
 (l8 : K.lookup f8 = some ⟨oc8, od8, .func (fnQ "names_of" "names_of" bZ kV8 dc8 pm8 an8 cd8 ct8), sl8⟩) (c8 : codeIn K cd8 "names_of" = true) (k8 : keepIn K (.ref f8) = true)
 (a9 : nsIn K mainGlobals "above" = some (some (.ref f9)))
 (l9 : K.lookup f9 = some ⟨oc9, od9, .func (fnQ "above" "above" dI kV9 dc9 pm9 an9 cd9 ct9), sl9⟩) (c9 : codeIn K cd9 "above" = true) (k9 : keepIn K (.ref f9) = true)
 (a10 : nsIn K mainGlobals "rows_of" = some (some (.ref f10)))
 (l10 : K.lookup f10 = some ⟨oc10, od10, .func (fnQ "rows_of" "rows_of" cy kV10 dc10 pm10 an10 cd10 ct10), sl10⟩) (c10 : codeIn K cd10 "rows_of" = true) (k10 : keepIn K (.ref f10) = true)
 (a11 : nsIn K mainGlobals "bookings_up_to" = some (some (.ref f11)))
 (l11 : K.lookup f11 = some ⟨oc11, od11, .func (fnQ "bookings_up_to" "bookings_up_to" aT kV11 dc11 pm11 an11 cd11 ct11), sl11⟩) (c11 : codeIn K cd11 "bookings_up_to" = true) (k11 : keepIn K (.ref f11) = true)
 (a12 : nsIn K mainGlobals "balances" = some (some (.ref f12)))
 (l12 : K.lookup f12 = some ⟨oc12, od12, .func (fnQ "balances" "balances" b5 kV12 dc12 pm12 an12 cd12 ct12), sl12⟩) (c12 : codeIn K cd12 "balances" = true) (k12 : keepIn K (.ref f12) = true)
 (a13 : nsIn K mainGlobals "is_day" = some (some (.ref f13)))
 (l13 : K.lookup f13 = some ⟨oc13, od13, .func (fnQ "is_day" "is_day" cU kV13 dc13 pm13 an13 cd13 ct13), sl13⟩) (c13 : codeIn K cd13 "is_day" = true) (k13 : keepIn K (.ref f13) = true)
 (a14 : nsIn K mainGlobals "_law_cell_at" = some (some (.ref f14)))
 (l14 : K.lookup f14 = some ⟨oc14, od14, .func (fnQ "_law_cell_at" "_law_cell_at" bg kV14 dc14 pm14 an14 cd14 ct14), sl14⟩) (c14 : codeIn K cd14 "_law_cell_at" = true) (k14 : keepIn K (.ref f14) = true)
 (a15 : nsIn K mainGlobals "_law_mixed" = some (some (.ref f15)))
 (l15 : K.lookup f15 = some ⟨oc15, od15, .func (fnQ "_law_mixed" "_law_mixed" bB kV15 dc15 pm15 an15 cd15 ct15), sl15⟩) (c15 : codeIn K cd15 "_law_mixed" = true) (k15 : keepIn K (.ref f15) = true)
 (a16 : nsIn K mainGlobals "_law_whole" = some (some (.ref f16)))
 (l16 : K.lookup f16 = some ⟨oc16, od16, .func (fnQ "_law_whole" "_law_whole" bz kV16 dc16 pm16 an16 cd16 ct16), sl16⟩) (c16 : codeIn K cd16 "_law_whole" = true) (k16 : keepIn K (.ref f16) = true)
 (a17 : nsIn K mainGlobals "_law_names" = some (some (.ref f17)))
 (l17 : K.lookup f17 = some ⟨oc17, od17, .func (fnQ "_law_names" "_law_names" bD kV17 dc17 pm17 an17 cd17 ct17), sl17⟩) (c17 : codeIn K cd17 "_law_names" = true) (k17 : keepIn K (.ref f17) = true)
 (a18 : nsIn K mainGlobals "_law_paths" = some (some (.ref f18)))
 (l18 : K.lookup f18 = some ⟨oc18, od18, .func (fnQ "_law_paths" "_law_paths" bF kV18 dc18 pm18 an18 cd18 ct18), sl18⟩) (c18 : codeIn K cd18 "_law_paths" = true) (k18 : keepIn K (.ref f18) = true)
 (a19 : nsIn K mainGlobals "_law_chart" = some (some (.ref f19)))
 (l19 : K.lookup f19 = some ⟨oc19, od19, .func (fnQ "_law_chart" "_law_chart" bE kV19 dc19 pm19 an19 cd19 ct19), sl19⟩) (c19 : codeIn K cd19 "_law_chart" = true) (k19 : keepIn K (.ref f19) = true)
 (a20 : nsIn K mainGlobals "_law_currencies" = some (some (.ref f20)))
 (l20 : K.lookup f20 = some ⟨oc20, od20, .func (fnQ "_law_currencies" "_law_currencies" aM kV20 dc20 pm20 an20 cd20 ct20), sl20⟩) (c20 : codeIn K cd20 "_law_currencies" = true) (k20 : keepIn K (.ref f20) = true)
 (a21 : nsIn K mainGlobals "_law_first" = some (some (.ref f21)))
 (l21 : K.lookup f21 = some ⟨oc21, od21, .func (fnQ "_law_first" "_law_first" aZ kV21 dc21 pm21 an21 cd21 ct21), sl21⟩) (c21 : codeIn K cd21 "_law_first" = true) (k21 : keepIn K (.ref f21) = true)
 (a22 : nsIn K mainGlobals "_law_day" = some (some (.ref f22)))
 (l22 : K.lookup f22 = some ⟨oc22, od22, .func (fnQ "_law_day" "_law_day" bT kV22 dc22 pm22 an22 cd22 ct22), sl22⟩) (c22 : codeIn K cd22 "_law_day" = true) (k22 : keepIn K (.ref f22) = true)
 (a23 : nsIn K mainGlobals "_law_amount" = some (some (.ref f23)))
 (l23 : K.lookup f23 = some ⟨oc23, od23, .func (fnQ "_law_amount" "_law_amount" bc kV23 dc23 pm23 an23 cd23 ct23), sl23⟩) (c23 : codeIn K cd23 "_law_amount" = true) (k23 : keepIn K (.ref f23) = true)
 (a24 : nsIn K mainGlobals "_law_rows" = some (some (.ref f24)))
 (l24 : K.lookup f24 = some ⟨oc24, od24, .func (fnQ "_law_rows" "_law_rows" bG kV24 dc24 pm24 an24 cd24 ct24), sl24⟩) (c24 : codeIn K cd24 "_law_rows" = true) (k24 : keepIn K (.ref f24) = true)
 (a25 : nsIn K mainGlobals "_law_due" = some (some (.ref f25)))
 (l25 : K.lookup f25 = some ⟨oc25, od25, .func (fnQ "_law_due" "_law_due" bU kV25 dc25 pm25 an25 cd25 ct25), sl25⟩) (c25 : codeIn K cd25 "_law_due" = true) (k25 : keepIn K (.ref f25) = true)
 (a26 : nsIn K mainGlobals "_law_told" = some (some (.ref f26)))
 (l26 : K.lookup f26 = some ⟨oc26, od26, .func (fnQ "_law_told" "_law_told" bj kV26 dc26 pm26 an26 cd26 ct26), sl26⟩) (c26 : codeIn K cd26 "_law_told" = true) (k26 : keepIn K (.ref f26) = true)
 (a27 : nsIn K mainGlobals "law" = some (some (.ref f27)))
 (l27 : K.lookup f27 = some ⟨oc27, od27, .func (fnQ "law" "law" d_ kV27 dc27 pm27 an27 cd27 ct27), sl27⟩) (c27 : codeIn K cd27 "law" = true) (k27 : keepIn K (.ref f27) = true)
 (a28 : findIn K (.ref C10) "__init__" = some (some (.ref f28))) (i28 : isFn K (.ref f28) = true)
 (l28 : K.lookup f28 = some ⟨oc28, od28, .func (fnQ "__init__" "Account.__init__" aH kV28 dc28 pm28 an28 cd28 ct28), sl28⟩) (c28 : codeIn K cd28 "Account.__init__" = true) (k28 : keepIn K (.ref f28) = true)
 (a29 : findIn K (.ref C10) "stands_on" = some (some (.ref f29))) (i29 : isFn K (.ref f29) = true)
 (l29 : K.lookup f29 = some ⟨oc29, od29, .func (fnQ "stands_on" "Account.stands_on" aD kV29 dc29 pm29 an29 cd29 ct29), sl29⟩) (c29 : codeIn K cd29 "Account.stands_on" = true) (k29 : keepIn K (.ref f29) = true)
 (a30 : findIn K (.ref C11) "__init__" = some (some (.ref f30))) (i30 : isFn K (.ref f30) = true)
 (l30 : K.lookup f30 = some ⟨oc30, od30, .func (fnQ "__init__" "Chart.__init__" aS kV30 dc30 pm30 an30 cd30 ct30), sl30⟩) (c30 : codeIn K cd30 "Chart.__init__" = true) (k30 : keepIn K (.ref f30) = true)
 (a31 : findIn K (.ref C11) "add_top" = some (some (.ref f31))) (i31 : isFn K (.ref f31) = true)
 (l31 : K.lookup f31 = some ⟨oc31, od31, .func (fnQ "add_top" "Chart.add_top" aR kV31 dc31 pm31 an31 cd31 ct31), sl31⟩) (c31 : codeIn K cd31 "Chart.add_top" = true) (k31 : keepIn K (.ref f31) = true)
 (a32 : findIn K (.ref C11) "add" = some (some (.ref f32))) (i32 : isFn K (.ref f32) = true)
 (l32 : K.lookup f32 = some ⟨oc32, od32, .func (fnQ "add" "Chart.add" bH kV32 dc32 pm32 an32 cd32 ct32), sl32⟩) (c32 : codeIn K cd32 "Chart.add" = true) (k32 : keepIn K (.ref f32) = true)
 (a33 : findIn K (.ref C11) "has" = some (some (.ref f33))) (i33 : isFn K (.ref f33) = true)
 (l33 : K.lookup f33 = some ⟨oc33, od33, .func (fnQ "has" "Chart.has" bI kV33 dc33 pm33 an33 cd33 ct33), sl33⟩) (c33 : codeIn K cd33 "Chart.has" = true) (k33 : keepIn K (.ref f33) = true)
 (a34 : findIn K (.ref C11) "account" = some (some (.ref f34))) (i34 : isFn K (.ref f34) = true)
 (l34 : K.lookup f34 = some ⟨oc34, od34, .func (fnQ "account" "Chart.account" aQ kV34 dc34 pm34 an34 cd34 ct34), sl34⟩) (c34 : codeIn K cd34 "Chart.account" = true) (k34 : keepIn K (.ref f34) = true)
 (a35 : findIn K (.ref C12) "__init__" = some (some (.ref f35))) (i35 : isFn K (.ref f35) = true)
 (l35 : K.lookup f35 = some ⟨oc35, od35, .func (fnQ "__init__" "Journal.__init__" aF kV35 dc35 pm35 an35 cd35 ct35), sl35⟩) (c35 : codeIn K cd35 "Journal.__init__" = true) (k35 : keepIn K (.ref f35) = true)
 (a36 : findIn K (.ref C12) "put" = some (some (.ref f36))) (i36 : isFn K (.ref f36) = true)
 (l36 : K.lookup f36 = some ⟨oc36, od36, .func (fnQ "put" "Journal.put" a_ kV36 dc36 pm36 an36 cd36 ct36), sl36⟩) (c36 : codeIn K cd36 "Journal.put" = true) (k36 : keepIn K (.ref f36) = true)
 (a37 : findIn K (.ref C12) "many" = some (some (.ref f37))) (i37 : isFn K (.ref f37) = true)
 (l37 : K.lookup f37 = some ⟨oc37, od37, .func (fnQ "many" "Journal.many" bK kV37 dc37 pm37 an37 cd37 ct37), sl37⟩) (c37 : codeIn K cd37 "Journal.many" = true) (k37 : keepIn K (.ref f37) = true)
 (a38 : findIn K (.ref C12) "booking" = some (some (.ref f38))) (i38 : isFn K (.ref f38) = true)
 (l38 : K.lookup f38 = some ⟨oc38, od38, .func (fnQ "booking" "Journal.booking" bf kV38 dc38 pm38 an38 cd38 ct38), sl38⟩) (c38 : codeIn K cd38 "Journal.booking" = true) (k38 : keepIn K (.ref f38) = true)
 (a39 : findIn K (.ref C12) "every" = some (some (.ref f39))) (i39 : isFn K (.ref f39) = true)
 (l39 : K.lookup f39 = some ⟨oc39, od39, .func (fnQ "every" "Journal.every" aY kV39 dc39 pm39 an39 cd39 ct39), sl39⟩) (c39 : codeIn K cd39 "Journal.every" = true) (k39 : keepIn K (.ref f39) = true)
 (pg10 : plainGet K C10 Str.empty = true) (hd10 : hasDictIn K C10 = true) (po10 : plainOver K C10 = true) (sa10 : findIn K (.ref C10) "__setattr__" = some (some (.builtin "object.__setattr__"))) (mk10 : makesIn K C10 = true) (kc10 : keepIn K (.ref C10) = true)
 (na10_0 : findIn K (.ref C10) "kind" = some none)
 (na10_1 : findIn K (.ref C10) "currency" = some none)
 (na10_2 : findIn K (.ref C10) "first" = some none)
 (na10_3 : findIn K (.ref C10) "until" = some none)
 (na10_4 : findIn K (.ref C10) "below" = some none)
 (pg11 : plainGet K C11 Str.empty = true) (hd11 : hasDictIn K C11 = true) (po11 : plainOver K C11 = true) (sa11 : findIn K (.ref C11) "__setattr__" = some (some (.builtin "object.__setattr__"))) (mk11 : makesIn K C11 = true) (kc11 : keepIn K (.ref C11) = true)
 (na11_0 : findIn K (.ref C11) "by_path" = some none)
 (pg12 : plainGet K C12 Str.empty = true) (hd12 : hasDictIn K C12 = true) (po12 : plainOver K C12 = true) (sa12 : findIn K (.ref C12) "__setattr__" = some (some (.builtin "object.__setattr__"))) (mk12 : makesIn K C12 = true) (kc12 : keepIn K (.ref C12) = true)
 (na12_0 : findIn K (.ref C12) "bookings" = some none)
 (na12_1 : findIn K (.ref C12) "undoings" = some none)
 (d0 : nsIn K mainGlobals "KINDS" = some (some (.ref D0))) (e0 : K.lookup D0 = some ⟨.type "tuple", dd0, .seq #[.str ⟨#[104, 97, 118, 101]⟩ tk0, .str ⟨#[111, 119, 101]⟩ tk1, .str ⟨#[111, 119, 110]⟩ tk2, .str ⟨#[103, 97, 105, 110]⟩ tk3, .str ⟨#[99, 111, 115, 116]⟩ tk4] dn0, dsl0⟩)
 (z0 : nsIn K mainGlobals "all" = some none)
 (z1 : nsIn K mainGlobals "bool" = some none)
 (z2 : nsIn K mainGlobals "enumerate" = some none)
 (z3 : nsIn K mainGlobals "int" = some none)
 (z4 : nsIn K mainGlobals "isinstance" = some none)
 (z5 : nsIn K mainGlobals "len" = some none)
 (z6 : nsIn K mainGlobals "list" = some none)
 (z7 : nsIn K mainGlobals "max" = some none)
 (z8 : nsIn K mainGlobals "min" = some none)
 (z9 : nsIn K mainGlobals "range" = some none)
 (z10 : nsIn K mainGlobals "sorted" = some none)
 (z11 : nsIn K mainGlobals "str" = some none)
 (z12 : nsIn K mainGlobals "tuple" = some none)
 (q3 : excIn K C3 [.type "ValueError", .type "Exception", .type "BaseException", .type "object"] "ValueError.__new__" = true)
 (q2 : excIn K C2 [.type "ValueError", .type "Exception", .type "BaseException", .type "object"] "ValueError.__new__" = true)
 (q5 : excIn K C5 [.type "ValueError", .type "Exception", .type "BaseException", .type "object"] "ValueError.__new__" = true)
 (q1 : excIn K C1 [.type "ValueError", .type "Exception", .type "BaseException", .type "object"] "ValueError.__new__" = true)
 (q4 : excIn K C4 [.type "ValueError", .type "Exception", .type "BaseException", .type "object"] "ValueError.__new__" = true)
 (q6 : excIn K C6 [.type "ValueError", .type "Exception", .type "BaseException", .type "object"] "ValueError.__new__" = true)
 (q9 : excIn K C9 [.type "ValueError", .type "Exception", .type "BaseException", .type "object"] "ValueError.__new__" = true)
 (q8 : excIn K C8 [.type "ValueError", .type "Exception", .type "BaseException", .type "object"] "ValueError.__new__" = true)
 (q7 : excIn K C7 [.type "ValueError", .type "Exception", .type "BaseException", .type "object"] "ValueError.__new__" = true)
 : ∃ fd : FuncData, (∀ (s : Shared) (v : Value), BindsTo s fd ⟨[v], []⟩ [("_law_script", v)]) ∧ ∀ base : Heap, K.In base → base.Ns mainGlobals mg → bt l.prog w K mg base (XE l.prog w) 14 fa fd ["_law_script"] (sp_law K) := by
  have e := hfa.symm.trans (mg_of X G a27)
  cases e
  have T : Txt K mg ⟨f0, fnQ "is_whole" "is_whole" bY kV0 dc0 pm0 an0 cd0 ct0, f1, fnQ "is_among" "is_among" b4 kV1 dc1 pm1 an1 cd1 ct1, f2, fnQ "signs_lie" "signs_lie" bR kV2 dc2 pm2 an2 cd2 ct2, f3, fnQ "is_name" "is_name" cw kV3 dc3 pm3 an3 cd3 ct3, f4, fnQ "is_currency" "is_currency" ba kV4 dc4 pm4 an4 cd4 ct4, f5, fnQ "sums_of" "sums_of" ce kV5 dc5 pm5 an5 cd5 ct5, f6, fnQ "are_names" "are_names" bS kV6 dc6 pm6 an6 cd6 ct6, f7, fnQ "is_path" "is_path" cr kV7 dc7 pm7 an7 cd7 ct7, f8, fnQ "names_of" "names_of" bZ kV8 dc8 pm8 an8 cd8 ct8, f9, fnQ "above" "above" dI kV9 dc9 pm9 an9 cd9 ct9, f10, fnQ "rows_of" "rows_of" cy kV10 dc10 pm10 an10 cd10 ct10, f11, fnQ "bookings_up_to" "bookings_up_to" aT kV11 dc11 pm11 an11 cd11 ct11, f12, fnQ "balances" "balances" b5 kV12 dc12 pm12 an12 cd12 ct12, f13, fnQ "is_day" "is_day" cU kV13 dc13 pm13 an13 cd13 ct13, f14, fnQ "_law_cell_at" "_law_cell_at" bg kV14 dc14 pm14 an14 cd14 ct14, f15, fnQ "_law_mixed" "_law_mixed" bB kV15 dc15 pm15 an15 cd15 ct15, f16, fnQ "_law_whole" "_law_whole" bz kV16 dc16 pm16 an16 cd16 ct16, f17, fnQ "_law_names" "_law_names" bD kV17 dc17 pm17 an17 cd17 ct17, f18, fnQ "_law_paths" "_law_paths" bF kV18 dc18 pm18 an18 cd18 ct18, f19, fnQ "_law_chart" "_law_chart" bE kV19 dc19 pm19 an19 cd19 ct19, f20, fnQ "_law_currencies" "_law_currencies" aM kV20 dc20 pm20 an20 cd20 ct20, f21, fnQ "_law_first" "_law_first" aZ kV21 dc21 pm21 an21 cd21 ct21, f22, fnQ "_law_day" "_law_day" bT kV22 dc22 pm22 an22 cd22 ct22, f23, fnQ "_law_amount" "_law_amount" bc kV23 dc23 pm23 an23 cd23 ct23, f24, fnQ "_law_rows" "_law_rows" bG kV24 dc24 pm24 an24 cd24 ct24, f25, fnQ "_law_due" "_law_due" bU kV25 dc25 pm25 an25 cd25 ct25, f26, fnQ "_law_told" "_law_told" bj kV26 dc26 pm26 an26 cd26 ct26, fa, fnQ "law" "law" d_ kV27 dc27 pm27 an27 cd27 ct27, f28, fnQ "__init__" "Account.__init__" aH kV28 dc28 pm28 an28 cd28 ct28, f29, fnQ "stands_on" "Account.stands_on" aD kV29 dc29 pm29 an29 cd29 ct29, f30, fnQ "__init__" "Chart.__init__" aS kV30 dc30 pm30 an30 cd30 ct30, f31, fnQ "add_top" "Chart.add_top" aR kV31 dc31 pm31 an31 cd31 ct31, f32, fnQ "add" "Chart.add" bH kV32 dc32 pm32 an32 cd32 ct32, f33, fnQ "has" "Chart.has" bI kV33 dc33 pm33 an33 cd33 ct33, f34, fnQ "account" "Chart.account" aQ kV34 dc34 pm34 an34 cd34 ct34, f35, fnQ "__init__" "Journal.__init__" aF kV35 dc35 pm35 an35 cd35 ct35, f36, fnQ "put" "Journal.put" a_ kV36 dc36 pm36 an36 cd36 ct36, f37, fnQ "many" "Journal.many" bK kV37 dc37 pm37 an37 cd37 ct37, f38, fnQ "booking" "Journal.booking" bf kV38 dc38 pm38 an38 cd38 ct38, f39, fnQ "every" "Journal.every" aY kV39 dc39 pm39 an39 cd39 ct39, C0, C1, C2, C3, C4, C5, C6, C7, C8, C9, C10, C11, C12, D0⟩ := ⟨aE (st := bY) l0 c0 k0, mg_of X G a0, aE (st := b4) l1 c1 k1, mg_of X G a1, aE (st := bR) l2 c2 k2, mg_of X G a2, aE (st := cw) l3 c3 k3, mg_of X G a3, aE (st := ba) l4 c4 k4, mg_of X G a4, aE (st := ce) l5 c5 k5, mg_of X G a5, aE (st := bS) l6 c6 k6, mg_of X G a6, aE (st := cr) l7 c7 k7, mg_of X G a7, aE (st := bZ) l8 c8 k8, mg_of X G a8, aE (st := dI) l9 c9 k9, mg_of X G a9, aE (st := cy) l10 c10 k10, mg_of X G a10, aE (st := aT) l11 c11 k11, mg_of X G a11, aE (st := b5) l12 c12 k12, mg_of X G a12, aE (st := cU) l13 c13 k13, mg_of X G a13, aE (st := bg) l14 c14 k14, mg_of X G a14, aE (st := bB) l15 c15 k15, mg_of X G a15, aE (st := bz) l16 c16 k16, mg_of X G a16, aE (st := bD) l17 c17 k17, mg_of X G a17, aE (st := bF) l18 c18 k18, mg_of X G a18, aE (st := bE) l19 c19 k19, mg_of X G a19, aE (st := aM) l20 c20 k20, mg_of X G a20, aE (st := aZ) l21 c21 k21, mg_of X G a21, aE (st := bT) l22 c22 k22, mg_of X G a22, aE (st := bc) l23 c23 k23, mg_of X G a23, aE (st := bG) l24 c24 k24, mg_of X G a24, aE (st := bU) l25 c25 k25, mg_of X G a25, aE (st := bj) l26 c26 k26, mg_of X G a26, aE (st := d_) l27 c27 k27, mg_of X G a27, aE (st := aH) l28 c28 k28, ⟨a28, i28, k28⟩, aE (st := aD) l29 c29 k29, ⟨a29, i29, k29⟩, aE (st := aS) l30 c30 k30, ⟨a30, i30, k30⟩, aE (st := aR) l31 c31 k31, ⟨a31, i31, k31⟩, aE (st := bH) l32 c32 k32, ⟨a32, i32, k32⟩, aE (st := bI) l33 c33 k33, ⟨a33, i33, k33⟩, aE (st := aQ) l34 c34 k34, ⟨a34, i34, k34⟩, aE (st := aF) l35 c35 k35, ⟨a35, i35, k35⟩, aE (st := a_) l36 c36 k36, ⟨a36, i36, k36⟩, aE (st := bK) l37 c37 k37, ⟨a37, i37, k37⟩, aE (st := bf) l38 c38 k38, ⟨a38, i38, k38⟩, aE (st := aY) l39 c39 k39, ⟨a39, i39, k39⟩, mg_of X G p0, mg_of X G p1, mg_of X G p2, mg_of X G p3, mg_of X G p4, mg_of X G p5, mg_of X G p6, mg_of X G p7, mg_of X G p8, mg_of X G p9, mg_of X G p10, mg_of X G p11, mg_of X G p12, ⟨pg10, hd10, po10, sa10⟩, na10_0, na10_1, na10_2, na10_3, na10_4, ⟨mk10, a28, i28, kc10⟩, ⟨pg11, hd11, po11, sa11⟩, na11_0, ⟨mk11, a30, i30, kc11⟩, ⟨pg12, hd12, po12, sa12⟩, na12_0, na12_1, ⟨mk12, a35, i35, kc12⟩, q3, q2, q5, q1, q4, q6, q9, q8, q7, mg_of X G d0, ⟨_, _, _, e0, rfl, rfl, (by show 5 ≤ sizeLine; decide), (.cons ⟨_, rfl⟩ (.cons ⟨_, rfl⟩ (.cons ⟨_, rfl⟩ (.cons ⟨_, rfl⟩ (.cons ⟨_, rfl⟩ .nil)))))⟩, mg_none_of X G z0, mg_none_of X G z1, mg_none_of X G z2, mg_none_of X G z3, mg_none_of X G z4, mg_none_of X G z5, mg_none_of X G z6, mg_none_of X G z7, mg_none_of X G z8, mg_none_of X G z9, mg_none_of X G z10, mg_none_of X G z11, mg_none_of X G z12⟩
  exact ⟨fnQ "law" "law" d_ kV27 dc27 pm27 an27 cd27 ct27, fun s v => .of_eq rfl, fun base _ _ => zU T⟩
end K19
open PySem PySem.W PyProof.Rows
set_option maxRecDepth 100000 in
set_option maxHeartbeats 0 in
theorem PySem.Challenge.cw_evenhall_k19_balances_holds : PySem.Challenge.rw_evenhall_k19_balances.Holds := by
  w_on; o_law
  refine PySem.W.holds_open (q := K19.vw) (loose := []) (Xt := fun s => PySem.W.xlAt K19.vw [] s && PySem.W.recOk (PySem.W.RowW.records (PySem.W.OpenRow.toRowW (PySem.W.OpenLaw.row PySem.Challenge.rw_evenhall_k19_balances))) s) (XP := PySem.W.XL K19.vw []) (Yf := PySem.W.Hook.obs (PySem.W.kHook K19.frag K19.adrs K19.adrs_eq)) (Ya := PySem.W.Hook.val (PySem.W.kHook K19.frag K19.adrs K19.adrs_eq)) (YP := PySem.W.Hook.says (PySem.W.kHook K19.frag K19.adrs K19.adrs_eq)) (N := 9294) K19.left (PySem.W.Hook.of (PySem.W.kHook K19.frag K19.adrs K19.adrs_eq)) (PySem.W.Hook.keeps (PySem.W.kHook K19.frag K19.adrs K19.adrs_eq))
    (fun s e => PySem.W.xl_of s (Bool.and_eq_true_iff.mp e).1) PySem.W.XL.keeps (by rfl) (by rfl) (by rfl) (fun s e => PySem.W.recFacts_of (Bool.and_eq_true_iff.mp e).2) (by rfl) (by assumption) (by decide +kernel) ⟨rfl, rfl, rfl, rfl, rfl, by decide +kernel⟩ ?hw ?hc
  (case hw => w_witness2)
  k_fill
  refine L2.wL (l := PySem.Challenge.rw_evenhall_k19_balances) (n := 63) (k := 14) (x := "_law_script") (sp := K19.sp_law) rfl (by decide) rfl ⟨rfl, by decide, by decide⟩ (fun w h Y => PySem.W.kIn_of Y) ?F ?S
  case F =>
    intro w mg fa h KX G hmg
    refine' K19.all_mk KX G hmg ?_ ?_ ?_ ?_ ?_ ?_ ?_ ?_ ?_ ?_ ?_ ?_ ?_ ?_ ?_ ?_ ?_ ?_ ?_ ?_ ?_ ?_ ?_ ?_ ?_ ?_ ?_ ?_ ?_ ?_ ?_ ?_ ?_ ?_ ?_ ?_ ?_ ?_ ?_ ?_ ?_ ?_ ?_ ?_ ?_ ?_ ?_ ?_ ?_ ?_ ?_ ?_ ?_ ?_ ?_ ?_ ?_ ?_ ?_ ?_ ?_ ?_ ?_ ?_ ?_ ?_ ?_ ?_ ?_ ?_ ?_ ?_ ?_ ?_ ?_ ?_ ?_ ?_ ?_ ?_ ?_ ?_ ?_ ?_ ?_ ?_ ?_ ?_ ?_ ?_ ?_ ?_ ?_ ?_ ?_ ?_ ?_ ?_ ?_ ?_ ?_ ?_ ?_ ?_ ?_ ?_ ?_ ?_ ?_ ?_ ?_ ?_ ?_ ?_ ?_ ?_ ?_ ?_ ?_ ?_ ?_ ?_ ?_ ?_ ?_ ?_ ?_ ?_ ?_ ?_ ?_ ?_ ?_ ?_ ?_ ?_ ?_ ?_ ?_ ?_ ?_ ?_ ?_ ?_ ?_ ?_ ?_ ?_ ?_ ?_ ?_ ?_ ?_ ?_ ?_ ?_ ?_ ?_ ?_ ?_ ?_ ?_ ?_ ?_ ?_ ?_ ?_ ?_ ?_ ?_ ?_ ?_ ?_ ?_ ?_ ?_ ?_ ?_ ?_ ?_ ?_ ?_ ?_ ?_ ?_ ?_ ?_ ?_ ?_ ?_ ?_ ?_ ?_ ?_ ?_ ?_ ?_ ?_ ?_ ?_ ?_ ?_ ?_ ?_ ?_ ?_ ?_ ?_ ?_ ?_ ?_ ?_ ?_ ?_ ?_ ?_ ?_ ?_ ?_ ?_ ?_ ?_ ?_ ?_ ?_ ?_ ?_ ?_ ?_ ?_ ?_ ?_ ?_ ?_ ?_
    all_goals try first | k_is | k_exc
    all_goals try first | k_is | k_exc
  case S => exact fun K H a ns hl hO hS => K19.law_starts hO hS hl