import PyProof.Rows.All
import KE.KUnpack
import PyProof.DictTruth
import PyProof.DictWalks
import PyProof.Rows.SortKeyStr
import KE.KItem
import KE.KTupSum
import KE.KEqDict
import KE.KFromBytes
import KE.KIntText
import KE.KRevIter
import KE.KDictOf
import KE.LcSums
import KE.KDictSum
import KE.KTryMore
import OpenK.KLine
import OpenK.KOwn
import Wide.Line
import Wide.FinOn
import Lean
import PySem.Challenge.RW_evenhall_k22_carry_rows
set_option Elab.async false
set_option linter.all false
set_option maxRecDepth 100000
namespace L2
open PySem
noncomputable def cH (s : Stmt) (j : Nat) : Stmt := match s with
  | .ClassDef _ _ _ body _ _ _ _ _ _ _ => body.getD j (.Pass ⟨0, 0, 0, 0⟩)
  | _ => .Pass ⟨0, 0, 0, 0⟩
noncomputable def aB (s : Stmt) : Arguments := match s with
  | .FunctionDef _ a _ _ _ _ _ _ _ _ => a
  | _ => { posonlyargs := [], args := [], vararg := none, kwonlyargs := [], kw_defaults := [], kwarg := none, defaults := [] }
noncomputable def aA (s : Stmt) : List Stmt := match s with
  | .FunctionDef _ _ b _ _ _ _ _ _ _ => b
  | _ => []
noncomputable def ag (s : Stmt) : Scope := match s with
  | .FunctionDef _ _ _ _ _ _ sc _ _ _ => sc
  | _ => { kind := .function, names := [], isGenerator := false, isCoroutine := false }
end L2
namespace K22
open PySem L2
noncomputable def top (i : Nat) : Stmt := PySem.Challenge.pw_evenhall_k22_carry_rows.main.body.getD i (.Pass ⟨0, 0, 0, 0⟩)
noncomputable abbrev cS : Stmt := top 14
noncomputable abbrev cK : Stmt := top 15
noncomputable abbrev cq : Stmt := top 16
noncomputable abbrev dA : Stmt := top 17
noncomputable abbrev bN : Stmt := top 19
noncomputable abbrev dW : Stmt := top 21
noncomputable abbrev dB : Stmt := top 22
noncomputable abbrev dO : Stmt := top 25
noncomputable abbrev cp : Stmt := top 26
noncomputable abbrev cA : Stmt := top 27
noncomputable abbrev cM : Stmt := top 28
noncomputable abbrev cw : Stmt := top 30
noncomputable abbrev dh : Stmt := top 31
noncomputable abbrev cP : Stmt := top 32
noncomputable abbrev fm : Stmt := top 33
noncomputable abbrev dw : Stmt := top 35
noncomputable abbrev bi : Stmt := top 36
noncomputable abbrev cN : Stmt := top 37
noncomputable abbrev b6 : Stmt := top 39
noncomputable abbrev bD : Stmt := top 47
noncomputable abbrev b8 : Stmt := top 48
noncomputable abbrev b5 : Stmt := top 49
noncomputable abbrev bd : Stmt := top 50
noncomputable abbrev b7 : Stmt := top 51
noncomputable abbrev bH : Stmt := top 52
noncomputable abbrev bc : Stmt := top 53
noncomputable abbrev bZ : Stmt := top 54
noncomputable abbrev cB : Stmt := top 55
noncomputable abbrev cT : Stmt := top 56
noncomputable abbrev aO : Stmt := top 57
noncomputable abbrev bI : Stmt := top 58
noncomputable abbrev bE : Stmt := top 59
noncomputable abbrev bJ : Stmt := top 60
noncomputable abbrev bq : Stmt := top 61
noncomputable abbrev cO : Stmt := top 62
noncomputable abbrev cI : Stmt := top 63
noncomputable abbrev aZ : Stmt := cH (top 42) 0
noncomputable abbrev aV : Stmt := cH (top 42) 1
noncomputable abbrev aS : Stmt := cH (top 42) 2
noncomputable abbrev bh : Stmt := cH (top 43) 0
noncomputable abbrev br : Stmt := cH (top 43) 1
noncomputable abbrev bS : Stmt := cH (top 43) 2
noncomputable abbrev b4 : Stmt := cH (top 43) 3
noncomputable abbrev cC : Stmt := cH (top 43) 4
noncomputable abbrev bp : Stmt := cH (top 43) 5
noncomputable abbrev bv : Stmt := cH (top 43) 6
noncomputable abbrev bX : Stmt := cH (top 43) 10
noncomputable abbrev a_ : Stmt := cH (top 45) 0
noncomputable abbrev bO : Stmt := cH (top 45) 1
noncomputable abbrev cf : Stmt := cH (top 45) 2
noncomputable abbrev bG : Stmt := cH (top 45) 3
noncomputable abbrev bt : Stmt := cH (top 45) 4
end K22
set_option Elab.async false
set_option linter.all false
namespace TR
open PySem PySem.W
def go (p : Program) (w : World) (lo : Nat) (an : Option Value) : Nat -> SharedT -> Thread -> Option SharedT
  | 0, _, _ => none
  | k + 1, x, th => match through th with
    | true => some x
    | false => match stepOk lo an th with
      | false => none
      | true => match stepT (denote treeTable) p w x th with
        | none => none
        | some y => go p w lo an k y.1 y.2
theorem nY {p : Program} {w : World} {lo : Nat} {an : Option Value} (k : Nat) : ∀ {x y : SharedT} {th : Thread}, go p w lo an k x th = some y -> topRun treeTable p w lo an k x.abs th = some y.abs := by
  induction k with
  | zero => intro x y th e; cases e
  | succ k ih =>
    intro x y th e
    unfold go at e
    unfold topRun
    revert e
    cases through th with
    | true => intro e; cases e; rfl
    | false =>
      cases stepOk lo an th with
      | false => intro e; cases e
      | true =>
        dsimp only
        cases z : stepT (denote treeTable) p w x th with
        | none => intro e; cases e
        | some v =>
          intro e
          obtain ⟨v1, v2⟩ := v
          rw [stepT_spec z]
          exact ih e
noncomputable def look (p : Program) (P : Params) (s : Shared) : Bool := staticsOk (importedModules p.main.body) (boot_heap P) s.heap && namesBound p s.heap && gensDone s && laidKept (boot_heap P) s.heap
theorem left {p q : Program} {ls : List Str} {Xt : Shared -> Bool} {β : Type} {Yf : Shared -> β} {Ya : World -> β} {N lo : Nat} {an : Option Value} {tr : Params -> BT}
    (ho : ∀ w : World, (fencedOpening treeTable p w N).map (fun s => (s.heap, s.gens, s.drawn, s.toks)) = some (boot_heap w.params, Array.mk [], boot_drawn, boot_toks))
    (hz : ∀ P : Params, ((boot_heap P).isNs mainGlobals, (boot_heap P).objs.size, (boot_heap P).nsMap mainGlobals "__annotations__") = (true, lo, an))
    (ht : ∀ P : Params, absHeap (tr P) lo (boot_heap P).life = boot_heap P)
    (hr : ∀ w : World, (fun os => (go p w lo an N ⟨tr w.params, lo, (boot_heap w.params).life, Array.mk [], boot_drawn, boot_toks, os⟩ (topStub p)).map fun x => (look p w.params x.abs, openSeen q ls (importedModules p.main.body) Xt true x.abs, Yf x.abs)) = fun _ => some (true, openGood q ls, Ya w)) :
    LeftO p q ls Xt Yf Ya N := by
  intro w
  obtain ⟨⟨h, g, d, k, os⟩, e1, e2⟩ := Option.map_eq_some_iff.mp (ho w)
  simp only [Prod.mk.injEq] at e2
  obtain ⟨rfl, rfl, rfl, rfl⟩ := e2
  have z := hz w.params
  simp only [Prod.mk.injEq] at z
  obtain ⟨z1, z2, z3⟩ := z
  obtain ⟨x, r1, r2⟩ := Option.map_eq_some_iff.mp (congrFun (hr w) os)
  simp only [Prod.mk.injEq] at r2
  obtain ⟨l1, l2, l3⟩ := r2
  have t := nY _ r1
  have ab : SharedT.abs ⟨tr w.params, lo, (boot_heap w.params).life, Array.mk [], boot_drawn, boot_toks, os⟩ = ⟨boot_heap w.params, Array.mk [], boot_drawn, boot_toks, os⟩ := by
    show Shared.mk (absHeap (tr w.params) lo (boot_heap w.params).life) _ _ _ _ = _
    rw [ht]
  rw [ab] at t
  have f : topFrom treeTable p w N ⟨boot_heap w.params, Array.mk [], boot_drawn, boot_toks, os⟩ = some x.abs := by
    unfold topFrom
    dsimp only
    rw [z1, z2, z3, t]
    show (match look p w.params x.abs with | true => some x.abs | false => none) = _
    rw [l1]
  unfold openEnds
  rw [e1]
  show (topFrom treeTable p w N _).map _ = _
  rw [f]
  show some (_, _) = _
  rw [l2, l3]
end TR
namespace K22
open PySem L2
abbrev kS (s : String) : Str := Str.ofString s
abbrev kR (a : Addr) : Value := .ref a
abbrev kY (s : String) : Value := .type s
abbrev kB (s : String) : Value := .builtin s
abbrev kZ (s : Str) (t : Tok) : Value := .str s t
abbrev kN : Value := .none
abbrev kD (h : Int) (k v : Value) : DictEntry := ⟨h, k, v⟩
abbrev kO (c : Value) (d : Option Addr) (t : Data) (s : Array (Option Value)) : Obj := ⟨c, d, t, s⟩
abbrev keyHash := PyData.keyHash
abbrev kE (P : Params) (s : String) (t : Tok) (v : Value) : DictEntry := ⟨keyHash P (kS s), kZ (kS s) t, v⟩
abbrev kI (i : Int) (t : Tok) : Value := .int i t
abbrev kz (s : String) (t : Tok) : Value := kZ (kS s) t
abbrev kC (t : Tok) : Value := kz "/claim/cut.py" t
abbrev kT (x : Array Value) : Obj := kO (kY "tuple") none (.seq x 0) #[]
abbrev kU : Value := .bool true
set_option maxRecDepth 100000 in
noncomputable def frag (P : Params) : PySem.W.Frag :=
  (nat_lit 2, (kO kN none (Data.dict #[] 0) #[]))::
  (nat_lit 3, (kO (kY "dict") none (Data.dict #[(kE P "__name__" 165 (kz "law_evenhall_k22_carry_rows" 856)), (kE P "__doc__" 166 kN), (kE P "__package__" 167 kN), (kE P "__loader__" 168 (kB "__main__.__loader__#opaque")), (kE P "__spec__" 169 kN), (kE P "__annotations__" 170 (kR 6)), (kE P "__builtins__" 171 (kR 4)), (kE P "__file__" 173 (kC 172)), (kE P "__cached__" 174 kN), (kE P "_wall" 193 (kR 21)), (kE P "HouseError" 213 (kR 31)), (kE P "BadName" 236 (kR 51)), (kE P "BadDay" 259 (kR 70)), (kE P "BadCurrency" 282 (kR 89)), (kE P "BadPath" 305 (kR 108)), (kE P "BadKind" 328 (kR 127)), (kE P "NoAccount" 351 (kR 146)), (kE P "Twice" 374 (kR 165)), (kE P "NotOpen" 397 (kR 184)), (kE P "HasBelow" 420 (kR 203)), (kE P "NoBooking" 443 (kR 222)), (kE P "is_whole" 452 (kR 231)), (kE P "is_among" 461 (kR 238)), (kE P "signs_lie" 467 (kR 243)), (kE P "is_name" 474 (kR 250)), (kE P "is_currency" 483 (kR 257)), (kE P "turned" 491 (kR 262)), (kE P "sums_of" 497 (kR 267)), (kE P "LENGTHS" 512 (kR 268)), (kE P "is_day" 519 (kR 275)), (kE P "leap_days" 526 (kR 282)), (kE P "first_day" 536 (kR 289)), (kE P "last_day" 543 (kR 296)), (kE P "are_names" 551 (kR 301)), (kE P "is_path" 558 (kR 308)), (kE P "names_of" 565 (kR 315)), (kE P "above" 571 (kR 320)), (kE P "rows_of" 582 (kR 327)), (kE P "bookings_up_to" 588 (kR 332)), (kE P "balances" 597 (kR 339)), (kE P "carry_rows" 605 (kR 344)), (kE P "KINDS" 613 (kR 345)), (kE P "Account" 664 (kR 376)), (kE P "Chart" 782 (kR 472)), (kE P "Journal" 855 (kR 528)), (kE P "_law_cell_at" 865 (kR 539)), (kE P "_law_whole" 872 (kR 546)), (kE P "_law_names" 878 (kR 551)), (kE P "_law_currencies" 884 (kR 556)), (kE P "_law_start" 891 (kR 563)), (kE P "_law_lengths" 899 (kR 570)), (kE P "_law_month_ends" 908 (kR 577)), (kE P "_law_month" 917 (kR 584)), (kE P "_law_base" 925 (kR 591)), (kE P "_law_day" 933 (kR 598)), (kE P "_law_accounts" 952 (kR 605)), (kE P "_law_chart" 965 (kR 612)), (kE P "_law_is_open" 976 (kR 619)), (kE P "_law_rows_by" 982 (kR 624)), (kE P "_law_balances" 988 (kR 629)), (kE P "_law_due" 994 (kR 634)), (kE P "law" 1000 (kR 639))] 62) #[]))::
  (nat_lit 15, (kT #[]))::
  (nat_lit 17, (kT #[(kz "k" 190)]))::
  (nat_lit 18, (kT #[]))::
  (nat_lit 20, (kO (kY "code") none (Data.fields #[(kz "_wall" 187), (kz "_wall" 188), (kC 189), (kI 1 0), (kI 1 0), (kI 0 0), (kI 0 0), (kI 3 0), (kR 15), kU, (kI 181 0), (kR 16), kN, (kR 17), (kR 18), (kR 19), (kI 191 0), (kI 1 0), (kC 192)]) #[]))::
  (nat_lit 21, (kO (kY "function") none (Data.func (FuncData.mk (kS "_wall") (kS "_wall") (Arguments.mk [] [(Arg.mk (kS "k") none (Pos.mk 1 10 1 11))] none [] [] none []) (FuncBody.stmts [(Stmt.While (Expr.Constant (Const.bool true) 0 (Pos.mk 2 10 2 14)) [(Stmt.Pass (Pos.mk 3 8 3 12))] [] (Pos.mk 2 4 3 12))]) (Scope.mk ScopeKind.function [((kS "k"), NameKind.local)] false false []) 3 [] kN kN kN (kz "__main__" 164) none (kR 20) kN 0)) #[]))::
  (nat_lit 22, (kT #[(kY "ValueError")]))::
  (nat_lit 29, (kT #[]))::
  (nat_lit 30, (kO (kY "dict") none (Data.dict #[(kE P "__module__" 203 (kz "evenhall.errors" 194)), (kE P "__firstlineno__" 207 (kI 5 206)), (kE P "__static_attributes__" 208 (kR 29)), (kE P "__weakref__" 210 (kR 32)), (kE P "__doc__" 211 kN)] 3) #[]))::
  (nat_lit 31, (kO (kY "type") none (Data.cls (ClassData.mk (kS "HouseError") [(kY "ValueError")] [(kR 31), (kY "ValueError"), (kY "Exception"), (kY "BaseException"), (kY "object")] 30 (kS "HouseError") true [] [(kR 51), (kR 70), (kR 89), (kR 108), (kR 127), (kR 146), (kR 165), (kR 184), (kR 203), (kR 222)] false none false)) #[(some (kR 22)), none, (some (kz "HouseError" 196)), (some (kz "HouseError" 204)), (some (kB "ValueError.__new__")), (some kU)]))::
  (nat_lit 32, (kO (kY "getset_descriptor") none (Data.fields #[(kz "__weakref__" 209), (kR 31), (kB "ExceptionGroup.__weakref__"), kN]) #[]))::
  (nat_lit 35, (kT #[(kR 31)]))::
  (nat_lit 42, (kT #[]))::
  (nat_lit 44, (kT #[(kz "self" 229)]))::
  (nat_lit 45, (kT #[]))::
  (nat_lit 47, (kO (kY "code") none (Data.fields #[(kz "small_words" 226), (kz "BadName.small_words" 227), (kC 228), (kI 9 0), (kI 1 0), (kI 0 0), (kI 0 0), (kI 3 0), (kR 42), kU, (kI 181 0), (kR 43), kN, (kR 44), (kR 45), (kR 46), (kI 230 0), (kI 9 0), (kC 231)]) #[]))::
  (nat_lit 48, (kO (kY "function") none (Data.func (FuncData.mk (kS "small_words") (kS "BadName.small_words") (Arguments.mk [] [(Arg.mk (kS "self") none (Pos.mk 9 20 9 24))] none [] [] none []) (FuncBody.stmts [(Stmt.Expr (Expr.Call (Expr.Name (kS "_wall") (Pos.mk 10 8 10 13)) [(Expr.Constant (Const.int 0) 0 (Pos.mk 10 14 10 15))] [] (Pos.mk 10 8 10 16)) (Pos.mk 10 8 10 16))]) (Scope.mk ScopeKind.function [((kS "self"), NameKind.local), ((kS "_wall"), NameKind.globalImplicit)] false false []) 3 [] kN kN kN (kz "evenhall.errors" 194) none (kR 47) kN 0)) #[]))::
  (nat_lit 49, (kT #[]))::
  (nat_lit 50, (kO (kY "dict") none (Data.dict #[(kE P "__module__" 221 (kz "evenhall.errors" 194)), (kE P "__firstlineno__" 225 (kI 7 224)), (kE P "small_words" 232 (kR 48)), (kE P "__static_attributes__" 233 (kR 49)), (kE P "__doc__" 234 kN)] 2) #[]))::
  (nat_lit 51, (kO (kY "type") none (Data.cls (ClassData.mk (kS "BadName") [(kR 31)] [(kR 51), (kR 31), (kY "ValueError"), (kY "Exception"), (kY "BaseException"), (kY "object")] 50 (kS "BadName") true [] [] false none false)) #[(some (kR 35)), none, (some (kz "BadName" 214)), (some (kz "BadName" 222)), (some (kB "ValueError.__new__")), (some kU)]))::
  (nat_lit 54, (kT #[(kR 31)]))::
  (nat_lit 61, (kT #[]))::
  (nat_lit 63, (kT #[(kz "self" 252)]))::
  (nat_lit 64, (kT #[]))::
  (nat_lit 66, (kO (kY "code") none (Data.fields #[(kz "small_words" 249), (kz "BadDay.small_words" 250), (kC 251), (kI 13 0), (kI 1 0), (kI 0 0), (kI 0 0), (kI 3 0), (kR 61), kU, (kI 181 0), (kR 62), kN, (kR 63), (kR 64), (kR 65), (kI 253 0), (kI 13 0), (kC 254)]) #[]))::
  (nat_lit 67, (kO (kY "function") none (Data.func (FuncData.mk (kS "small_words") (kS "BadDay.small_words") (Arguments.mk [] [(Arg.mk (kS "self") none (Pos.mk 13 20 13 24))] none [] [] none []) (FuncBody.stmts [(Stmt.Expr (Expr.Call (Expr.Name (kS "_wall") (Pos.mk 14 8 14 13)) [(Expr.Constant (Const.int 1) 0 (Pos.mk 14 14 14 15))] [] (Pos.mk 14 8 14 16)) (Pos.mk 14 8 14 16))]) (Scope.mk ScopeKind.function [((kS "self"), NameKind.local), ((kS "_wall"), NameKind.globalImplicit)] false false []) 3 [] kN kN kN (kz "evenhall.errors" 194) none (kR 66) kN 0)) #[]))::
  (nat_lit 68, (kT #[]))::
  (nat_lit 69, (kO (kY "dict") none (Data.dict #[(kE P "__module__" 244 (kz "evenhall.errors" 194)), (kE P "__firstlineno__" 248 (kI 11 247)), (kE P "small_words" 255 (kR 67)), (kE P "__static_attributes__" 256 (kR 68)), (kE P "__doc__" 257 kN)] 2) #[]))::
  (nat_lit 70, (kO (kY "type") none (Data.cls (ClassData.mk (kS "BadDay") [(kR 31)] [(kR 70), (kR 31), (kY "ValueError"), (kY "Exception"), (kY "BaseException"), (kY "object")] 69 (kS "BadDay") true [] [] false none false)) #[(some (kR 54)), none, (some (kz "BadDay" 237)), (some (kz "BadDay" 245)), (some (kB "ValueError.__new__")), (some kU)]))::
  (nat_lit 73, (kT #[(kR 31)]))::
  (nat_lit 80, (kT #[]))::
  (nat_lit 82, (kT #[(kz "self" 275)]))::
  (nat_lit 83, (kT #[]))::
  (nat_lit 85, (kO (kY "code") none (Data.fields #[(kz "small_words" 272), (kz "BadCurrency.small_words" 273), (kC 274), (kI 17 0), (kI 1 0), (kI 0 0), (kI 0 0), (kI 3 0), (kR 80), kU, (kI 181 0), (kR 81), kN, (kR 82), (kR 83), (kR 84), (kI 276 0), (kI 17 0), (kC 277)]) #[]))::
  (nat_lit 86, (kO (kY "function") none (Data.func (FuncData.mk (kS "small_words") (kS "BadCurrency.small_words") (Arguments.mk [] [(Arg.mk (kS "self") none (Pos.mk 17 20 17 24))] none [] [] none []) (FuncBody.stmts [(Stmt.Expr (Expr.Call (Expr.Name (kS "_wall") (Pos.mk 18 8 18 13)) [(Expr.Constant (Const.int 2) 0 (Pos.mk 18 14 18 15))] [] (Pos.mk 18 8 18 16)) (Pos.mk 18 8 18 16))]) (Scope.mk ScopeKind.function [((kS "self"), NameKind.local), ((kS "_wall"), NameKind.globalImplicit)] false false []) 3 [] kN kN kN (kz "evenhall.errors" 194) none (kR 85) kN 0)) #[]))::
  (nat_lit 87, (kT #[]))::
  (nat_lit 88, (kO (kY "dict") none (Data.dict #[(kE P "__module__" 267 (kz "evenhall.errors" 194)), (kE P "__firstlineno__" 271 (kI 15 270)), (kE P "small_words" 278 (kR 86)), (kE P "__static_attributes__" 279 (kR 87)), (kE P "__doc__" 280 kN)] 2) #[]))::
  (nat_lit 89, (kO (kY "type") none (Data.cls (ClassData.mk (kS "BadCurrency") [(kR 31)] [(kR 89), (kR 31), (kY "ValueError"), (kY "Exception"), (kY "BaseException"), (kY "object")] 88 (kS "BadCurrency") true [] [] false none false)) #[(some (kR 73)), none, (some (kz "BadCurrency" 260)), (some (kz "BadCurrency" 268)), (some (kB "ValueError.__new__")), (some kU)]))::
  (nat_lit 92, (kT #[(kR 31)]))::
  (nat_lit 99, (kT #[]))::
  (nat_lit 101, (kT #[(kz "self" 298)]))::
  (nat_lit 102, (kT #[]))::
  (nat_lit 104, (kO (kY "code") none (Data.fields #[(kz "small_words" 295), (kz "BadPath.small_words" 296), (kC 297), (kI 21 0), (kI 1 0), (kI 0 0), (kI 0 0), (kI 3 0), (kR 99), kU, (kI 181 0), (kR 100), kN, (kR 101), (kR 102), (kR 103), (kI 299 0), (kI 21 0), (kC 300)]) #[]))::
  (nat_lit 105, (kO (kY "function") none (Data.func (FuncData.mk (kS "small_words") (kS "BadPath.small_words") (Arguments.mk [] [(Arg.mk (kS "self") none (Pos.mk 21 20 21 24))] none [] [] none []) (FuncBody.stmts [(Stmt.Expr (Expr.Call (Expr.Name (kS "_wall") (Pos.mk 22 8 22 13)) [(Expr.Constant (Const.int 3) 0 (Pos.mk 22 14 22 15))] [] (Pos.mk 22 8 22 16)) (Pos.mk 22 8 22 16))]) (Scope.mk ScopeKind.function [((kS "self"), NameKind.local), ((kS "_wall"), NameKind.globalImplicit)] false false []) 3 [] kN kN kN (kz "evenhall.errors" 194) none (kR 104) kN 0)) #[]))::
  (nat_lit 106, (kT #[]))::
  (nat_lit 107, (kO (kY "dict") none (Data.dict #[(kE P "__module__" 290 (kz "evenhall.errors" 194)), (kE P "__firstlineno__" 294 (kI 19 293)), (kE P "small_words" 301 (kR 105)), (kE P "__static_attributes__" 302 (kR 106)), (kE P "__doc__" 303 kN)] 2) #[]))::
  (nat_lit 108, (kO (kY "type") none (Data.cls (ClassData.mk (kS "BadPath") [(kR 31)] [(kR 108), (kR 31), (kY "ValueError"), (kY "Exception"), (kY "BaseException"), (kY "object")] 107 (kS "BadPath") true [] [] false none false)) #[(some (kR 92)), none, (some (kz "BadPath" 283)), (some (kz "BadPath" 291)), (some (kB "ValueError.__new__")), (some kU)]))::
  (nat_lit 111, (kT #[(kR 31)]))::
  (nat_lit 118, (kT #[]))::
  (nat_lit 120, (kT #[(kz "self" 321)]))::
  (nat_lit 121, (kT #[]))::
  (nat_lit 123, (kO (kY "code") none (Data.fields #[(kz "small_words" 318), (kz "BadKind.small_words" 319), (kC 320), (kI 25 0), (kI 1 0), (kI 0 0), (kI 0 0), (kI 3 0), (kR 118), kU, (kI 181 0), (kR 119), kN, (kR 120), (kR 121), (kR 122), (kI 322 0), (kI 25 0), (kC 323)]) #[]))::
  (nat_lit 124, (kO (kY "function") none (Data.func (FuncData.mk (kS "small_words") (kS "BadKind.small_words") (Arguments.mk [] [(Arg.mk (kS "self") none (Pos.mk 25 20 25 24))] none [] [] none []) (FuncBody.stmts [(Stmt.Expr (Expr.Call (Expr.Name (kS "_wall") (Pos.mk 26 8 26 13)) [(Expr.Constant (Const.int 4) 0 (Pos.mk 26 14 26 15))] [] (Pos.mk 26 8 26 16)) (Pos.mk 26 8 26 16))]) (Scope.mk ScopeKind.function [((kS "self"), NameKind.local), ((kS "_wall"), NameKind.globalImplicit)] false false []) 3 [] kN kN kN (kz "evenhall.errors" 194) none (kR 123) kN 0)) #[]))::
  (nat_lit 125, (kT #[]))::
  (nat_lit 126, (kO (kY "dict") none (Data.dict #[(kE P "__module__" 313 (kz "evenhall.errors" 194)), (kE P "__firstlineno__" 317 (kI 23 316)), (kE P "small_words" 324 (kR 124)), (kE P "__static_attributes__" 325 (kR 125)), (kE P "__doc__" 326 kN)] 2) #[]))::
  (nat_lit 127, (kO (kY "type") none (Data.cls (ClassData.mk (kS "BadKind") [(kR 31)] [(kR 127), (kR 31), (kY "ValueError"), (kY "Exception"), (kY "BaseException"), (kY "object")] 126 (kS "BadKind") true [] [] false none false)) #[(some (kR 111)), none, (some (kz "BadKind" 306)), (some (kz "BadKind" 314)), (some (kB "ValueError.__new__")), (some kU)]))::
  (nat_lit 130, (kT #[(kR 31)]))::
  (nat_lit 137, (kT #[]))::
  (nat_lit 139, (kT #[(kz "self" 344)]))::
  (nat_lit 140, (kT #[]))::
  (nat_lit 142, (kO (kY "code") none (Data.fields #[(kz "small_words" 341), (kz "NoAccount.small_words" 342), (kC 343), (kI 29 0), (kI 1 0), (kI 0 0), (kI 0 0), (kI 3 0), (kR 137), kU, (kI 181 0), (kR 138), kN, (kR 139), (kR 140), (kR 141), (kI 345 0), (kI 29 0), (kC 346)]) #[]))::
  (nat_lit 143, (kO (kY "function") none (Data.func (FuncData.mk (kS "small_words") (kS "NoAccount.small_words") (Arguments.mk [] [(Arg.mk (kS "self") none (Pos.mk 29 20 29 24))] none [] [] none []) (FuncBody.stmts [(Stmt.Expr (Expr.Call (Expr.Name (kS "_wall") (Pos.mk 30 8 30 13)) [(Expr.Constant (Const.int 5) 0 (Pos.mk 30 14 30 15))] [] (Pos.mk 30 8 30 16)) (Pos.mk 30 8 30 16))]) (Scope.mk ScopeKind.function [((kS "self"), NameKind.local), ((kS "_wall"), NameKind.globalImplicit)] false false []) 3 [] kN kN kN (kz "evenhall.errors" 194) none (kR 142) kN 0)) #[]))::
  (nat_lit 144, (kT #[]))::
  (nat_lit 145, (kO (kY "dict") none (Data.dict #[(kE P "__module__" 336 (kz "evenhall.errors" 194)), (kE P "__firstlineno__" 340 (kI 27 339)), (kE P "small_words" 347 (kR 143)), (kE P "__static_attributes__" 348 (kR 144)), (kE P "__doc__" 349 kN)] 2) #[]))::
  (nat_lit 146, (kO (kY "type") none (Data.cls (ClassData.mk (kS "NoAccount") [(kR 31)] [(kR 146), (kR 31), (kY "ValueError"), (kY "Exception"), (kY "BaseException"), (kY "object")] 145 (kS "NoAccount") true [] [] false none false)) #[(some (kR 130)), none, (some (kz "NoAccount" 329)), (some (kz "NoAccount" 337)), (some (kB "ValueError.__new__")), (some kU)]))::
  (nat_lit 149, (kT #[(kR 31)]))::
  (nat_lit 156, (kT #[]))::
  (nat_lit 158, (kT #[(kz "self" 367)]))::
  (nat_lit 159, (kT #[]))::
  (nat_lit 161, (kO (kY "code") none (Data.fields #[(kz "small_words" 364), (kz "Twice.small_words" 365), (kC 366), (kI 33 0), (kI 1 0), (kI 0 0), (kI 0 0), (kI 3 0), (kR 156), kU, (kI 181 0), (kR 157), kN, (kR 158), (kR 159), (kR 160), (kI 368 0), (kI 33 0), (kC 369)]) #[]))::
  (nat_lit 162, (kO (kY "function") none (Data.func (FuncData.mk (kS "small_words") (kS "Twice.small_words") (Arguments.mk [] [(Arg.mk (kS "self") none (Pos.mk 33 20 33 24))] none [] [] none []) (FuncBody.stmts [(Stmt.Expr (Expr.Call (Expr.Name (kS "_wall") (Pos.mk 34 8 34 13)) [(Expr.Constant (Const.int 6) 0 (Pos.mk 34 14 34 15))] [] (Pos.mk 34 8 34 16)) (Pos.mk 34 8 34 16))]) (Scope.mk ScopeKind.function [((kS "self"), NameKind.local), ((kS "_wall"), NameKind.globalImplicit)] false false []) 3 [] kN kN kN (kz "evenhall.errors" 194) none (kR 161) kN 0)) #[]))::
  (nat_lit 163, (kT #[]))::
  (nat_lit 164, (kO (kY "dict") none (Data.dict #[(kE P "__module__" 359 (kz "evenhall.errors" 194)), (kE P "__firstlineno__" 363 (kI 31 362)), (kE P "small_words" 370 (kR 162)), (kE P "__static_attributes__" 371 (kR 163)), (kE P "__doc__" 372 kN)] 2) #[]))::
  (nat_lit 165, (kO (kY "type") none (Data.cls (ClassData.mk (kS "Twice") [(kR 31)] [(kR 165), (kR 31), (kY "ValueError"), (kY "Exception"), (kY "BaseException"), (kY "object")] 164 (kS "Twice") true [] [] false none false)) #[(some (kR 149)), none, (some (kz "Twice" 352)), (some (kz "Twice" 360)), (some (kB "ValueError.__new__")), (some kU)]))::
  (nat_lit 168, (kT #[(kR 31)]))::
  (nat_lit 175, (kT #[]))::
  (nat_lit 177, (kT #[(kz "self" 390)]))::
  (nat_lit 178, (kT #[]))::
  (nat_lit 180, (kO (kY "code") none (Data.fields #[(kz "small_words" 387), (kz "NotOpen.small_words" 388), (kC 389), (kI 37 0), (kI 1 0), (kI 0 0), (kI 0 0), (kI 3 0), (kR 175), kU, (kI 181 0), (kR 176), kN, (kR 177), (kR 178), (kR 179), (kI 391 0), (kI 37 0), (kC 392)]) #[]))::
  (nat_lit 181, (kO (kY "function") none (Data.func (FuncData.mk (kS "small_words") (kS "NotOpen.small_words") (Arguments.mk [] [(Arg.mk (kS "self") none (Pos.mk 37 20 37 24))] none [] [] none []) (FuncBody.stmts [(Stmt.Expr (Expr.Call (Expr.Name (kS "_wall") (Pos.mk 38 8 38 13)) [(Expr.Constant (Const.int 7) 0 (Pos.mk 38 14 38 15))] [] (Pos.mk 38 8 38 16)) (Pos.mk 38 8 38 16))]) (Scope.mk ScopeKind.function [((kS "self"), NameKind.local), ((kS "_wall"), NameKind.globalImplicit)] false false []) 3 [] kN kN kN (kz "evenhall.errors" 194) none (kR 180) kN 0)) #[]))::
  (nat_lit 182, (kT #[]))::
  (nat_lit 183, (kO (kY "dict") none (Data.dict #[(kE P "__module__" 382 (kz "evenhall.errors" 194)), (kE P "__firstlineno__" 386 (kI 35 385)), (kE P "small_words" 393 (kR 181)), (kE P "__static_attributes__" 394 (kR 182)), (kE P "__doc__" 395 kN)] 2) #[]))::
  (nat_lit 184, (kO (kY "type") none (Data.cls (ClassData.mk (kS "NotOpen") [(kR 31)] [(kR 184), (kR 31), (kY "ValueError"), (kY "Exception"), (kY "BaseException"), (kY "object")] 183 (kS "NotOpen") true [] [] false none false)) #[(some (kR 168)), none, (some (kz "NotOpen" 375)), (some (kz "NotOpen" 383)), (some (kB "ValueError.__new__")), (some kU)]))::
  (nat_lit 187, (kT #[(kR 31)]))::
  (nat_lit 194, (kT #[]))::
  (nat_lit 196, (kT #[(kz "self" 413)]))::
  (nat_lit 197, (kT #[]))::
  (nat_lit 199, (kO (kY "code") none (Data.fields #[(kz "small_words" 410), (kz "HasBelow.small_words" 411), (kC 412), (kI 41 0), (kI 1 0), (kI 0 0), (kI 0 0), (kI 3 0), (kR 194), kU, (kI 181 0), (kR 195), kN, (kR 196), (kR 197), (kR 198), (kI 414 0), (kI 41 0), (kC 415)]) #[]))::
  (nat_lit 200, (kO (kY "function") none (Data.func (FuncData.mk (kS "small_words") (kS "HasBelow.small_words") (Arguments.mk [] [(Arg.mk (kS "self") none (Pos.mk 41 20 41 24))] none [] [] none []) (FuncBody.stmts [(Stmt.Expr (Expr.Call (Expr.Name (kS "_wall") (Pos.mk 42 8 42 13)) [(Expr.Constant (Const.int 8) 0 (Pos.mk 42 14 42 15))] [] (Pos.mk 42 8 42 16)) (Pos.mk 42 8 42 16))]) (Scope.mk ScopeKind.function [((kS "self"), NameKind.local), ((kS "_wall"), NameKind.globalImplicit)] false false []) 3 [] kN kN kN (kz "evenhall.errors" 194) none (kR 199) kN 0)) #[]))::
  (nat_lit 201, (kT #[]))::
  (nat_lit 202, (kO (kY "dict") none (Data.dict #[(kE P "__module__" 405 (kz "evenhall.errors" 194)), (kE P "__firstlineno__" 409 (kI 39 408)), (kE P "small_words" 416 (kR 200)), (kE P "__static_attributes__" 417 (kR 201)), (kE P "__doc__" 418 kN)] 2) #[]))::
  (nat_lit 203, (kO (kY "type") none (Data.cls (ClassData.mk (kS "HasBelow") [(kR 31)] [(kR 203), (kR 31), (kY "ValueError"), (kY "Exception"), (kY "BaseException"), (kY "object")] 202 (kS "HasBelow") true [] [] false none false)) #[(some (kR 187)), none, (some (kz "HasBelow" 398)), (some (kz "HasBelow" 406)), (some (kB "ValueError.__new__")), (some kU)]))::
  (nat_lit 206, (kT #[(kR 31)]))::
  (nat_lit 213, (kT #[]))::
  (nat_lit 215, (kT #[(kz "self" 436)]))::
  (nat_lit 216, (kT #[]))::
  (nat_lit 218, (kO (kY "code") none (Data.fields #[(kz "small_words" 433), (kz "NoBooking.small_words" 434), (kC 435), (kI 45 0), (kI 1 0), (kI 0 0), (kI 0 0), (kI 3 0), (kR 213), kU, (kI 181 0), (kR 214), kN, (kR 215), (kR 216), (kR 217), (kI 437 0), (kI 45 0), (kC 438)]) #[]))::
  (nat_lit 219, (kO (kY "function") none (Data.func (FuncData.mk (kS "small_words") (kS "NoBooking.small_words") (Arguments.mk [] [(Arg.mk (kS "self") none (Pos.mk 45 20 45 24))] none [] [] none []) (FuncBody.stmts [(Stmt.Expr (Expr.Call (Expr.Name (kS "_wall") (Pos.mk 46 8 46 13)) [(Expr.Constant (Const.int 9) 0 (Pos.mk 46 14 46 15))] [] (Pos.mk 46 8 46 16)) (Pos.mk 46 8 46 16))]) (Scope.mk ScopeKind.function [((kS "self"), NameKind.local), ((kS "_wall"), NameKind.globalImplicit)] false false []) 3 [] kN kN kN (kz "evenhall.errors" 194) none (kR 218) kN 0)) #[]))::
  (nat_lit 220, (kT #[]))::
  (nat_lit 221, (kO (kY "dict") none (Data.dict #[(kE P "__module__" 428 (kz "evenhall.errors" 194)), (kE P "__firstlineno__" 432 (kI 43 431)), (kE P "small_words" 439 (kR 219)), (kE P "__static_attributes__" 440 (kR 220)), (kE P "__doc__" 441 kN)] 2) #[]))::
  (nat_lit 222, (kO (kY "type") none (Data.cls (ClassData.mk (kS "NoBooking") [(kR 31)] [(kR 222), (kR 31), (kY "ValueError"), (kY "Exception"), (kY "BaseException"), (kY "object")] 221 (kS "NoBooking") true [] [] false none false)) #[(some (kR 206)), none, (some (kz "NoBooking" 421)), (some (kz "NoBooking" 429)), (some (kB "ValueError.__new__")), (some kU)]))::
  (nat_lit 225, (kT #[]))::
  (nat_lit 227, (kT #[(kz "thing" 449)]))::
  (nat_lit 228, (kT #[]))::
  (nat_lit 230, (kO (kY "code") none (Data.fields #[(kz "is_whole" 446), (kz "is_whole" 447), (kC 448), (kI 48 0), (kI 1 0), (kI 0 0), (kI 0 0), (kI 3 0), (kR 225), kU, (kI 181 0), (kR 226), kN, (kR 227), (kR 228), (kR 229), (kI 450 0), (kI 48 0), (kC 451)]) #[]))::
  (nat_lit 231, (kO (kY "function") none (Data.func (PySem.W.fnOf (kS "is_whole") (kS "is_whole") (aB cS) (aA cS) (ag cS) kN kN kN (kz "evenhall.words" 444) none (kR 230) kN)) #[]))::
  (nat_lit 232, (kT #[]))::
  (nat_lit 234, (kT #[(kz "thing" 456), (kz "least" 457), (kz "most" 458)]))::
  (nat_lit 235, (kT #[]))::
  (nat_lit 237, (kO (kY "code") none (Data.fields #[(kz "is_among" 453), (kz "is_among" 454), (kC 455), (kI 50 0), (kI 3 0), (kI 0 0), (kI 0 0), (kI 3 0), (kR 232), kU, (kI 181 0), (kR 233), kN, (kR 234), (kR 235), (kR 236), (kI 459 0), (kI 50 0), (kC 460)]) #[]))::
  (nat_lit 238, (kO (kY "function") none (Data.func (PySem.W.fnOf (kS "is_among") (kS "is_among") (aB cK) (aA cK) (ag cK) kN kN kN (kz "evenhall.words" 444) none (kR 237) kN)) #[]))::
  (nat_lit 239, (kT #[]))::
  (nat_lit 242, (kO (kY "code") none (Data.fields #[(kz "signs_lie" 462), (kz "signs_lie" 463), (kC 464), (kI 52 0), (kI 3 0), (kI 0 0), (kI 0 0), (kI 3 0), (kR 239), kU, (kI 181 0), (kR 240), kN, kN, kN, (kR 241), (kI 465 0), (kI 52 0), (kC 466)]) #[]))::
  (nat_lit 243, (kO (kY "function") none (Data.func (PySem.W.fnOf (kS "signs_lie") (kS "signs_lie") (aB cq) (aA cq) (ag cq) kN kN kN (kz "evenhall.words" 444) none (kR 242) kN)) #[]))::
  (nat_lit 244, (kT #[]))::
  (nat_lit 246, (kT #[(kz "thing" 471)]))::
  (nat_lit 247, (kT #[]))::
  (nat_lit 249, (kO (kY "code") none (Data.fields #[(kz "is_name" 468), (kz "is_name" 469), (kC 470), (kI 54 0), (kI 1 0), (kI 0 0), (kI 0 0), (kI 3 0), (kR 244), kU, (kI 181 0), (kR 245), kN, (kR 246), (kR 247), (kR 248), (kI 472 0), (kI 54 0), (kC 473)]) #[]))::
  (nat_lit 250, (kO (kY "function") none (Data.func (PySem.W.fnOf (kS "is_name") (kS "is_name") (aB dA) (aA dA) (ag dA) kN kN kN (kz "evenhall.words" 444) none (kR 249) kN)) #[]))::
  (nat_lit 251, (kT #[]))::
  (nat_lit 253, (kT #[(kz "thing" 480)]))::
  (nat_lit 254, (kT #[]))::
  (nat_lit 256, (kO (kY "code") none (Data.fields #[(kz "is_currency" 477), (kz "is_currency" 478), (kC 479), (kI 57 0), (kI 1 0), (kI 0 0), (kI 0 0), (kI 3 0), (kR 251), kU, (kI 181 0), (kR 252), kN, (kR 253), (kR 254), (kR 255), (kI 481 0), (kI 57 0), (kC 482)]) #[]))::
  (nat_lit 257, (kO (kY "function") none (Data.func (PySem.W.fnOf (kS "is_currency") (kS "is_currency") (aB bN) (aA bN) (ag bN) kN kN kN (kz "evenhall.money" 475) none (kR 256) kN)) #[]))::
  (nat_lit 258, (kT #[]))::
  (nat_lit 261, (kO (kY "code") none (Data.fields #[(kz "turned" 486), (kz "turned" 487), (kC 488), (kI 60 0), (kI 1 0), (kI 0 0), (kI 0 0), (kI 3 0), (kR 258), kU, (kI 181 0), (kR 259), kN, kN, kN, (kR 260), (kI 489 0), (kI 60 0), (kC 490)]) #[]))::
  (nat_lit 262, (kO (kY "function") none (Data.func (PySem.W.fnOf (kS "turned") (kS "turned") (aB dW) (aA dW) (ag dW) kN kN kN (kz "evenhall.bookings" 484) none (kR 261) kN)) #[]))::
  (nat_lit 263, (kT #[]))::
  (nat_lit 266, (kO (kY "code") none (Data.fields #[(kz "sums_of" 492), (kz "sums_of" 493), (kC 494), (kI 62 0), (kI 1 0), (kI 0 0), (kI 0 0), (kI 3 0), (kR 263), kU, (kI 181 0), (kR 264), kN, kN, kN, (kR 265), (kI 495 0), (kI 62 0), (kC 496)]) #[]))::
  (nat_lit 267, (kO (kY "function") none (Data.func (PySem.W.fnOf (kS "sums_of") (kS "sums_of") (aB dB) (aA dB) (ag dB) kN kN kN (kz "evenhall.bookings" 484) none (kR 266) kN)) #[]))::
  (nat_lit 268, (kT #[(kI 31 500), (kI 28 501), (kI 31 502), (kI 30 503), (kI 31 504), (kI 30 505), (kI 31 506), (kI 31 507), (kI 30 508), (kI 31 509), (kI 30 510), (kI 31 511)]))::
  (nat_lit 269, (kT #[]))::
  (nat_lit 271, (kT #[(kz "thing" 516)]))::
  (nat_lit 272, (kT #[]))::
  (nat_lit 274, (kO (kY "code") none (Data.fields #[(kz "is_day" 513), (kz "is_day" 514), (kC 515), (kI 69 0), (kI 1 0), (kI 0 0), (kI 0 0), (kI 3 0), (kR 269), kU, (kI 181 0), (kR 270), kN, (kR 271), (kR 272), (kR 273), (kI 517 0), (kI 69 0), (kC 518)]) #[]))::
  (nat_lit 275, (kO (kY "function") none (Data.func (PySem.W.fnOf (kS "is_day") (kS "is_day") (aB dO) (aA dO) (ag dO) kN kN kN (kz "evenhall.days" 498) none (kR 274) kN)) #[]))::
  (nat_lit 276, (kT #[]))::
  (nat_lit 278, (kT #[(kz "years" 523)]))::
  (nat_lit 279, (kT #[]))::
  (nat_lit 281, (kO (kY "code") none (Data.fields #[(kz "leap_days" 520), (kz "leap_days" 521), (kC 522), (kI 71 0), (kI 1 0), (kI 0 0), (kI 0 0), (kI 3 0), (kR 276), kU, (kI 181 0), (kR 277), kN, (kR 278), (kR 279), (kR 280), (kI 524 0), (kI 71 0), (kC 525)]) #[]))::
  (nat_lit 282, (kO (kY "function") none (Data.func (PySem.W.fnOf (kS "leap_days") (kS "leap_days") (aB cp) (aA cp) (ag cp) kN kN kN (kz "evenhall.days" 498) none (kR 281) kN)) #[]))::
  (nat_lit 283, (kT #[]))::
  (nat_lit 285, (kT #[(kz "month" 530), (kz "years" 531), (kz "ahead" 532), (kz "leaps" 533)]))::
  (nat_lit 286, (kT #[]))::
  (nat_lit 288, (kO (kY "code") none (Data.fields #[(kz "first_day" 527), (kz "first_day" 528), (kC 529), (kI 73 0), (kI 1 0), (kI 0 0), (kI 0 0), (kI 3 0), (kR 283), kU, (kI 181 0), (kR 284), kN, (kR 285), (kR 286), (kR 287), (kI 534 0), (kI 73 0), (kC 535)]) #[]))::
  (nat_lit 289, (kO (kY "function") none (Data.func (PySem.W.fnOf (kS "first_day") (kS "first_day") (aB cA) (aA cA) (ag cA) kN kN kN (kz "evenhall.days" 498) none (kR 288) kN)) #[]))::
  (nat_lit 290, (kT #[]))::
  (nat_lit 292, (kT #[(kz "month" 540)]))::
  (nat_lit 293, (kT #[]))::
  (nat_lit 295, (kO (kY "code") none (Data.fields #[(kz "last_day" 537), (kz "last_day" 538), (kC 539), (kI 78 0), (kI 1 0), (kI 0 0), (kI 0 0), (kI 3 0), (kR 290), kU, (kI 181 0), (kR 291), kN, (kR 292), (kR 293), (kR 294), (kI 541 0), (kI 78 0), (kC 542)]) #[]))::
  (nat_lit 296, (kO (kY "function") none (Data.func (PySem.W.fnOf (kS "last_day") (kS "last_day") (aB cM) (aA cM) (ag cM) kN kN kN (kz "evenhall.days" 498) none (kR 295) kN)) #[]))::
  (nat_lit 297, (kT #[]))::
  (nat_lit 300, (kO (kY "code") none (Data.fields #[(kz "are_names" 546), (kz "are_names" 547), (kC 548), (kI 81 0), (kI 1 0), (kI 0 0), (kI 0 0), (kI 3 0), (kR 297), kU, (kI 181 0), (kR 298), kN, kN, kN, (kR 299), (kI 549 0), (kI 81 0), (kC 550)]) #[]))::
  (nat_lit 301, (kO (kY "function") none (Data.func (PySem.W.fnOf (kS "are_names") (kS "are_names") (aB cw) (aA cw) (ag cw) kN kN kN (kz "evenhall.paths" 544) none (kR 300) kN)) #[]))::
  (nat_lit 302, (kT #[]))::
  (nat_lit 304, (kT #[(kz "thing" 555)]))::
  (nat_lit 305, (kT #[]))::
  (nat_lit 307, (kO (kY "code") none (Data.fields #[(kz "is_path" 552), (kz "is_path" 553), (kC 554), (kI 83 0), (kI 1 0), (kI 0 0), (kI 0 0), (kI 3 0), (kR 302), kU, (kI 181 0), (kR 303), kN, (kR 304), (kR 305), (kR 306), (kI 556 0), (kI 83 0), (kC 557)]) #[]))::
  (nat_lit 308, (kO (kY "function") none (Data.func (PySem.W.fnOf (kS "is_path") (kS "is_path") (aB dh) (aA dh) (ag dh) kN kN kN (kz "evenhall.paths" 544) none (kR 307) kN)) #[]))::
  (nat_lit 309, (kT #[]))::
  (nat_lit 311, (kT #[(kz "path" 562)]))::
  (nat_lit 312, (kT #[]))::
  (nat_lit 314, (kO (kY "code") none (Data.fields #[(kz "names_of" 559), (kz "names_of" 560), (kC 561), (kI 85 0), (kI 1 0), (kI 0 0), (kI 0 0), (kI 3 0), (kR 309), kU, (kI 181 0), (kR 310), kN, (kR 311), (kR 312), (kR 313), (kI 563 0), (kI 85 0), (kC 564)]) #[]))::
  (nat_lit 315, (kO (kY "function") none (Data.func (PySem.W.fnOf (kS "names_of") (kS "names_of") (aB cP) (aA cP) (ag cP) kN kN kN (kz "evenhall.paths" 544) none (kR 314) kN)) #[]))::
  (nat_lit 316, (kT #[]))::
  (nat_lit 319, (kO (kY "code") none (Data.fields #[(kz "above" 566), (kz "above" 567), (kC 568), (kI 89 0), (kI 1 0), (kI 0 0), (kI 0 0), (kI 3 0), (kR 316), kU, (kI 181 0), (kR 317), kN, kN, kN, (kR 318), (kI 569 0), (kI 89 0), (kC 570)]) #[]))::
  (nat_lit 320, (kO (kY "function") none (Data.func (PySem.W.fnOf (kS "above") (kS "above") (aB fm) (aA fm) (ag fm) kN kN kN (kz "evenhall.paths" 544) none (kR 319) kN)) #[]))::
  (nat_lit 321, (kT #[]))::
  (nat_lit 323, (kT #[(kz "bookings" 577), (kz "rows" 578), (kz "booking" 579)]))::
  (nat_lit 324, (kT #[]))::
  (nat_lit 326, (kO (kY "code") none (Data.fields #[(kz "rows_of" 574), (kz "rows_of" 575), (kC 576), (kI 93 0), (kI 1 0), (kI 0 0), (kI 0 0), (kI 3 0), (kR 321), kU, (kI 181 0), (kR 322), kN, (kR 323), (kR 324), (kR 325), (kI 580 0), (kI 93 0), (kC 581)]) #[]))::
  (nat_lit 327, (kO (kY "function") none (Data.func (PySem.W.fnOf (kS "rows_of") (kS "rows_of") (aB dw) (aA dw) (ag dw) kN kN kN (kz "evenhall.reports" 572) none (kR 326) kN)) #[]))::
  (nat_lit 328, (kT #[]))::
  (nat_lit 331, (kO (kY "code") none (Data.fields #[(kz "bookings_up_to" 583), (kz "bookings_up_to" 584), (kC 585), (kI 98 0), (kI 2 0), (kI 0 0), (kI 0 0), (kI 3 0), (kR 328), kU, (kI 181 0), (kR 329), kN, kN, kN, (kR 330), (kI 586 0), (kI 98 0), (kC 587)]) #[]))::
  (nat_lit 332, (kO (kY "function") none (Data.func (PySem.W.fnOf (kS "bookings_up_to") (kS "bookings_up_to") (aB bi) (aA bi) (ag bi) kN kN kN (kz "evenhall.reports" 572) none (kR 331) kN)) #[]))::
  (nat_lit 333, (kT #[]))::
  (nat_lit 335, (kT #[(kz "chart" 592), (kz "journal" 593), (kz "day" 594)]))::
  (nat_lit 336, (kT #[]))::
  (nat_lit 338, (kO (kY "code") none (Data.fields #[(kz "balances" 589), (kz "balances" 590), (kC 591), (kI 100 0), (kI 3 0), (kI 0 0), (kI 0 0), (kI 3 0), (kR 333), kU, (kI 181 0), (kR 334), kN, (kR 335), (kR 336), (kR 337), (kI 595 0), (kI 100 0), (kC 596)]) #[]))::
  (nat_lit 339, (kO (kY "function") none (Data.func (PySem.W.fnOf (kS "balances") (kS "balances") (aB cN) (aA cN) (ag cN) kN kN kN (kz "evenhall.reports" 572) none (kR 338) kN)) #[]))::
  (nat_lit 340, (kT #[]))::
  (nat_lit 343, (kO (kY "code") none (Data.fields #[(kz "carry_rows" 600), (kz "carry_rows" 601), (kC 602), (kI 103 0), (kI 4 0), (kI 0 0), (kI 0 0), (kI 3 0), (kR 340), kU, (kI 181 0), (kR 341), kN, kN, kN, (kR 342), (kI 603 0), (kI 103 0), (kC 604)]) #[]))::
  (nat_lit 344, (kO (kY "function") none (Data.func (PySem.W.fnOf (kS "carry_rows") (kS "carry_rows") (aB b6) (aA b6) (ag b6) kN kN kN (kz "evenhall.closing" 598) none (kR 343) kN)) #[]))::
  (nat_lit 345, (kT #[(kz "have" 608), (kz "owe" 609), (kz "own" 610), (kz "gain" 611), (kz "cost" 612)]))::
  (nat_lit 353, (kT #[]))::
  (nat_lit 355, (kT #[(kz "self" 629), (kz "kind" 630), (kz "currency" 631), (kz "first" 632)]))::
  (nat_lit 356, (kT #[]))::
  (nat_lit 358, (kO (kY "code") none (Data.fields #[(kz "__init__" 626), (kz "Account.__init__" 627), (kC 628), (kI 111 0), (kI 4 0), (kI 0 0), (kI 0 0), (kI 3 0), (kR 353), kU, (kI 181 0), (kR 354), kN, (kR 355), (kR 356), (kR 357), (kI 633 0), (kI 111 0), (kC 634)]) #[]))::
  (nat_lit 359, (kO (kY "function") none (Data.func (PySem.W.fnOf (kS "__init__") (kS "Account.__init__") (aB aZ) (aA aZ) (ag aZ) kN kN kN (kz "evenhall.chart" 606) none (kR 358) kN)) #[]))::
  (nat_lit 360, (kT #[]))::
  (nat_lit 362, (kT #[(kz "self" 639), (kz "day" 640)]))::
  (nat_lit 363, (kT #[]))::
  (nat_lit 365, (kO (kY "code") none (Data.fields #[(kz "stands_on" 636), (kz "Account.stands_on" 637), (kC 638), (kI 118 0), (kI 2 0), (kI 0 0), (kI 0 0), (kI 3 0), (kR 360), kU, (kI 181 0), (kR 361), kN, (kR 362), (kR 363), (kR 364), (kI 641 0), (kI 118 0), (kC 642)]) #[]))::
  (nat_lit 366, (kO (kY "function") none (Data.func (PySem.W.fnOf (kS "stands_on") (kS "Account.stands_on") (aB aV) (aA aV) (ag aV) kN kN kN (kz "evenhall.chart" 606) none (kR 365) kN)) #[]))::
  (nat_lit 367, (kT #[]))::
  (nat_lit 369, (kT #[(kz "self" 647), (kz "day" 648)]))::
  (nat_lit 370, (kT #[]))::
  (nat_lit 372, (kO (kY "code") none (Data.fields #[(kz "stands_later" 644), (kz "Account.stands_later" 645), (kC 646), (kI 121 0), (kI 2 0), (kI 0 0), (kI 0 0), (kI 3 0), (kR 367), kU, (kI 181 0), (kR 368), kN, (kR 369), (kR 370), (kR 371), (kI 649 0), (kI 121 0), (kC 650)]) #[]))::
  (nat_lit 373, (kO (kY "function") none (Data.func (PySem.W.fnOf (kS "stands_later") (kS "Account.stands_later") (aB aS) (aA aS) (ag aS) kN kN kN (kz "evenhall.chart" 606) none (kR 372) kN)) #[]))::
  (nat_lit 374, (kT #[(kz "below" 652), (kz "currency" 653), (kz "first" 654), (kz "kind" 655), (kz "until" 656)]))::
  (nat_lit 375, (kO (kY "dict") none (Data.dict #[(kE P "__module__" 621 (kz "evenhall.chart" 606)), (kE P "__firstlineno__" 625 (kI 109 624)), (kE P "__init__" 635 (kR 359)), (kE P "stands_on" 643 (kR 366)), (kE P "stands_later" 651 (kR 373)), (kE P "__static_attributes__" 657 (kR 374)), (kE P "__dict__" 659 (kR 377)), (kE P "__weakref__" 661 (kR 378)), (kE P "__doc__" 662 kN)] 4) #[]))::
  (nat_lit 376, (kO (kY "type") none (Data.cls (ClassData.mk (kS "Account") [(kY "object")] [(kR 376), (kY "object")] 375 (kS "Account") true [] [] false none false)) #[none, none, (some (kz "Account" 614)), (some (kz "Account" 622)), (some (kB "object.__new__")), (some kU)]))::
  (nat_lit 377, (kO (kY "getset_descriptor") none (Data.fields #[(kz "__dict__" 658), (kR 376), (kB "function.__dict__"), (kB "function.__dict__#set")]) #[]))::
  (nat_lit 378, (kO (kY "getset_descriptor") none (Data.fields #[(kz "__weakref__" 660), (kR 376), (kB "ExceptionGroup.__weakref__"), kN]) #[]))::
  (nat_lit 388, (kT #[]))::
  (nat_lit 390, (kT #[(kz "self" 680)]))::
  (nat_lit 391, (kT #[]))::
  (nat_lit 393, (kO (kY "code") none (Data.fields #[(kz "__init__" 677), (kz "Chart.__init__" 678), (kC 679), (kI 125 0), (kI 1 0), (kI 0 0), (kI 0 0), (kI 3 0), (kR 388), kU, (kI 181 0), (kR 389), kN, (kR 390), (kR 391), (kR 392), (kI 681 0), (kI 125 0), (kC 682)]) #[]))::
  (nat_lit 394, (kO (kY "function") none (Data.func (PySem.W.fnOf (kS "__init__") (kS "Chart.__init__") (aB bh) (aA bh) (ag bh) kN kN kN (kz "evenhall.chart" 606) none (kR 393) kN)) #[]))::
  (nat_lit 395, (kT #[]))::
  (nat_lit 397, (kT #[(kz "self" 687), (kz "name" 688), (kz "kind" 689)]))::
  (nat_lit 398, (kT #[]))::
  (nat_lit 400, (kO (kY "code") none (Data.fields #[(kz "add_top" 684), (kz "Chart.add_top" 685), (kC 686), (kI 128 0), (kI 3 0), (kI 0 0), (kI 0 0), (kI 3 0), (kR 395), kU, (kI 181 0), (kR 396), kN, (kR 397), (kR 398), (kR 399), (kI 690 0), (kI 128 0), (kC 691)]) #[]))::
  (nat_lit 401, (kO (kY "function") none (Data.func (PySem.W.fnOf (kS "add_top") (kS "Chart.add_top") (aB br) (aA br) (ag br) kN kN kN (kz "evenhall.chart" 606) none (kR 400) kN)) #[]))::
  (nat_lit 402, (kT #[]))::
  (nat_lit 404, (kT #[(kz "self" 696), (kz "path" 697), (kz "currency" 698), (kz "day" 699), (kz "upper" 700)]))::
  (nat_lit 405, (kT #[]))::
  (nat_lit 407, (kO (kY "code") none (Data.fields #[(kz "add" 693), (kz "Chart.add" 694), (kC 695), (kI 137 0), (kI 4 0), (kI 0 0), (kI 0 0), (kI 3 0), (kR 402), kU, (kI 181 0), (kR 403), kN, (kR 404), (kR 405), (kR 406), (kI 701 0), (kI 137 0), (kC 702)]) #[]))::
  (nat_lit 408, (kO (kY "function") none (Data.func (PySem.W.fnOf (kS "add") (kS "Chart.add") (aB bS) (aA bS) (ag bS) kN kN kN (kz "evenhall.chart" 606) none (kR 407) kN)) #[]))::
  (nat_lit 409, (kT #[]))::
  (nat_lit 412, (kO (kY "code") none (Data.fields #[(kz "shut" 704), (kz "Chart.shut" 705), (kC 706), (kI 152 0), (kI 3 0), (kI 0 0), (kI 0 0), (kI 3 0), (kR 409), kU, (kI 181 0), (kR 410), kN, kN, kN, (kR 411), (kI 707 0), (kI 152 0), (kC 708)]) #[]))::
  (nat_lit 413, (kO (kY "function") none (Data.func (PySem.W.fnOf (kS "shut") (kS "Chart.shut") (aB b4) (aA b4) (ag b4) kN kN kN (kz "evenhall.chart" 606) none (kR 412) kN)) #[]))::
  (nat_lit 414, (kT #[]))::
  (nat_lit 416, (kT #[(kz "self" 713), (kz "path" 714)]))::
  (nat_lit 417, (kT #[]))::
  (nat_lit 419, (kO (kY "code") none (Data.fields #[(kz "has" 710), (kz "Chart.has" 711), (kC 712), (kI 164 0), (kI 2 0), (kI 0 0), (kI 0 0), (kI 3 0), (kR 414), kU, (kI 181 0), (kR 415), kN, (kR 416), (kR 417), (kR 418), (kI 715 0), (kI 164 0), (kC 716)]) #[]))::
  (nat_lit 420, (kO (kY "function") none (Data.func (PySem.W.fnOf (kS "has") (kS "Chart.has") (aB cC) (aA cC) (ag cC) kN kN kN (kz "evenhall.chart" 606) none (kR 419) kN)) #[]))::
  (nat_lit 421, (kT #[]))::
  (nat_lit 423, (kT #[(kz "self" 721), (kz "path" 722)]))::
  (nat_lit 424, (kT #[]))::
  (nat_lit 426, (kO (kY "code") none (Data.fields #[(kz "account" 718), (kz "Chart.account" 719), (kC 720), (kI 167 0), (kI 2 0), (kI 0 0), (kI 0 0), (kI 3 0), (kR 421), kU, (kI 181 0), (kR 422), kN, (kR 423), (kR 424), (kR 425), (kI 723 0), (kI 167 0), (kC 724)]) #[]))::
  (nat_lit 427, (kO (kY "function") none (Data.func (PySem.W.fnOf (kS "account") (kS "Chart.account") (aB bp) (aA bp) (ag bp) kN kN kN (kz "evenhall.chart" 606) none (kR 426) kN)) #[]))::
  (nat_lit 428, (kT #[]))::
  (nat_lit 430, (kT #[(kz "self" 729), (kz "path" 730)]))::
  (nat_lit 431, (kT #[]))::
  (nat_lit 433, (kO (kY "code") none (Data.fields #[(kz "kind_of" 726), (kz "Chart.kind_of" 727), (kC 728), (kI 172 0), (kI 2 0), (kI 0 0), (kI 0 0), (kI 3 0), (kR 428), kU, (kI 181 0), (kR 429), kN, (kR 430), (kR 431), (kR 432), (kI 731 0), (kI 172 0), (kC 732)]) #[]))::
  (nat_lit 434, (kO (kY "function") none (Data.func (PySem.W.fnOf (kS "kind_of") (kS "Chart.kind_of") (aB bv) (aA bv) (ag bv) kN kN kN (kz "evenhall.chart" 606) none (kR 433) kN)) #[]))::
  (nat_lit 435, (kT #[]))::
  (nat_lit 437, (kT #[(kz "self" 737), (kz "path" 738)]))::
  (nat_lit 438, (kT #[]))::
  (nat_lit 440, (kO (kY "code") none (Data.fields #[(kz "currency_of" 734), (kz "Chart.currency_of" 735), (kC 736), (kI 175 0), (kI 2 0), (kI 0 0), (kI 0 0), (kI 3 0), (kR 435), kU, (kI 181 0), (kR 436), kN, (kR 437), (kR 438), (kR 439), (kI 739 0), (kI 175 0), (kC 740)]) #[]))::
  (nat_lit 441, (kO (kY "function") none (Data.func (FuncData.mk (kS "currency_of") (kS "Chart.currency_of") (Arguments.mk [] [(Arg.mk (kS "self") none (Pos.mk 175 20 175 24)), (Arg.mk (kS "path") none (Pos.mk 175 26 175 30))] none [] [] none []) (FuncBody.stmts [(Stmt.Expr (Expr.Call (Expr.Name (kS "_wall") (Pos.mk 176 8 176 13)) [(Expr.Constant (Const.int 10) 0 (Pos.mk 176 14 176 16))] [] (Pos.mk 176 8 176 17)) (Pos.mk 176 8 176 17))]) (Scope.mk ScopeKind.function [((kS "self"), NameKind.local), ((kS "path"), NameKind.local), ((kS "_wall"), NameKind.globalImplicit)] false false []) 3 [] kN kN kN (kz "evenhall.chart" 606) none (kR 440) kN 0)) #[]))::
  (nat_lit 442, (kT #[]))::
  (nat_lit 444, (kT #[(kz "self" 745), (kz "path" 746)]))::
  (nat_lit 445, (kT #[]))::
  (nat_lit 447, (kO (kY "code") none (Data.fields #[(kz "span_of" 742), (kz "Chart.span_of" 743), (kC 744), (kI 178 0), (kI 2 0), (kI 0 0), (kI 0 0), (kI 3 0), (kR 442), kU, (kI 181 0), (kR 443), kN, (kR 444), (kR 445), (kR 446), (kI 747 0), (kI 178 0), (kC 748)]) #[]))::
  (nat_lit 448, (kO (kY "function") none (Data.func (FuncData.mk (kS "span_of") (kS "Chart.span_of") (Arguments.mk [] [(Arg.mk (kS "self") none (Pos.mk 178 16 178 20)), (Arg.mk (kS "path") none (Pos.mk 178 22 178 26))] none [] [] none []) (FuncBody.stmts [(Stmt.Expr (Expr.Call (Expr.Name (kS "_wall") (Pos.mk 179 8 179 13)) [(Expr.Constant (Const.int 11) 0 (Pos.mk 179 14 179 16))] [] (Pos.mk 179 8 179 17)) (Pos.mk 179 8 179 17))]) (Scope.mk ScopeKind.function [((kS "self"), NameKind.local), ((kS "path"), NameKind.local), ((kS "_wall"), NameKind.globalImplicit)] false false []) 3 [] kN kN kN (kz "evenhall.chart" 606) none (kR 447) kN 0)) #[]))::
  (nat_lit 449, (kT #[]))::
  (nat_lit 451, (kT #[(kz "self" 753), (kz "path" 754), (kz "day" 755)]))::
  (nat_lit 452, (kT #[]))::
  (nat_lit 454, (kO (kY "code") none (Data.fields #[(kz "is_open" 750), (kz "Chart.is_open" 751), (kC 752), (kI 181 0), (kI 3 0), (kI 0 0), (kI 0 0), (kI 3 0), (kR 449), kU, (kI 181 0), (kR 450), kN, (kR 451), (kR 452), (kR 453), (kI 756 0), (kI 181 0), (kC 757)]) #[]))::
  (nat_lit 455, (kO (kY "function") none (Data.func (FuncData.mk (kS "is_open") (kS "Chart.is_open") (Arguments.mk [] [(Arg.mk (kS "self") none (Pos.mk 181 16 181 20)), (Arg.mk (kS "path") none (Pos.mk 181 22 181 26)), (Arg.mk (kS "day") none (Pos.mk 181 28 181 31))] none [] [] none []) (FuncBody.stmts [(Stmt.Expr (Expr.Call (Expr.Name (kS "_wall") (Pos.mk 182 8 182 13)) [(Expr.Constant (Const.int 12) 0 (Pos.mk 182 14 182 16))] [] (Pos.mk 182 8 182 17)) (Pos.mk 182 8 182 17))]) (Scope.mk ScopeKind.function [((kS "self"), NameKind.local), ((kS "path"), NameKind.local), ((kS "day"), NameKind.local), ((kS "_wall"), NameKind.globalImplicit)] false false []) 3 [] kN kN kN (kz "evenhall.chart" 606) none (kR 454) kN 0)) #[]))::
  (nat_lit 456, (kT #[]))::
  (nat_lit 458, (kT #[(kz "self" 762), (kz "path" 763)]))::
  (nat_lit 459, (kT #[]))::
  (nat_lit 461, (kO (kY "code") none (Data.fields #[(kz "beneath" 759), (kz "Chart.beneath" 760), (kC 761), (kI 184 0), (kI 2 0), (kI 0 0), (kI 0 0), (kI 3 0), (kR 456), kU, (kI 181 0), (kR 457), kN, (kR 458), (kR 459), (kR 460), (kI 764 0), (kI 184 0), (kC 765)]) #[]))::
  (nat_lit 462, (kO (kY "function") none (Data.func (PySem.W.fnOf (kS "beneath") (kS "Chart.beneath") (aB bX) (aA bX) (ag bX) kN kN kN (kz "evenhall.chart" 606) none (kR 461) kN)) #[]))::
  (nat_lit 463, (kT #[]))::
  (nat_lit 465, (kT #[(kz "self" 770)]))::
  (nat_lit 466, (kT #[]))::
  (nat_lit 468, (kO (kY "code") none (Data.fields #[(kz "accounts" 767), (kz "Chart.accounts" 768), (kC 769), (kI 187 0), (kI 1 0), (kI 0 0), (kI 0 0), (kI 3 0), (kR 463), kU, (kI 181 0), (kR 464), kN, (kR 465), (kR 466), (kR 467), (kI 771 0), (kI 187 0), (kC 772)]) #[]))::
  (nat_lit 469, (kO (kY "function") none (Data.func (FuncData.mk (kS "accounts") (kS "Chart.accounts") (Arguments.mk [] [(Arg.mk (kS "self") none (Pos.mk 187 17 187 21))] none [] [] none []) (FuncBody.stmts [(Stmt.Expr (Expr.Call (Expr.Name (kS "_wall") (Pos.mk 188 8 188 13)) [(Expr.Constant (Const.int 13) 0 (Pos.mk 188 14 188 16))] [] (Pos.mk 188 8 188 17)) (Pos.mk 188 8 188 17))]) (Scope.mk ScopeKind.function [((kS "self"), NameKind.local), ((kS "_wall"), NameKind.globalImplicit)] false false []) 3 [] kN kN kN (kz "evenhall.chart" 606) none (kR 468) kN 0)) #[]))::
  (nat_lit 470, (kT #[(kz "by_path" 774)]))::
  (nat_lit 471, (kO (kY "dict") none (Data.dict #[(kE P "__module__" 672 (kz "evenhall.chart" 606)), (kE P "__firstlineno__" 676 (kI 123 675)), (kE P "__init__" 683 (kR 394)), (kE P "add_top" 692 (kR 401)), (kE P "add" 703 (kR 408)), (kE P "shut" 709 (kR 413)), (kE P "has" 717 (kR 420)), (kE P "account" 725 (kR 427)), (kE P "kind_of" 733 (kR 434)), (kE P "currency_of" 741 (kR 441)), (kE P "span_of" 749 (kR 448)), (kE P "is_open" 758 (kR 455)), (kE P "beneath" 766 (kR 462)), (kE P "accounts" 773 (kR 469)), (kE P "__static_attributes__" 775 (kR 470)), (kE P "__dict__" 777 (kR 473)), (kE P "__weakref__" 779 (kR 474)), (kE P "__doc__" 780 kN)] 4) #[]))::
  (nat_lit 472, (kO (kY "type") none (Data.cls (ClassData.mk (kS "Chart") [(kY "object")] [(kR 472), (kY "object")] 471 (kS "Chart") true [] [] false none false)) #[none, none, (some (kz "Chart" 665)), (some (kz "Chart" 673)), (some (kB "object.__new__")), (some kU)]))::
  (nat_lit 473, (kO (kY "getset_descriptor") none (Data.fields #[(kz "__dict__" 776), (kR 472), (kB "function.__dict__"), (kB "function.__dict__#set")]) #[]))::
  (nat_lit 474, (kO (kY "getset_descriptor") none (Data.fields #[(kz "__weakref__" 778), (kR 472), (kB "ExceptionGroup.__weakref__"), kN]) #[]))::
  (nat_lit 484, (kT #[]))::
  (nat_lit 486, (kT #[(kz "self" 800)]))::
  (nat_lit 487, (kT #[]))::
  (nat_lit 489, (kO (kY "code") none (Data.fields #[(kz "__init__" 797), (kz "Journal.__init__" 798), (kC 799), (kI 192 0), (kI 1 0), (kI 0 0), (kI 0 0), (kI 3 0), (kR 484), kU, (kI 181 0), (kR 485), kN, (kR 486), (kR 487), (kR 488), (kI 801 0), (kI 192 0), (kC 802)]) #[]))::
  (nat_lit 490, (kO (kY "function") none (Data.func (PySem.W.fnOf (kS "__init__") (kS "Journal.__init__") (aB a_) (aA a_) (ag a_) kN kN kN (kz "evenhall.journal" 783) none (kR 489) kN)) #[]))::
  (nat_lit 491, (kT #[]))::
  (nat_lit 493, (kT #[(kz "self" 807), (kz "day" 808), (kz "note" 809), (kz "rows" 810), (kz "undoes" 811), (kz "number" 812)]))::
  (nat_lit 494, (kT #[]))::
  (nat_lit 496, (kO (kY "code") none (Data.fields #[(kz "put" 804), (kz "Journal.put" 805), (kC 806), (kI 196 0), (kI 5 0), (kI 0 0), (kI 0 0), (kI 3 0), (kR 491), kU, (kI 181 0), (kR 492), kN, (kR 493), (kR 494), (kR 495), (kI 813 0), (kI 196 0), (kC 814)]) #[]))::
  (nat_lit 497, (kO (kY "function") none (Data.func (PySem.W.fnOf (kS "put") (kS "Journal.put") (aB bO) (aA bO) (ag bO) kN kN kN (kz "evenhall.journal" 783) none (kR 496) kN)) #[]))::
  (nat_lit 498, (kT #[]))::
  (nat_lit 500, (kT #[(kz "self" 819)]))::
  (nat_lit 501, (kT #[]))::
  (nat_lit 503, (kO (kY "code") none (Data.fields #[(kz "many" 816), (kz "Journal.many" 817), (kC 818), (kI 203 0), (kI 1 0), (kI 0 0), (kI 0 0), (kI 3 0), (kR 498), kU, (kI 181 0), (kR 499), kN, (kR 500), (kR 501), (kR 502), (kI 820 0), (kI 203 0), (kC 821)]) #[]))::
  (nat_lit 504, (kO (kY "function") none (Data.func (PySem.W.fnOf (kS "many") (kS "Journal.many") (aB cf) (aA cf) (ag cf) kN kN kN (kz "evenhall.journal" 783) none (kR 503) kN)) #[]))::
  (nat_lit 505, (kT #[]))::
  (nat_lit 507, (kT #[(kz "self" 826), (kz "number" 827)]))::
  (nat_lit 508, (kT #[]))::
  (nat_lit 510, (kO (kY "code") none (Data.fields #[(kz "booking" 823), (kz "Journal.booking" 824), (kC 825), (kI 206 0), (kI 2 0), (kI 0 0), (kI 0 0), (kI 3 0), (kR 505), kU, (kI 181 0), (kR 506), kN, (kR 507), (kR 508), (kR 509), (kI 828 0), (kI 206 0), (kC 829)]) #[]))::
  (nat_lit 511, (kO (kY "function") none (Data.func (PySem.W.fnOf (kS "booking") (kS "Journal.booking") (aB bG) (aA bG) (ag bG) kN kN kN (kz "evenhall.journal" 783) none (kR 510) kN)) #[]))::
  (nat_lit 512, (kT #[]))::
  (nat_lit 514, (kT #[(kz "self" 834)]))::
  (nat_lit 515, (kT #[]))::
  (nat_lit 517, (kO (kY "code") none (Data.fields #[(kz "every" 831), (kz "Journal.every" 832), (kC 833), (kI 211 0), (kI 1 0), (kI 0 0), (kI 0 0), (kI 3 0), (kR 512), kU, (kI 181 0), (kR 513), kN, (kR 514), (kR 515), (kR 516), (kI 835 0), (kI 211 0), (kC 836)]) #[]))::
  (nat_lit 518, (kO (kY "function") none (Data.func (PySem.W.fnOf (kS "every") (kS "Journal.every") (aB bt) (aA bt) (ag bt) kN kN kN (kz "evenhall.journal" 783) none (kR 517) kN)) #[]))::
  (nat_lit 519, (kT #[]))::
  (nat_lit 521, (kT #[(kz "self" 841), (kz "number" 842)]))::
  (nat_lit 522, (kT #[]))::
  (nat_lit 524, (kO (kY "code") none (Data.fields #[(kz "undone_by" 838), (kz "Journal.undone_by" 839), (kC 840), (kI 214 0), (kI 2 0), (kI 0 0), (kI 0 0), (kI 3 0), (kR 519), kU, (kI 181 0), (kR 520), kN, (kR 521), (kR 522), (kR 523), (kI 843 0), (kI 214 0), (kC 844)]) #[]))::
  (nat_lit 525, (kO (kY "function") none (Data.func (FuncData.mk (kS "undone_by") (kS "Journal.undone_by") (Arguments.mk [] [(Arg.mk (kS "self") none (Pos.mk 214 18 214 22)), (Arg.mk (kS "number") none (Pos.mk 214 24 214 30))] none [] [] none []) (FuncBody.stmts [(Stmt.Expr (Expr.Call (Expr.Name (kS "_wall") (Pos.mk 215 8 215 13)) [(Expr.Constant (Const.int 14) 0 (Pos.mk 215 14 215 16))] [] (Pos.mk 215 8 215 17)) (Pos.mk 215 8 215 17))]) (Scope.mk ScopeKind.function [((kS "self"), NameKind.local), ((kS "number"), NameKind.local), ((kS "_wall"), NameKind.globalImplicit)] false false []) 3 [] kN kN kN (kz "evenhall.journal" 783) none (kR 524) kN 0)) #[]))::
  (nat_lit 526, (kT #[(kz "bookings" 846), (kz "undoings" 847)]))::
  (nat_lit 527, (kO (kY "dict") none (Data.dict #[(kE P "__module__" 792 (kz "evenhall.journal" 783)), (kE P "__firstlineno__" 796 (kI 190 795)), (kE P "__init__" 803 (kR 490)), (kE P "put" 815 (kR 497)), (kE P "many" 822 (kR 504)), (kE P "booking" 830 (kR 511)), (kE P "every" 837 (kR 518)), (kE P "undone_by" 845 (kR 525)), (kE P "__static_attributes__" 848 (kR 526)), (kE P "__dict__" 850 (kR 529)), (kE P "__weakref__" 852 (kR 530)), (kE P "__doc__" 853 kN)] 4) #[]))::
  (nat_lit 528, (kO (kY "type") none (Data.cls (ClassData.mk (kS "Journal") [(kY "object")] [(kR 528), (kY "object")] 527 (kS "Journal") true [] [] false none false)) #[none, none, (some (kz "Journal" 785)), (some (kz "Journal" 793)), (some (kB "object.__new__")), (some kU)]))::
  (nat_lit 529, (kO (kY "getset_descriptor") none (Data.fields #[(kz "__dict__" 849), (kR 528), (kB "function.__dict__"), (kB "function.__dict__#set")]) #[]))::
  (nat_lit 530, (kO (kY "getset_descriptor") none (Data.fields #[(kz "__weakref__" 851), (kR 528), (kB "ExceptionGroup.__weakref__"), kN]) #[]))::
  (nat_lit 533, (kT #[]))::
  (nat_lit 535, (kT #[(kz "_law_script" 861), (kz "_law_k" 862)]))::
  (nat_lit 536, (kT #[]))::
  (nat_lit 538, (kO (kY "code") none (Data.fields #[(kz "_law_cell_at" 858), (kz "_law_cell_at" 859), (kC 860), (kI 217 0), (kI 2 0), (kI 0 0), (kI 0 0), (kI 3 0), (kR 533), kU, (kI 181 0), (kR 534), kN, (kR 535), (kR 536), (kR 537), (kI 863 0), (kI 217 0), (kC 864)]) #[]))::
  (nat_lit 539, (kO (kY "function") none (Data.func (PySem.W.fnOf (kS "_law_cell_at") (kS "_law_cell_at") (aB bD) (aA bD) (ag bD) kN kN kN (kz "law_evenhall_k22_carry_rows" 856) none (kR 538) kN)) #[]))::
  (nat_lit 540, (kT #[]))::
  (nat_lit 542, (kT #[(kz "_law_found" 869)]))::
  (nat_lit 543, (kT #[]))::
  (nat_lit 545, (kO (kY "code") none (Data.fields #[(kz "_law_whole" 866), (kz "_law_whole" 867), (kC 868), (kI 221 0), (kI 1 0), (kI 0 0), (kI 0 0), (kI 3 0), (kR 540), kU, (kI 181 0), (kR 541), kN, (kR 542), (kR 543), (kR 544), (kI 870 0), (kI 221 0), (kC 871)]) #[]))::
  (nat_lit 546, (kO (kY "function") none (Data.func (PySem.W.fnOf (kS "_law_whole") (kS "_law_whole") (aB b8) (aA b8) (ag b8) kN kN kN (kz "law_evenhall_k22_carry_rows" 856) none (kR 545) kN)) #[]))::
  (nat_lit 547, (kT #[]))::
  (nat_lit 550, (kO (kY "code") none (Data.fields #[(kz "_law_names" 873), (kz "_law_names" 874), (kC 875), (kI 223 0), (kI 1 0), (kI 0 0), (kI 0 0), (kI 3 0), (kR 547), kU, (kI 181 0), (kR 548), kN, kN, kN, (kR 549), (kI 876 0), (kI 223 0), (kC 877)]) #[]))::
  (nat_lit 551, (kO (kY "function") none (Data.func (PySem.W.fnOf (kS "_law_names") (kS "_law_names") (aB b5) (aA b5) (ag b5) kN kN kN (kz "law_evenhall_k22_carry_rows" 856) none (kR 550) kN)) #[]))::
  (nat_lit 552, (kT #[]))::
  (nat_lit 555, (kO (kY "code") none (Data.fields #[(kz "_law_currencies" 879), (kz "_law_currencies" 880), (kC 881), (kI 231 0), (kI 1 0), (kI 0 0), (kI 0 0), (kI 3 0), (kR 552), kU, (kI 181 0), (kR 553), kN, kN, kN, (kR 554), (kI 882 0), (kI 231 0), (kC 883)]) #[]))::
  (nat_lit 556, (kO (kY "function") none (Data.func (PySem.W.fnOf (kS "_law_currencies") (kS "_law_currencies") (aB bd) (aA bd) (ag bd) kN kN kN (kz "law_evenhall_k22_carry_rows" 856) none (kR 555) kN)) #[]))::
  (nat_lit 557, (kT #[]))::
  (nat_lit 559, (kT #[(kz "_law_year" 888)]))::
  (nat_lit 560, (kT #[]))::
  (nat_lit 562, (kO (kY "code") none (Data.fields #[(kz "_law_start" 885), (kz "_law_start" 886), (kC 887), (kI 234 0), (kI 1 0), (kI 0 0), (kI 0 0), (kI 3 0), (kR 557), kU, (kI 181 0), (kR 558), kN, (kR 559), (kR 560), (kR 561), (kI 889 0), (kI 234 0), (kC 890)]) #[]))::
  (nat_lit 563, (kO (kY "function") none (Data.func (PySem.W.fnOf (kS "_law_start") (kS "_law_start") (aB b7) (aA b7) (ag b7) kN kN kN (kz "law_evenhall_k22_carry_rows" 856) none (kR 562) kN)) #[]))::
  (nat_lit 564, (kT #[]))::
  (nat_lit 566, (kT #[(kz "_law_year" 895), (kz "_law_second" 896)]))::
  (nat_lit 567, (kT #[]))::
  (nat_lit 569, (kO (kY "code") none (Data.fields #[(kz "_law_lengths" 892), (kz "_law_lengths" 893), (kC 894), (kI 236 0), (kI 1 0), (kI 0 0), (kI 0 0), (kI 3 0), (kR 564), kU, (kI 181 0), (kR 565), kN, (kR 566), (kR 567), (kR 568), (kI 897 0), (kI 236 0), (kC 898)]) #[]))::
  (nat_lit 570, (kO (kY "function") none (Data.func (PySem.W.fnOf (kS "_law_lengths") (kS "_law_lengths") (aB bH) (aA bH) (ag bH) kN kN kN (kz "law_evenhall_k22_carry_rows" 856) none (kR 569) kN)) #[]))::
  (nat_lit 571, (kT #[]))::
  (nat_lit 573, (kT #[(kz "_law_month_here" 903), (kz "_law_lengths_here" 904), (kz "_law_first" 905)]))::
  (nat_lit 574, (kT #[]))::
  (nat_lit 576, (kO (kY "code") none (Data.fields #[(kz "_law_month_ends" 900), (kz "_law_month_ends" 901), (kC 902), (kI 239 0), (kI 1 0), (kI 0 0), (kI 0 0), (kI 3 0), (kR 571), kU, (kI 181 0), (kR 572), kN, (kR 573), (kR 574), (kR 575), (kI 906 0), (kI 239 0), (kC 907)]) #[]))::
  (nat_lit 577, (kO (kY "function") none (Data.func (PySem.W.fnOf (kS "_law_month_ends") (kS "_law_month_ends") (aB bc) (aA bc) (ag bc) kN kN kN (kz "law_evenhall_k22_carry_rows" 856) none (kR 576) kN)) #[]))::
  (nat_lit 578, (kT #[]))::
  (nat_lit 580, (kT #[(kz "_law_day_here" 912), (kz "_law_year" 913), (kz "_law_month_here" 914)]))::
  (nat_lit 581, (kT #[]))::
  (nat_lit 583, (kO (kY "code") none (Data.fields #[(kz "_law_month" 909), (kz "_law_month" 910), (kC 911), (kI 243 0), (kI 1 0), (kI 0 0), (kI 0 0), (kI 3 0), (kR 578), kU, (kI 181 0), (kR 579), kN, (kR 580), (kR 581), (kR 582), (kI 915 0), (kI 243 0), (kC 916)]) #[]))::
  (nat_lit 584, (kO (kY "function") none (Data.func (PySem.W.fnOf (kS "_law_month") (kS "_law_month") (aB bZ) (aA bZ) (ag bZ) kN kN kN (kz "law_evenhall_k22_carry_rows" 856) none (kR 583) kN)) #[]))::
  (nat_lit 585, (kT #[]))::
  (nat_lit 587, (kT #[(kz "_law_script" 921), (kz "_law_cell" 922)]))::
  (nat_lit 588, (kT #[]))::
  (nat_lit 590, (kO (kY "code") none (Data.fields #[(kz "_law_base" 918), (kz "_law_base" 919), (kC 920), (kI 253 0), (kI 1 0), (kI 0 0), (kI 0 0), (kI 3 0), (kR 585), kU, (kI 181 0), (kR 586), kN, (kR 587), (kR 588), (kR 589), (kI 923 0), (kI 253 0), (kC 924)]) #[]))::
  (nat_lit 591, (kO (kY "function") none (Data.func (PySem.W.fnOf (kS "_law_base") (kS "_law_base") (aB cB) (aA cB) (ag cB) kN kN kN (kz "law_evenhall_k22_carry_rows" 856) none (kR 590) kN)) #[]))::
  (nat_lit 592, (kT #[]))::
  (nat_lit 594, (kT #[(kz "_law_script" 929), (kz "_law_k" 930)]))::
  (nat_lit 595, (kT #[]))::
  (nat_lit 597, (kO (kY "code") none (Data.fields #[(kz "_law_day" 926), (kz "_law_day" 927), (kC 928), (kI 256 0), (kI 2 0), (kI 0 0), (kI 0 0), (kI 3 0), (kR 592), kU, (kI 181 0), (kR 593), kN, (kR 594), (kR 595), (kR 596), (kI 931 0), (kI 256 0), (kC 932)]) #[]))::
  (nat_lit 598, (kO (kY "function") none (Data.func (PySem.W.fnOf (kS "_law_day") (kS "_law_day") (aB cT) (aA cT) (ag cT) kN kN kN (kz "law_evenhall_k22_carry_rows" 856) none (kR 597) kN)) #[]))::
  (nat_lit 599, (kT #[]))::
  (nat_lit 601, (kT #[(kz "_law_script" 937), (kz "_law_names_here" 938), (kz "_law_currencies_here" 939), (kz "_law_cell" 940), (kz "_law_kinds" 941), (kz "_law_tops" 942), (kz "_law_accounts_here" 943), (kz "_law_k" 944), (kz "_law_some" 945), (kz "_law_more" 946), (kz "_law_upper" 947), (kz "_law_until" 948), (kz "_law_currency" 949)]))::
  (nat_lit 602, (kT #[]))::
  (nat_lit 604, (kO (kY "code") none (Data.fields #[(kz "_law_accounts" 934), (kz "_law_accounts" 935), (kC 936), (kI 258 0), (kI 1 0), (kI 0 0), (kI 0 0), (kI 3 0), (kR 599), kU, (kI 181 0), (kR 600), kN, (kR 601), (kR 602), (kR 603), (kI 950 0), (kI 258 0), (kC 951)]) #[]))::
  (nat_lit 605, (kO (kY "function") none (Data.func (PySem.W.fnOf (kS "_law_accounts") (kS "_law_accounts") (aB aO) (aA aO) (ag aO) kN kN kN (kz "law_evenhall_k22_carry_rows" 856) none (kR 604) kN)) #[]))::
  (nat_lit 606, (kT #[]))::
  (nat_lit 608, (kT #[(kz "_law_accounts_here" 956), (kz "_law_chart_here" 957), (kz "_law_path" 958), (kz "_law_currency" 959), (kz "_law_first" 960), (kz "_law_until" 961), (kz "_law_kind" 962)]))::
  (nat_lit 609, (kT #[]))::
  (nat_lit 611, (kO (kY "code") none (Data.fields #[(kz "_law_chart" 953), (kz "_law_chart" 954), (kC 955), (kI 277 0), (kI 1 0), (kI 0 0), (kI 0 0), (kI 3 0), (kR 606), kU, (kI 181 0), (kR 607), kN, (kR 608), (kR 609), (kR 610), (kI 963 0), (kI 277 0), (kC 964)]) #[]))::
  (nat_lit 612, (kO (kY "function") none (Data.func (PySem.W.fnOf (kS "_law_chart") (kS "_law_chart") (aB bI) (aA bI) (ag bI) kN kN kN (kz "law_evenhall_k22_carry_rows" 856) none (kR 611) kN)) #[]))::
  (nat_lit 613, (kT #[]))::
  (nat_lit 615, (kT #[(kz "_law_accounts_here" 969), (kz "_law_path" 970), (kz "_law_day_here" 971), (kz "_law_first" 972), (kz "_law_until" 973)]))::
  (nat_lit 616, (kT #[]))::
  (nat_lit 618, (kO (kY "code") none (Data.fields #[(kz "_law_is_open" 966), (kz "_law_is_open" 967), (kC 968), (kI 289 0), (kI 3 0), (kI 0 0), (kI 0 0), (kI 3 0), (kR 613), kU, (kI 181 0), (kR 614), kN, (kR 615), (kR 616), (kR 617), (kI 974 0), (kI 289 0), (kC 975)]) #[]))::
  (nat_lit 619, (kO (kY "function") none (Data.func (PySem.W.fnOf (kS "_law_is_open") (kS "_law_is_open") (aB bE) (aA bE) (ag bE) kN kN kN (kz "law_evenhall_k22_carry_rows" 856) none (kR 618) kN)) #[]))::
  (nat_lit 620, (kT #[]))::
  (nat_lit 623, (kO (kY "code") none (Data.fields #[(kz "_law_rows_by" 977), (kz "_law_rows_by" 978), (kC 979), (kI 292 0), (kI 4 0), (kI 0 0), (kI 0 0), (kI 3 0), (kR 620), kU, (kI 181 0), (kR 621), kN, kN, kN, (kR 622), (kI 980 0), (kI 292 0), (kC 981)]) #[]))::
  (nat_lit 624, (kO (kY "function") none (Data.func (PySem.W.fnOf (kS "_law_rows_by") (kS "_law_rows_by") (aB bJ) (aA bJ) (ag bJ) kN kN kN (kz "law_evenhall_k22_carry_rows" 856) none (kR 623) kN)) #[]))::
  (nat_lit 625, (kT #[]))::
  (nat_lit 628, (kO (kY "code") none (Data.fields #[(kz "_law_balances" 983), (kz "_law_balances" 984), (kC 985), (kI 303 0), (kI 2 0), (kI 0 0), (kI 0 0), (kI 3 0), (kR 625), kU, (kI 181 0), (kR 626), kN, kN, kN, (kR 627), (kI 986 0), (kI 303 0), (kC 987)]) #[]))::
  (nat_lit 629, (kO (kY "function") none (Data.func (PySem.W.fnOf (kS "_law_balances") (kS "_law_balances") (aB bq) (aA bq) (ag bq) kN kN kN (kz "law_evenhall_k22_carry_rows" 856) none (kR 628) kN)) #[]))::
  (nat_lit 630, (kT #[]))::
  (nat_lit 633, (kO (kY "code") none (Data.fields #[(kz "_law_due" 989), (kz "_law_due" 990), (kC 991), (kI 310 0), (kI 4 0), (kI 0 0), (kI 0 0), (kI 3 0), (kR 630), kU, (kI 181 0), (kR 631), kN, kN, kN, (kR 632), (kI 992 0), (kI 310 0), (kC 993)]) #[]))::
  (nat_lit 634, (kO (kY "function") none (Data.func (PySem.W.fnOf (kS "_law_due") (kS "_law_due") (aB cO) (aA cO) (ag cO) kN kN kN (kz "law_evenhall_k22_carry_rows" 856) none (kR 633) kN)) #[]))::
  (nat_lit 635, (kT #[]))::
  (nat_lit 638, (kO (kY "code") none (Data.fields #[(kz "law" 995), (kz "law" 996), (kC 997), (kI 318 0), (kI 1 0), (kI 0 0), (kI 0 0), (kI 3 0), (kR 635), kU, (kI 181 0), (kR 636), kN, kN, kN, (kR 637), (kI 998 0), (kI 318 0), (kC 999)]) #[]))::
  (nat_lit 639, (kO (kY "function") none (Data.func (PySem.W.fnOf (kS "law") (kS "law") (aB cI) (aA cI) (ag cI) kN kN kN (kz "law_evenhall_k22_carry_rows" 856) none (kR 638) kN)) #[])) :: []
def adrs : List Addr := [nat_lit 2, nat_lit 3, nat_lit 15, nat_lit 17, nat_lit 18, nat_lit 20, nat_lit 21, nat_lit 22, nat_lit 29, nat_lit 30, nat_lit 31, nat_lit 32, nat_lit 35, nat_lit 42, nat_lit 44, nat_lit 45, nat_lit 47, nat_lit 48, nat_lit 49, nat_lit 50, nat_lit 51, nat_lit 54, nat_lit 61, nat_lit 63, nat_lit 64, nat_lit 66, nat_lit 67, nat_lit 68, nat_lit 69, nat_lit 70, nat_lit 73, nat_lit 80, nat_lit 82, nat_lit 83, nat_lit 85, nat_lit 86, nat_lit 87, nat_lit 88, nat_lit 89, nat_lit 92, nat_lit 99, nat_lit 101, nat_lit 102, nat_lit 104, nat_lit 105, nat_lit 106, nat_lit 107, nat_lit 108, nat_lit 111, nat_lit 118, nat_lit 120, nat_lit 121, nat_lit 123, nat_lit 124, nat_lit 125, nat_lit 126, nat_lit 127, nat_lit 130, nat_lit 137, nat_lit 139, nat_lit 140, nat_lit 142, nat_lit 143, nat_lit 144, nat_lit 145, nat_lit 146, nat_lit 149, nat_lit 156, nat_lit 158, nat_lit 159, nat_lit 161, nat_lit 162, nat_lit 163, nat_lit 164, nat_lit 165, nat_lit 168, nat_lit 175, nat_lit 177, nat_lit 178, nat_lit 180, nat_lit 181, nat_lit 182, nat_lit 183, nat_lit 184, nat_lit 187, nat_lit 194, nat_lit 196, nat_lit 197, nat_lit 199, nat_lit 200, nat_lit 201, nat_lit 202, nat_lit 203, nat_lit 206, nat_lit 213, nat_lit 215, nat_lit 216, nat_lit 218, nat_lit 219, nat_lit 220, nat_lit 221, nat_lit 222, nat_lit 225, nat_lit 227, nat_lit 228, nat_lit 230, nat_lit 231, nat_lit 232, nat_lit 234, nat_lit 235, nat_lit 237, nat_lit 238, nat_lit 239, nat_lit 242, nat_lit 243, nat_lit 244, nat_lit 246, nat_lit 247, nat_lit 249, nat_lit 250, nat_lit 251, nat_lit 253, nat_lit 254, nat_lit 256, nat_lit 257, nat_lit 258, nat_lit 261, nat_lit 262, nat_lit 263, nat_lit 266, nat_lit 267, nat_lit 268, nat_lit 269, nat_lit 271, nat_lit 272, nat_lit 274, nat_lit 275, nat_lit 276, nat_lit 278, nat_lit 279, nat_lit 281, nat_lit 282, nat_lit 283, nat_lit 285, nat_lit 286, nat_lit 288, nat_lit 289, nat_lit 290, nat_lit 292, nat_lit 293, nat_lit 295, nat_lit 296, nat_lit 297, nat_lit 300, nat_lit 301, nat_lit 302, nat_lit 304, nat_lit 305, nat_lit 307, nat_lit 308, nat_lit 309, nat_lit 311, nat_lit 312, nat_lit 314, nat_lit 315, nat_lit 316, nat_lit 319, nat_lit 320, nat_lit 321, nat_lit 323, nat_lit 324, nat_lit 326, nat_lit 327, nat_lit 328, nat_lit 331, nat_lit 332, nat_lit 333, nat_lit 335, nat_lit 336, nat_lit 338, nat_lit 339, nat_lit 340, nat_lit 343, nat_lit 344, nat_lit 345, nat_lit 353, nat_lit 355, nat_lit 356, nat_lit 358, nat_lit 359, nat_lit 360, nat_lit 362, nat_lit 363, nat_lit 365, nat_lit 366, nat_lit 367, nat_lit 369, nat_lit 370, nat_lit 372, nat_lit 373, nat_lit 374, nat_lit 375, nat_lit 376, nat_lit 377, nat_lit 378, nat_lit 388, nat_lit 390, nat_lit 391, nat_lit 393, nat_lit 394, nat_lit 395, nat_lit 397, nat_lit 398, nat_lit 400, nat_lit 401, nat_lit 402, nat_lit 404, nat_lit 405, nat_lit 407, nat_lit 408, nat_lit 409, nat_lit 412, nat_lit 413, nat_lit 414, nat_lit 416, nat_lit 417, nat_lit 419, nat_lit 420, nat_lit 421, nat_lit 423, nat_lit 424, nat_lit 426, nat_lit 427, nat_lit 428, nat_lit 430, nat_lit 431, nat_lit 433, nat_lit 434, nat_lit 435, nat_lit 437, nat_lit 438, nat_lit 440, nat_lit 441, nat_lit 442, nat_lit 444, nat_lit 445, nat_lit 447, nat_lit 448, nat_lit 449, nat_lit 451, nat_lit 452, nat_lit 454, nat_lit 455, nat_lit 456, nat_lit 458, nat_lit 459, nat_lit 461, nat_lit 462, nat_lit 463, nat_lit 465, nat_lit 466, nat_lit 468, nat_lit 469, nat_lit 470, nat_lit 471, nat_lit 472, nat_lit 473, nat_lit 474, nat_lit 484, nat_lit 486, nat_lit 487, nat_lit 489, nat_lit 490, nat_lit 491, nat_lit 493, nat_lit 494, nat_lit 496, nat_lit 497, nat_lit 498, nat_lit 500, nat_lit 501, nat_lit 503, nat_lit 504, nat_lit 505, nat_lit 507, nat_lit 508, nat_lit 510, nat_lit 511, nat_lit 512, nat_lit 514, nat_lit 515, nat_lit 517, nat_lit 518, nat_lit 519, nat_lit 521, nat_lit 522, nat_lit 524, nat_lit 525, nat_lit 526, nat_lit 527, nat_lit 528, nat_lit 529, nat_lit 530, nat_lit 533, nat_lit 535, nat_lit 536, nat_lit 538, nat_lit 539, nat_lit 540, nat_lit 542, nat_lit 543, nat_lit 545, nat_lit 546, nat_lit 547, nat_lit 550, nat_lit 551, nat_lit 552, nat_lit 555, nat_lit 556, nat_lit 557, nat_lit 559, nat_lit 560, nat_lit 562, nat_lit 563, nat_lit 564, nat_lit 566, nat_lit 567, nat_lit 569, nat_lit 570, nat_lit 571, nat_lit 573, nat_lit 574, nat_lit 576, nat_lit 577, nat_lit 578, nat_lit 580, nat_lit 581, nat_lit 583, nat_lit 584, nat_lit 585, nat_lit 587, nat_lit 588, nat_lit 590, nat_lit 591, nat_lit 592, nat_lit 594, nat_lit 595, nat_lit 597, nat_lit 598, nat_lit 599, nat_lit 601, nat_lit 602, nat_lit 604, nat_lit 605, nat_lit 606, nat_lit 608, nat_lit 609, nat_lit 611, nat_lit 612, nat_lit 613, nat_lit 615, nat_lit 616, nat_lit 618, nat_lit 619, nat_lit 620, nat_lit 623, nat_lit 624, nat_lit 625, nat_lit 628, nat_lit 629, nat_lit 630, nat_lit 633, nat_lit 634, nat_lit 635, nat_lit 638, nat_lit 639]
theorem adrs_eq (P : Params) : adrs = (frag P).map (·.1) := by kernel_rfl
def vw : Program := PySem.W.view PySem.Challenge.pw_evenhall_k22_carry_rows [0, 2, 3, 4, 5, 6, 7, 8, 9, 10, 11, 12, 14, 15, 16, 17, 19, 21, 22, 24, 25, 26, 27, 28, 30, 31, 32, 33, 35, 36, 37, 39, 41, 42, 43, 45, 47, 48, 49, 50, 51, 52, 53, 54, 55, 56, 57, 58, 59, 60, 61, 62, 63]
open PySem.W in
noncomputable def tree0 (P : Params) : BT := (.node (boot_o_0 P) (.node (boot_o_1 P) (.node (boot_o_3 P) (.node (boot_o_7 P) .nil .nil) .nil) (.node (boot_o_5 P) (.node (boot_o_9 P) .nil .nil) .nil)) (.node (boot_o_2 P) (.node (boot_o_4 P) (.node (boot_o_8 P) .nil .nil) .nil) (.node (boot_o_6 P) (.node (boot_o_10 P) .nil .nil) .nil)))
open PySem.W PyProof.Rows in
noncomputable def run (w : World) (os : OsState) := (TR.go PySem.Challenge.pw_evenhall_k22_carry_rows w 11 (some (.ref 6)) 10274 ⟨tree0 w.params, 11, (boot_heap w.params).life, Array.mk [], boot_drawn, boot_toks, os⟩ (topStub PySem.Challenge.pw_evenhall_k22_carry_rows)).map fun x => (TR.look PySem.Challenge.pw_evenhall_k22_carry_rows w.params x.abs, openSeen vw [] (importedModules PySem.Challenge.pw_evenhall_k22_carry_rows.main.body) (fun s => PySem.W.xlAt vw [] s && PySem.W.recOk (PySem.W.RowW.records (PySem.W.OpenRow.toRowW (PySem.W.OpenLaw.row PySem.Challenge.rw_evenhall_k22_carry_rows))) s) true x.abs, adrs.map x.abs.heap.get?)
noncomputable def good (x : List (Option Obj)) (_ : OsState) := some (true, PySem.W.openGood vw [], x)
set_option maxRecDepth 100000 in
set_option maxHeartbeats 0 in
lay_quick K22.run
set_option maxRecDepth 100000 in
set_option maxHeartbeats 0 in
lay_quick K22.good
set_option maxRecDepth 100000 in
set_option maxHeartbeats 0 in
theorem left : PySem.W.LeftO PySem.Challenge.pw_evenhall_k22_carry_rows vw [] (fun s => PySem.W.xlAt vw [] s && PySem.W.recOk (PySem.W.RowW.records (PySem.W.OpenRow.toRowW (PySem.W.OpenLaw.row PySem.Challenge.rw_evenhall_k22_carry_rows))) s) (PySem.W.kHook frag adrs adrs_eq).obs (PySem.W.kHook frag adrs adrs_eq).val 10274 :=
  TR.left (lo := 11) (an := some (.ref 6)) (tr := tree0) (PySem.W.boot_open (by kernel_rfl) (by decide) (fun s => by kernel_rfl)) (fun P => by kernel_rfl) (fun P => by kernel_rfl) fun w =>
    (congrFun PySem.W.Fast.te4894437146168264636 w).trans ((show PySem.W.Fast.tw4894437146168264636 w = PySem.W.Fast.tw9375256186786158738 ((frag w.params).map fun p => some p.2) by kernel_rfl).trans (congrFun PySem.W.Fast.te9375256186786158738 _).symm)
end K22
set_option Elab.async false
set_option linter.all false
set_option maxRecDepth 100000
namespace L2
open PySem PySem.Spec PyProof.Rows
abbrev Key := Sum Int Str
def q_ : Key -> Value -> Bool
  | .inl k, v => Value.isInt k v
  | .inr x, v => Value.isStrOf x v
def Fr (w : World) : Key -> Int
  | .inl k => hashInt k
  | .inr x => hashStr w x
theorem cD : ∀ {k : Key} {v : Value}, q_ k v = true -> (∃ i t, k = Sum.inl i /\ v = Value.int i t) \/ (∃ x t, k = Sum.inr x /\ v = Value.str x t)
  | .inl i, v, h => by
    obtain ⟨t, e⟩ := Value.isInt_shape (k := i) (v := v) h
    exact .inl ⟨i, t, rfl, e⟩
  | .inr x, v, h => by
    obtain ⟨t, e⟩ := Value.isStrOf_shape (x := x) (v := v) h
    exact .inr ⟨x, t, rfl, e⟩
theorem xX (i : Int) (t : Tok) : q_ (.inl i) (.int i t) = true := by simp [q_, Value.isInt]
theorem yI (x : Str) (t : Tok) : q_ (.inr x) (.str x t) = true := by simp [q_, Value.isStrOf]
theorem El (a b : Int) : decide ((Sum.inl a : Key) = Sum.inl b) = (a == b) := by
  by_cases e : a = b
  . subst e; simp
  . have h : ¬ (Sum.inl a : Key) = Sum.inl b := fun q => e (Sum.inl.inj q)
    rw [decide_eq_false h]
    exact (beq_eq_false_iff_ne.mpr e).symm
theorem DR (a b : Str) : decide ((Sum.inr a : Key) = Sum.inr b) = decide (a = b) := by
  by_cases e : a = b
  . subst e; simp
  . have h : ¬ (Sum.inr a : Key) = Sum.inr b := fun q => e (Sum.inr.inj q)
    rw [decide_eq_false h, decide_eq_false e]
theorem D_ (a : Int) (b : Str) : decide ((Sum.inl a : Key) = Sum.inr b) = false := decide_eq_false (fun q => nomatch q)
theorem C_ (a : Str) (b : Int) : decide ((Sum.inr a : Key) = Sum.inl b) = false := decide_eq_false (fun q => nomatch q)
def bT (prog : Program) (w : World) : PySem.KeyKind prog w Key where
  is := q_
  hash := Fr w
  inj := fun v a b ha hb => by
    rcases cD ha with ⟨i, t, rfl, rfl⟩ | ⟨x, t, rfl, rfl⟩
    . rcases cD hb with ⟨j, u, rfl, e⟩ | ⟨y, u, rfl, e⟩
      . injection e with e1 _; rw [e1]
      . exact nomatch e
    . rcases cD hb with ⟨j, u, rfl, e⟩ | ⟨y, u, rfl, e⟩
      . exact nomatch e
      . injection e with e1 _; rw [e1]
  byValue := fun k v h => by
    rcases cD h with ⟨i, t, rfl, rfl⟩ | ⟨x, t, rfl, rfl⟩ <;> rfl
  pyHash := fun hv h => by
    rcases cD hv with ⟨i, t, rfl, rfl⟩ | ⟨x, t, rfl, rfl⟩
    . exact wpAny_pyHash_int h
    . exact wpAny_pyHash_str h
  eqBool := fun hu hv h => by
    rcases cD hu with ⟨i, t, rfl, rfl⟩ | ⟨x, t, rfl, rfl⟩
    . rcases cD hv with ⟨j, u, rfl, rfl⟩ | ⟨y, u, rfl, rfl⟩
      . rw [El] at h; exact wpAny_eqBool_int h
      . rw [D_] at h; exact SeqAt.EqAt.int_str i t y u _ _ _ _ h
    . rcases cD hv with ⟨j, u, rfl, rfl⟩ | ⟨y, u, rfl, rfl⟩
      . rw [C_] at h; exact SeqAt.EqAt.str_int x t j u _ _ _ _ h
      . rw [DR] at h; exact wpAny_eqBool_str h
  «strs» := fun k x t v h => by
    rcases cD h with ⟨i, u, rfl, e⟩ | ⟨y, u, rfl, e⟩
    . exact nomatch e
    . injection e with e1 _
      subst e1
      cases v <;> rfl
theorem tf (prog : Program) (w : World) (i : Int) (t : Tok) : (bT prog w).is (.inl i) (.int i t) = true := xX i t
theorem tq (prog : Program) (w : World) (x : Str) (t : Tok) : (bT prog w).is (.inr x) (.str x t) = true := yI x t
end L2
namespace L2
open PySem PySem.Spec PyProof.Rows
inductive V where
  | non | bl (b : Bool) | int (i : Int) | str (x : Str) | byt (b : Array UInt8) | flt (b : UInt64) | ref (a : Addr) | ty (n : String)
  deriving DecidableEq
def RelV : V -> Value -> Prop
  | .non, u => u = Value.none
  | .bl b, u => u = Value.bool b
  | .int i, u => ∃ t, u = Value.int i t
  | .str x, u => ∃ t, u = Value.str x t
  | .byt b, u => ∃ t, u = Value.bytes b t
  | .flt b, u => ∃ t, u = Value.float b t
  | .ref a, u => u = Value.ref a
  | .ty n, u => u = Value.type n
abbrev Vals : List V -> List Value -> Prop := Paired RelV
theorem Vals.length {xs : List V} {us : List Value} (r : Vals xs us) : xs.length = us.length := Paired.length r
theorem Vals.get : ∀ {xs : List V} {us : List Value} {i : Nat} {x : V}, Vals xs us -> xs[i]? = some x -> ∃ u, us[i]? = some u /\ RelV x u
  | _, _, _, _, .nil, e => by simp at e
  | _, _, 0, _, .cons r _, e => by simp at e; subst e; exact ⟨_, rfl, r⟩
  | _, _, i + 1, x, .cons _ t, e => by
    obtain ⟨u, h1, h2⟩ := Vals.get (i := i) (x := x) t (by simpa using e)
    exact ⟨u, by simpa using h1, h2⟩
theorem Vals.append : ∀ {xs ys : List V} {us ws : List Value}, Vals xs us -> Vals ys ws -> Vals (xs ++ ys) (us ++ ws)
  | _, _, _, _, .nil, s => s
  | _, _, _, _, .cons r t, s => .cons r (Vals.append t s)
theorem Vals.take : ∀ {xs : List V} {us : List Value} (n : Nat), Vals xs us -> Vals (xs.take n) (us.take n)
  | _, _, 0, _ => .nil
  | _, _, _ + 1, .nil => .nil
  | _, _, n + 1, .cons r t => .cons r (Vals.take n t)
theorem Vals.drop : ∀ {xs : List V} {us : List Value} (n : Nat), Vals xs us -> Vals (xs.drop n) (us.drop n)
  | _, _, 0, r => r
  | _, _, _ + 1, .nil => .nil
  | _, _, n + 1, .cons _ t => Vals.drop n t
def RelO : Option V -> Option Value -> Prop
  | some v, some u => RelV v u
  | none, none => True
  | _, _ => False
def KV {κ : Type} : List (κ × V) -> List (κ × Value) -> Prop := Paired fun (p : κ × V) (q : κ × Value) => p.1 = q.1 /\ RelV p.2 q.2
def kV : Key -> V
  | .inl i => .int i
  | .inr x => .str x
inductive HO where
  | lst (xs : List V)
  | tup (xs : List V)
  | dK (kvs : List (Key × V)) | dT (kvs : List (List Key × V))
  | set (S : Int -> Bool) (n : Nat)
  | ins (C dx : Addr) (fs : List (Str × V))
  | own (x : Addr)
  | xd (fs : List (Str × V))
  | met (f x : Addr)
  | rng (lo hi : Int)
  | frz (o : Obj) (u : HO)
  | tbl (ps : Array Value)
  | ext (φ : Heap -> Prop)
abbrev Hp := Addr -> Option HO
def upd (H : Hp) (a : Addr) (o : HO) : Hp := fun b => if b = a then some o else H b
theorem ad {H : Hp} {a : Addr} {o : HO} : upd H a o a = some o := by unfold upd; rw [if_pos rfl]
theorem aj {H : Hp} {a b : Addr} {o : HO} (h : b ≠ a) : upd H a o b = H b := by unfold upd; rw [if_neg h]
theorem nN {H : Hp} {a : Addr} {o u : HO} : upd (upd H a o) a u = upd H a u := by
  funext b; unfold upd; split <;> rfl
theorem E1 {H : Hp} {a b : Addr} {o u : HO} (h : H a = some o) (h' : H b = some u) (d : o ≠ u) : a ≠ b := by
  intro e; subst e; rw [h] at h'; exact d (Option.some.inj h')
theorem av {H : Hp} {a b : Addr} {o : HO} (h : H a = some o) (h' : H b = none) : a ≠ b := by
  intro e; subst e; rw [h] at h'; cases h'
section
variable (P : Program) (w : World)
def ObjOk (H : Hp) (h : Heap) (a : Addr) : HO -> Prop
  | .lst xs => xs.length <= sizeLine /\ ∃ (its : List Value) (n : Nat), Vals xs its /\ h.get? a = some { cls := .type "list", data := .seq its.toArray n }
  | .tup xs => xs.length <= sizeLine /\ ∃ its : List Value, Vals xs its /\ IsTup h a its.toArray
  | .dK kvs => kvs.length <= sizeLine /\ (a == sysModules) = false /\ ∃ vs, KV kvs vs /\ h.DictOf (bT P w) a vs
  | .dT kvs => kvs.length <= sizeLine /\ (a == sysModules) = false /\ ∃ xs : List (List Key × Addr × Value),
      Paired (fun (p : List Key × V) (q : List Key × Addr × Value) => p.1 = q.1 /\ H q.2.1 = some (.tup (p.1.map kV)) /\ RelV p.2 q.2.2) kvs xs /\
      ∃ o es ep, h.get? a = some o /\ o.ExactDict /\ o.data = .dict es ep /\ es.toList = xs.map (entryOfKey (tupleKind (bT P w))) /\ (xs.map (·.1)).Nodup
  | .set S n => h.SetOf (intKind P w) a S n
  | .ins C dx fs => H dx = some (.own a) /\ fs.length <= 1000 /\ dx ≠ a /\ h.get? a = some (PySem.W.instObj C dx) /\
      ∃ mA, h.Ns1 dx mA /\ (∀ f, RelO (fs.lookup f) (mA f)) /\ PySem.Within mA (fs.map (·.1))
  | .own _ => ∃ o, h.get? a = some o
  | .xd fs => ∃ mA, h.Ns1 a mA /\ ∀ f, RelO (fs.lookup f) (mA f)
  | .rng lo hi => ∃ t u v, h.get? a = some { cls := .type "range", data := .fields #[.int lo t, .int hi u, .int 1 v] }
  | .frz o u => h.get? a = some o /\ ObjOk H h a u
  | .tbl ps => h.get? a = some { cls := .none, data := .fields ps }
  | .met f x => h.get? a = some (PySem.W.methodObj (.ref f) (.ref x))
  | .ext φ => φ h /\ (∃ o, h.get? a = some o) /\ ∀ h1 h2 : Heap, φ h1 -> (∀ o, h1.get? a = some o -> h2.get? a = some o) -> φ h2
def HOk (H : Hp) (h : Heap) : Prop := ∀ a o, H a = some o -> ObjOk P w H h a o
end
section
variable {P : Program} {w : World} {H H' : Hp} {h h' : Heap} {a : Addr} {o : HO}
theorem ObjOk.lt (x : ObjOk P w H h a o) : a < h.objs.size := by
  cases o with
  | lst xs => obtain ⟨_, _, _, _, e⟩ := x; exact Heap.lt_size e
  | tup xs => obtain ⟨_, _, _, p⟩ := x; exact p.lt
  | dK kvs => obtain ⟨_, _, _, _, o, _, _, e, _⟩ := x; exact Heap.lt_size e
  | dT kvs => obtain ⟨_, _, _, _, o, _, _, e, _⟩ := x; exact Heap.lt_size e
  | set S n => obtain ⟨o, _, _, _, e, _⟩ := x; exact Heap.lt_size e
  | ins C dx fs => obtain ⟨_, _, _, e, _⟩ := x; exact Heap.lt_size e
  | own y => obtain ⟨_, e⟩ := x; exact Heap.lt_size e
  | xd fs => obtain ⟨_, ⟨_, _, _, e, _⟩, _⟩ := x; exact Heap.lt_size e
  | rng lo hi => obtain ⟨_, _, _, e⟩ := x; exact Heap.lt_size e
  | frz ob u => obtain ⟨e, _⟩ := x; exact Heap.lt_size e
  | tbl ps => exact Heap.lt_size (show h.get? a = some _ from x)
  | met f y => exact Heap.lt_size (show h.get? a = some _ from x)
  | ext φ => obtain ⟨_, ⟨_, e⟩, _⟩ := x; exact Heap.lt_size e
theorem Paired.mapP {α β : Type} {F G : α -> β -> Prop} : ∀ {l₁ : List α} {l₂ : List β}, Paired F l₁ l₂ -> (∀ a b, F a b -> G a b) -> Paired G l₁ l₂
  | _, _, .nil, _ => .nil
  | _, _, .cons r t, f => .cons (f _ _ r) (Paired.mapP t f)
theorem ObjOk.stay (x : ObjOk P w H h a o) (k : ∀ b u, (b = a \/ H b = some (.own a)) -> h.get? b = some u -> h'.get? b = some u)
    (ho : ∀ b, H b = some (.own a) -> H' b = some (.own a)) (ht : ∀ b xs, H b = some (.tup xs) -> H' b = some (.tup xs)) : ObjOk P w H' h' a o := by
  induction o with
  | lst xs => obtain ⟨z, its, n, r, e⟩ := x; exact ⟨z, its, n, r, k _ _ (.inl rfl) e⟩
  | tup xs => obtain ⟨z, its, r, ob, e, c⟩ := x; exact ⟨z, its, r, ob, k _ _ (.inl rfl) e, c⟩
  | dK kvs => obtain ⟨z, y, vs, r, ob, es, ep, e, c⟩ := x; exact ⟨z, y, vs, r, ob, es, ep, k _ _ (.inl rfl) e, c⟩
  | dT kvs =>
    obtain ⟨z, y, xs, r, ob, es, ep, e, c⟩ := x
    exact ⟨z, y, xs, Paired.mapP r fun p q z => ⟨z.1, ht _ _ z.2.1, z.2.2⟩, ob, es, ep, k _ _ (.inl rfl) e, c⟩
  | set S n => obtain ⟨ob, es, ep, t, e, c⟩ := x; exact ⟨ob, es, ep, t, k _ _ (.inl rfl) e, c⟩
  | ins C dx fs =>
    obtain ⟨d, z, ne, e, mA, ⟨od, es, ep, e2, c⟩, r⟩ := x
    exact ⟨ho _ d, z, ne, k _ _ (.inl rfl) e, mA, ⟨od, es, ep, k _ _ (.inr d) e2, c⟩, r⟩
  | own y => obtain ⟨ob, e⟩ := x; exact ⟨ob, k _ _ (.inl rfl) e⟩
  | xd fs => obtain ⟨mA, ⟨od, es, ep, e, c⟩, r⟩ := x; exact ⟨mA, ⟨od, es, ep, k _ _ (.inl rfl) e, c⟩, r⟩
  | rng lo hi => obtain ⟨t, u, v, e⟩ := x; exact ⟨t, u, v, k _ _ (.inl rfl) e⟩
  | frz ob u ih => obtain ⟨e, q⟩ := x; exact ⟨k _ _ (.inl rfl) e, ih q⟩
  | tbl ps =>
    have e : h.get? a = some { cls := .none, data := .fields ps } := x
    show h'.get? a = some { cls := .none, data := .fields ps }
    exact k a _ (.inl rfl) e
  | met f y =>
    have e : h.get? a = some (PySem.W.methodObj (.ref f) (.ref y)) := x
    show h'.get? a = some (PySem.W.methodObj (.ref f) (.ref y))
    exact k a _ (.inl rfl) e
  | ext φ => obtain ⟨p, ⟨o, e⟩, st⟩ := x; exact ⟨st _ _ p fun o q => k _ _ (.inl rfl) q, ⟨o, k _ _ (.inl rfl) e⟩, st⟩
theorem HOk.lt (x : HOk P w H h) (e : H a = some o) : a < h.objs.size := (x a o e).lt
theorem HOk.fresh (x : HOk P w H h) (e : h.objs.size <= a) : H a = none := by
  cases q : H a with
  | none => rfl
  | some u => exact absurd (Nat.lt_of_lt_of_le (x.lt q) e) (Nat.lt_irrefl _)
theorem HOk.kept (x : HOk P w H h) (k : ∀ b u, h.get? b = some u -> h'.get? b = some u) : HOk P w H h' := fun a o e =>
  (x a o e).stay (fun b u _ q => k b u q) (fun _ q => q) fun _ _ q => q
theorem HOk.laid (x : HOk P w H h) (k : ∀ b u, h.get? b = some u -> h'.get? b = some u) (hp : h.objs.size <= a) (new : ObjOk P w (upd H a o) h' a o) : HOk P w (upd H a o) h' := fun b u e => by
  have hn := x.fresh hp
  by_cases hb : b = a
  . subst hb; rw [ad] at e; cases e; exact new
  . rw [aj hb] at e
    exact (x b u e).stay (fun c v _ q => k c v q) (fun c q => by rw [aj (av q hn)]; exact q) fun c xs q => by rw [aj (av q hn)]; exact q
end
def Rd (H : Hp) (a : Addr) (u : HO) : Prop := H a = some u \/ ∃ o, H a = some (.frz o u)
theorem Rd.ok {P : Program} {w : World} {H : Hp} {h : Heap} {a : Addr} {u : HO} (r : Rd H a u) (x : HOk P w H h) : ObjOk P w H h a u := by
  rcases r with r | ⟨o, r⟩
  . exact x a u r
  . obtain ⟨_, q⟩ := x a _ r
    exact q
def Mut : Option HO -> Prop
  | some (.lst _) => True
  | some (.dK _) => True
  | some (.dT _) => True
  | some (.set _ _) => True
  | some (.ins _ _ _) => True
  | some (.ext _) => True
  | _ => False
section
variable {P : Program} {w : World} {H : Hp} {h h' : Heap} {x e : Addr} {o' : HO}
theorem HOk.write (ok : HOk P w H h) (mu : Mut (H x)) (he : e = x \/ H e = some (.own x)) (k : ∀ b u, b ≠ e -> h.get? b = some u -> h'.get? b = some u) (heo : ∃ u, h'.get? e = some u)
    (new : ObjOk P w (upd H x o') h' x o') : HOk P w (upd H x o') h' := fun b u q => by
  have nown : ∀ c y, H c = some (.own y) -> c ≠ x := fun c y r z => by subst z; rw [r] at mu; exact mu
  have ntup : ∀ c xs, H c = some (.tup xs) -> c ≠ x := fun c xs r z => by subst z; rw [r] at mu; exact mu
  by_cases hb : b = x
  . subst hb; rw [ad] at q; cases q; exact new
  . rw [aj hb] at q
    by_cases hbe : b = e
    . have q' : H b = some (.own x) := by
        rcases he with z | z
        . exact absurd (hbe.trans z) hb
        . rw [hbe]; exact z
      rw [q] at q'; cases q'
      obtain ⟨v, hv⟩ := heo
      exact ⟨v, by rw [hbe]; exact hv⟩
    . refine (ok b u q).stay (fun c v hc r => k c v ?_ r) (fun c r => by rw [aj (nown c b r)]; exact r) fun c xs r => by rw [aj (ntup c xs r)]; exact r
      rcases hc with rfl | hc
      . exact hbe
      . rintro rfl
        rcases he with z | z
        . exact nown c b hc z
        . rw [hc] at z; cases z; exact hb rfl
end
structure Un (fs ex : List Addr) (H H' : Hp) (h h' : Heap) : Prop where
  keep : ∀ b o, h.get? b = some o -> H b = none -> b ∉ fs -> b ∉ ex -> h'.get? b = some o
  slot : ∀ b o, h.get? b = some o -> H b = none -> b ∈ fs -> b ∉ ex -> ∃ sl, h'.get? b = some { o with slots := sl }
  free : ∀ b o, h.get? b = some o -> H b = none -> b ∉ ex -> H' b = none
  there : ∀ b o, h.get? b = some o -> b ∉ ex -> ∃ o', h'.get? b = some o'
  tups : ∀ b xs, H b = some (.tup xs) -> H' b = some (.tup xs)
  frzs : ∀ b o u, H b = some (.frz o u) -> H' b = some (.frz o u)
  tbls : ∀ b ps, H b = some (.tbl ps) -> ∃ more, H' b = some (.tbl (ps ++ more))
section
variable {fs fs' ex ex' : List Addr} {H H1 H2 : Hp} {h h1 h2 h' : Heap} {a x e : Addr} {o : HO}
theorem Un.any (u : Un fs ex H H1 h h1) {b : Addr} {ob : Obj} (q : h.get? b = some ob) (n : H b = none) (hx : b ∉ ex) : ∃ sl, h1.get? b = some { ob with slots := sl } := by
  by_cases hb : b ∈ fs
  . exact u.slot b ob q n hb hx
  . exact ⟨ob.slots, u.keep b ob q n hb hx⟩
theorem Un.kept (k : ∀ b u, h.get? b = some u -> h'.get? b = some u) : Un fs ex H H h h' :=
  ⟨fun b ob q _ _ _ => k b ob q, fun b ob q _ _ _ => ⟨ob.slots, k b ob q⟩, fun _ _ _ n _ => n, fun b ob q _ => ⟨ob, k b ob q⟩, fun _ _ q => q, fun _ _ _ q => q, fun _ ps q => ⟨#[], by rw [q]; simp⟩⟩
theorem Un.refl : Un fs ex H H h h := Un.kept fun _ _ q => q
theorem Un.laid (k : ∀ b u, h.get? b = some u -> h'.get? b = some u) (hp : h.objs.size <= a) (hn : H a = none) : Un fs ex H (upd H a o) h h' where
  keep := fun b u q _ _ _ => k b u q
  slot := fun b u q _ _ _ => ⟨u.slots, k b u q⟩
  free := fun b u q n _ => by rw [aj (Nat.ne_of_lt (Nat.lt_of_lt_of_le (Heap.lt_size q) hp))]; exact n
  there := fun b u q _ => ⟨u, k b u q⟩
  tups := fun b xs q => by rw [aj (av q hn)]; exact q
  frzs := fun b u xs q => by rw [aj (av q hn)]; exact q
  tbls := fun b ps q => ⟨#[], by rw [aj (av q hn), q]; simp⟩
theorem Un.write (mu : Mut (H x)) (he : e = x \/ H e = some (.own x)) (k : ∀ b u, b ≠ e -> h.get? b = some u -> h'.get? b = some u) (heo : ∃ u, h'.get? e = some u) : Un fs ex H (upd H x o) h h' := by
  have hx : ∀ b, H b = none -> b ≠ x := fun b n z => by subst z; rw [n] at mu; exact mu
  have hb : ∀ b, H b = none -> b ≠ e := fun b n z => by
    subst z
    rcases he with r | r
    . exact hx b n r
    . rw [n] at r; cases r
  have hm : ∀ b u, H b = some u -> ¬ Mut (some u) -> b ≠ x := fun b u q nm z => by subst z; rw [q] at mu; exact nm mu
  refine ⟨fun b u q n _ _ => k b u (hb b n) q, fun b u q n _ _ => ⟨u.slots, k b u (hb b n) q⟩, fun b u q n _ => by rw [aj (hx b n)]; exact n, fun b u q _ => ?_,
    fun b xs q => by rw [aj (hm b _ q fun z => z)]; exact q, fun b u xs q => by rw [aj (hm b _ q fun z => z)]; exact q, fun b ps q => ⟨#[], by rw [aj (hm b _ q fun z => z), q]; simp⟩⟩
  by_cases hbe : b = e
  . subst hbe; exact heo
  . exact ⟨u, k b u hbe q⟩
end
def trk (h : Heap) (H : Hp) : List Addr := (List.range h.objs.size).filter fun a => (H a).isSome
def sy (h : Heap) (H : Hp) : Heap := PySem.W.hideAll h (trk h H)
theorem yC (h : Heap) (H : Hp) : (sy h H).objs.size = h.objs.size := PySem.W.hideAll_size _ _
theorem yN {h : Heap} {H : Hp} {b : Addr} {o : Obj} (e : h.get? b = some o) (n : H b = none) : (sy h H).get? b = some o :=
  PySem.W.hideAll_get _ e fun hm => by
    have q : (H b).isSome = true := (List.mem_filter.mp hm).2
    rw [n] at q; simp at q
theorem Bh {h : Heap} {H : Hp} {b : Addr} {o : Obj} (e : (sy h H).get? b = some o) : h.get? b = some o /\ H b = none := by
  have e' : h.get? b = some o := PySem.W.of_hideAll (trk h H) e
  refine ⟨e', ?_⟩
  cases q : H b with
  | none => rfl
  | some x =>
    have hm : b ∈ trk h H := List.mem_filter.mpr ⟨List.mem_range.mpr (Heap.lt_size e'), by simp [q]⟩
    have z : (sy h H).get? b = none := PySem.W.hideAll_none (trk h H) hm
    rw [z] at e; cases e
def BC (g h : Heap) (L : Addr) : List (Addr × Obj) := (List.range h.objs.size).filterMap fun a => if a = L \/ (g.get? a).isSome = true then none else (h.get? a).map fun o => (a, o)
def rest (g h : Heap) (L d : Addr) : List (Addr × Obj) := (BC g h L).filter fun p => decide (p.1 ≠ d)
end L2
namespace L2
open PySem PySem.Spec PyProof.Rows
structure Mod (K : PySem.W.Frag) (mg : Str -> Option Value) (base : Heap) : Prop where
  kin : K.In base
  glob : base.Ns mainGlobals mg
  blt : ∃ mb, base.Ns builtinsNs mb /\ ∀ x : Str, x ≠ "__name__" -> mb x = bootBuiltins x
  nolimit : base.NoLimit
structure Cx where
  prog : Program
  w : World
  K : PySem.W.Frag
  mg : Str -> Option Value
  base : Heap
  A : Around
  N : List Str
  s₀ : Shared
  H₀ : Hp
  env : Env
  outer : List Env
  stack : List Env
  ex : List Addr
  fn : Str -> Bool
  calm : Bool
  pn : List (Addr × Obj)
  xe : Value -> Shared -> Prop
def frs (l : List Env) : List Addr := l.filterMap (·.frame)
abbrev Cx.fs (X : Cx) : List Addr := frs X.outer
def Vis (sc : Scope) (x : Str) : Prop := sc.names.lookup x = some .local \/ sc.names.lookup x = some .cell \/ sc.names.lookup x = some .free
def Loc (sc : Scope) (x : Str) : Prop := sc.names.lookup x = some .local \/ sc.names.lookup x = some .cell
def FO (env : Env) (h : Heap) (m : Str -> Option Value) (x : Str) (u : Value) : Prop :=
  (env.kindOf x = some .local /\ m x = some u) \/ ((env.kindOf x = some .cell \/ env.kindOf x = some .free) /\ ∃ c, env.cells.lookup x = some c /\ h.IsCell c (some u))
structure Cx.Ok (X : Cx) : Prop where
  mod : Mod X.K X.mg X.base
  kind : X.env.scope.kind = .function
  glob : X.env.globals = mainGlobals
  blt : X.env.builtins = builtinsNs
  above : X.s₀.heap.objs.size <= X.env.locals
  inj : ∀ x y c, X.env.cells.lookup x = some c -> X.env.cells.lookup y = some c -> x = y
  has : ∀ x, (X.env.kindOf x = some .cell \/ X.env.kindOf x = some .free) -> ∃ c, X.env.cells.lookup x = some c
  cab : ∀ x c, X.fn x = true -> X.env.cells.lookup x = some c -> X.s₀.heap.objs.size <= c
  hd : X.calm = true -> X.A.handled = none
  frames : X.A.frames = some X.stack
  stk : X.stack = X.outer \/ (X.stack = X.env :: X.outer /\ X.env.frame = some X.env.locals)
  exf : ∀ b ∈ X.ex, b ≠ X.env.locals /\ ∀ x c, X.env.cells.lookup x = some c -> c ≠ b
  bs : ∀ b o, X.base.get? b = some o -> X.s₀.heap.get? b = some o /\ X.H₀ b = none
  bsz : X.base.objs.size <= X.s₀.heap.objs.size
  noex : ∀ b o, X.base.get? b = some o -> b ∉ X.ex
  exfs : ∀ b ∈ X.ex, b ∉ X.fs
  funs : X.s₀.heap.FunFrames X.base X.outer
  frf : ∀ b ∈ X.fs, X.H₀ b = none
structure Inv (X : Cx) (pins : List (Addr × Obj)) (σ : List (Option V)) (H : Hp) (s : Shared) : Prop where
  ok : X.Ok
  os : s.os = X.s₀.os
  bare : AllBare s.gens
  base : Un X.fs X.ex X.H₀ H X.s₀.heap s.heap
  loc : ∃ m, s.heap.Ns X.env.locals m /\ ∀ (i : Nat) (x : Str) (v : V), X.N[i]? = some x -> σ[i]? = some (some v) -> Vis X.env.scope x -> ∃ u, RelV v u /\ FO X.env s.heap m x u
  cell : ∀ x c, X.env.cells.lookup x = some c -> ∃ v, s.heap.IsCell c v
  free : H X.env.locals = none
  freeC : ∀ x c, X.env.cells.lookup x = some c -> H c = none
  pin : ∀ p ∈ X.pn ++ pins, s.heap.get? p.1 = some p.2 /\ H p.1 = none /\ p.1 ≠ X.env.locals /\ p.1 ∉ X.fs /\ ∀ v, p.2.data ≠ .cell v
  hok : HOk X.prog X.w H s.heap
  len : σ.length = X.N.length
section
variable {X : Cx} {pins : List (Addr × Obj)} {σ : List (Option V)} {H H' : Hp} {s : Shared} {h' : Heap}
theorem Cx.Ok.nofr (ok : X.Ok) {b : Addr} {o : Obj} (e : X.base.get? b = some o) : b ∉ X.fs := fun hb => by
  have := (ok.funs.mem hb).1
  rw [e] at this; cases this
theorem Inv.bs (I : Inv X pins σ H s) : ∀ b o, X.base.get? b = some o -> s.heap.get? b = some o /\ H b = none := fun b o e =>
  ⟨I.base.keep b o (I.ok.bs b o e).1 (I.ok.bs b o e).2 (I.ok.nofr e) (I.ok.noex b o e), I.base.free b o (I.ok.bs b o e).1 (I.ok.bs b o e).2 (I.ok.noex b o e)⟩
theorem Inv.bk (I : Inv X pins σ H s) : ∀ b o, X.base.get? b = some o -> s.heap.get? b = some o := fun b o e => (I.bs b o e).1
theorem Inv.mod (I : Inv X pins σ H s) : Mod X.K X.mg X.base := I.ok.mod
theorem Inv.kIn (I : Inv X pins σ H s) : X.K.In s.heap := I.ok.mod.kin.keeps I.bk
theorem Inv.lt (I : Inv X pins σ H s) : X.env.locals < s.heap.objs.size := let ⟨_, hn, _⟩ := I.loc; hn.lt
theorem Inv.sz (I : Inv X pins σ H s) : X.s₀.heap.objs.size <= s.heap.objs.size := Nat.le_trans I.ok.above (Nat.le_of_lt I.lt)
theorem Inv.nofs (I : Inv X pins σ H s) {a : Addr} (h : s.heap.objs.size <= a) : a ∉ X.fs := fun hb => by
  obtain ⟨_, o, ho, _⟩ := I.ok.funs.mem hb
  exact absurd (Nat.lt_of_lt_of_le (Heap.lt_size ho) (Nat.le_trans I.sz h)) (Nat.lt_irrefl _)
theorem Inv.cne (I : Inv X pins σ H s) : ∀ x c, X.env.cells.lookup x = some c -> c ≠ X.env.locals := fun x c e z => by
  obtain ⟨v, o, ho, hd⟩ := I.cell x c e
  obtain ⟨m, ⟨o', es, ep, ho', hd', _⟩, _⟩ := I.loc
  rw [z, ho'] at ho; cases ho; rw [hd'] at hd; cases hd
theorem Inv.funs (I : Inv X pins σ H s) : s.heap.FunFrames X.base X.outer := by
  have all : ∀ (l : List Env), (∀ b ∈ frs l, b ∈ X.fs) -> X.s₀.heap.FunFrames X.base l -> s.heap.FunFrames X.base l := by
    intro l
    induction l with
    | nil => intro _ _; trivial
    | cons env r ih =>
      intro hs hl
      obtain ⟨hk, ⟨L, o, hf, hn, ho, hd⟩, hr⟩ := hl
      have hL : L ∈ X.fs := hs L (by unfold frs; rw [List.filterMap_cons, hf]; exact List.mem_cons_self)
      obtain ⟨sl, e⟩ := I.base.slot L o ho (I.ok.frf L hL) hL fun z => I.ok.exfs L z hL
      exact ⟨hk, ⟨L, _, hf, hn, e, hd⟩, ih (fun b hb => hs b (by unfold frs; rw [List.filterMap_cons, hf]; exact List.mem_cons_of_mem _ hb)) hr⟩
  exact all X.outer (fun _ hb => hb) I.ok.funs
theorem Inv.stack (I : Inv X pins σ H s) : s.heap.FunFrames X.base X.stack := by
  rcases I.ok.stk with e | ⟨e, hf⟩
  . rw [e]; exact I.funs
  . rw [e]
    obtain ⟨m, hn, _⟩ := I.loc
    refine .cons (by rw [I.ok.kind]; decide) hf hn ?_ I.funs
    exact Heap.get?_none_of_le (Nat.le_trans I.ok.bsz I.ok.above)
theorem Inv.stkSub (I : Inv X pins σ H s) : ∀ b ∈ frs X.stack, b ∈ X.env.locals :: X.fs := fun b hb => by
  rcases I.ok.stk with e | ⟨e, hf⟩
  . rw [e] at hb; exact List.mem_cons_of_mem _ hb
  . rw [e] at hb
    unfold frs at hb
    rw [List.filterMap_cons, hf] at hb
    exact hb
theorem Inv.stkFree (I : Inv X pins σ H s) : ∀ b ∈ frs X.stack, H b = none := fun b hb => by
  rcases List.mem_cons.mp (I.stkSub b hb) with e | hb
  . rw [e]; exact I.free
  . obtain ⟨_, o, ho, _⟩ := I.ok.funs.mem hb
    exact I.base.free b o ho (I.ok.frf b hb) fun z => I.ok.exfs b z hb
theorem Inv.step {g' : Array GenState} {t' : Nat} {d' : Drawn} {ch : List Addr} (I : Inv X pins σ H s)
    (hch : ∀ b ∈ ch, (b ∈ X.ex \/ X.s₀.heap.objs.size <= b) /\ b ≠ X.env.locals /\ (∀ x c, X.env.cells.lookup x = some c -> c ≠ b) /\ ∀ p ∈ X.pn ++ pins, p.1 ≠ b)
    (keep : ∀ b o, b ≠ X.env.locals -> b ∉ X.fs -> b ∉ ch -> s.heap.get? b = some o -> H b = none -> h'.get? b = some o)
    (slot : ∀ b o, b ≠ X.env.locals -> b ∈ X.fs -> b ∉ ch -> s.heap.get? b = some o -> H b = none -> ∃ sl, h'.get? b = some { o with slots := sl }) (free : ∀ b o, b ∉ ch -> s.heap.get? b = some o -> H b = none -> H' b = none)
    (there : ∀ b o, b ∉ ch -> s.heap.get? b = some o -> ∃ o', h'.get? b = some o')
    (tups : ∀ b xs, H b = some (.tup xs) -> H' b = some (.tup xs)) (frzs : ∀ b o u, H b = some (.frz o u) -> H' b = some (.frz o u)) (tbls : ∀ b ps, H b = some (.tbl ps) -> ∃ more, H' b = some (.tbl (ps ++ more)))
    (ns : ∀ m, s.heap.Ns X.env.locals m -> h'.Ns X.env.locals m) (hok : HOk X.prog X.w H' h') (hg : AllBare g') :
    Inv X pins σ H' { s with heap := h', gens := g', drawn := d', toks := t' } := by
  have neL : ∀ b o, X.s₀.heap.get? b = some o -> b ≠ X.env.locals := fun b o e => Nat.ne_of_lt (Nat.lt_of_lt_of_le (Heap.lt_size e) I.ok.above)
  have neC : ∀ b o, X.s₀.heap.get? b = some o -> b ∉ X.ex -> b ∉ ch := fun b o e hx hb => by
    rcases (hch b hb).1 with z | z
    . exact hx z
    . exact absurd (Nat.lt_of_lt_of_le (Heap.lt_size e) z) (Nat.lt_irrefl _)
  have cellK : ∀ x c, X.env.cells.lookup x = some c -> ∀ v, s.heap.IsCell c v -> h'.IsCell c v := fun x c e v ⟨o, ho, hd⟩ => by
    have nch : c ∉ ch := fun z => (hch c z).2.2.1 x c e rfl
    by_cases hc : c ∈ X.fs
    . obtain ⟨sl, q⟩ := slot c o (I.cne x c e) hc nch ho (I.freeC x c e)
      exact ⟨_, q, hd⟩
    . exact ⟨o, keep c o (I.cne x c e) hc nch ho (I.freeC x c e), hd⟩
  refine ⟨I.ok, I.os, hg, ⟨fun b o e n hb hx => ?_, fun b o e n hb hx => ?_, fun b o e n hx => ?_, fun b o e hx => ?_, fun b xs e => tups b xs (I.base.tups b xs e), fun b o xs e => frzs b o xs (I.base.frzs b o xs e), fun b ps e => ?_⟩, ?_, fun x c e => ?_, ?_, fun x c e => ?_, fun p hp => ?_, hok, I.len⟩
  . exact keep b o (neL b o e) hb (neC b o e hx) (I.base.keep b o e n hb hx) (I.base.free b o e n hx)
  . obtain ⟨sl, e1⟩ := I.base.slot b o e n hb hx
    obtain ⟨sl', e2⟩ := slot b _ (neL b o e) hb (neC b o e hx) e1 (I.base.free b o e n hx)
    exact ⟨sl', e2⟩
  . obtain ⟨o', e1⟩ := I.base.there b o e hx
    exact free b o' (neC b o e hx) e1 (I.base.free b o e n hx)
  . obtain ⟨o', e1⟩ := I.base.there b o e hx
    exact there b o' (neC b o e hx) e1
  . obtain ⟨m1, e1⟩ := I.base.tbls b ps e
    obtain ⟨m2, e2⟩ := tbls b _ e1
    exact ⟨m1 ++ m2, by rw [e2, Array.append_assoc]⟩
  . obtain ⟨m, hn, hl⟩ := I.loc
    refine ⟨m, ns m hn, fun i x v e1 e2 e3 => ?_⟩
    obtain ⟨u, r, l⟩ := hl i x v e1 e2 e3
    refine ⟨u, r, ?_⟩
    rcases l with l | ⟨k, c, e, z⟩
    . exact .inl l
    . exact .inr ⟨k, c, e, cellK x c e _ z⟩
  . obtain ⟨v, z⟩ := I.cell x c e
    exact ⟨v, cellK x c e v z⟩
  . obtain ⟨m, ⟨o, _, _, ho, _⟩, _⟩ := I.loc
    exact free _ o (fun z => (hch _ z).2.1 rfl) ho I.free
  . obtain ⟨v, o, ho, hd⟩ := I.cell x c e
    exact free c o (fun z => (hch c z).2.2.1 x c e rfl) ho (I.freeC x c e)
  . obtain ⟨e, n, ne, nf, d⟩ := I.pin p hp
    have nch : p.1 ∉ ch := fun z => (hch p.1 z).2.2.2 p hp rfl
    exact ⟨keep p.1 p.2 ne nf nch e n, free p.1 p.2 nch e n, ne, nf, d⟩
theorem Inv.un {t' : Nat} (I : Inv X pins σ H s) (u : Un X.fs [] H H' s.heap h') (hok : HOk X.prog X.w H' h') : Inv X pins σ H' { s with heap := h', toks := t' } := by
  obtain ⟨m, ⟨o, es, ep, ho, r⟩, _⟩ := id I.loc
  obtain ⟨sl, hL⟩ := u.any ho I.free (by simp)
  exact I.step (g' := s.gens) (d' := s.drawn) (ch := []) (fun _ z => nomatch z) (fun b o _ hb _ e n => u.keep b o e n hb (by simp)) (fun b o _ hb _ e n => u.slot b o e n hb (by simp)) (fun b o _ e n => u.free b o e n (by simp)) (fun b o _ e => u.there b o e (by simp)) u.tups u.frzs u.tbls (fun m' hm => by
    obtain ⟨o', es', ep', ho', r'⟩ := hm
    rw [ho] at ho'; cases ho'
    exact ⟨_, es', ep', hL, r'⟩) hok I.bare
theorem Inv.call {g' : Array GenState} {t' : Nat} {d' : Drawn} {ch : List Addr} (I : Inv X pins σ H s) (u : Un (frs X.stack) ch H H' s.heap h') (hok : HOk X.prog X.w H' h') (hg : AllBare g')
    (hch : ∀ b ∈ ch, (b ∈ X.ex \/ X.s₀.heap.objs.size <= b) /\ b ≠ X.env.locals /\ (∀ x c, X.env.cells.lookup x = some c -> c ≠ b) /\ ∀ p ∈ X.pn ++ pins, p.1 ≠ b) :
    Inv X pins σ H' { s with heap := h', gens := g', drawn := d', toks := t' } := by
  obtain ⟨m, ⟨o, es, ep, ho, r⟩, _⟩ := id I.loc
  obtain ⟨sl, hL⟩ := u.any ho I.free fun z => (hch _ z).2.1 rfl
  exact I.step (ch := ch) hch (fun b o hL hb hc e n => u.keep b o e n (fun z => (List.mem_cons.mp (I.stkSub b z)).elim hL hb) hc) (fun b o _ _ hc e n => u.any e n hc) (fun b o hc e n => u.free b o e n hc) (fun b o hc e => u.there b o e hc) u.tups u.frzs u.tbls (fun m' hm => by
    obtain ⟨o', es', ep', ho', r'⟩ := hm
    rw [ho] at ho'; cases ho'
    exact ⟨_, es', ep', hL, r'⟩) hok hg
theorem Inv.turned {t' : Nat} {it : Addr} (I : Inv X pins σ H s) (k : ∀ b o, b ≠ it -> s.heap.get? b = some o -> h'.get? b = some o) (hn : H it = none) (hL : it ≠ X.env.locals)
    (h1 : it ∈ X.ex \/ X.s₀.heap.objs.size <= it) (h2 : ∀ x c, X.env.cells.lookup x = some c -> c ≠ it) (h3 : ∀ p ∈ X.pn ++ pins, p.1 ≠ it) : Inv X pins σ H { s with heap := h', toks := t' } := by
  have nit : ∀ b u, H b = some u -> b ≠ it := fun b u e z => by rw [z, hn] at e; cases e
  refine I.step (g' := s.gens) (d' := s.drawn) (ch := [it]) (fun b hb => ?_) (fun b o _ _ hc e _ => k b o (fun z => hc (by simp [z])) e) (fun b o _ _ hc e _ => ⟨o.slots, k b o (fun z => hc (by simp [z])) e⟩) (fun _ _ _ _ n => n)
    (fun b o hc e => ⟨o, k b o (fun z => hc (by simp [z])) e⟩) (fun _ _ e => e) (fun _ _ _ e => e) (fun b ps e => ⟨#[], by rw [e]; simp⟩) (fun m hm => ?_) (fun b u e => ?_) I.bare
  . have e : b = it := by simpa using hb
    subst e
    exact ⟨h1, hL, h2, h3⟩
  . obtain ⟨o, es, ep, ho, r⟩ := hm
    exact ⟨o, es, ep, k _ o (Ne.symm hL) ho, r⟩
  . refine (I.hok b u e).stay (fun c v hc q => k c v ?_ q) (fun _ q => q) fun _ _ q => q
    rcases hc with z | z
    . rw [z]; exact nit b u e
    . exact nit c _ z
theorem Inv.tok (I : Inv X pins σ H s) (t : Nat) : Inv X pins σ H { s with toks := t } := I.un (h' := s.heap) (t' := t) Un.refl I.hok
theorem Inv.kept {t' : Nat} (I : Inv X pins σ H s) (k : ∀ b u, s.heap.get? b = some u -> h'.get? b = some u) : Inv X pins σ H { s with heap := h', toks := t' } := I.un (Un.kept k) (I.hok.kept k)
theorem Inv.laid {a : Addr} {o : HO} {t' : Nat} (I : Inv X pins σ H s) (k : ∀ b u, s.heap.get? b = some u -> h'.get? b = some u) (hp : s.heap.objs.size <= a) (new : ObjOk X.prog X.w (upd H a o) h' a o) :
    Inv X pins σ (upd H a o) { s with heap := h', toks := t' } := I.un (Un.laid k hp (I.hok.fresh hp)) (I.hok.laid k hp new)
theorem Inv.write {x e : Addr} {o : HO} {t' : Nat} (I : Inv X pins σ H s) (mu : Mut (H x)) (he : e = x \/ H e = some (.own x)) (k : ∀ b u, b ≠ e -> s.heap.get? b = some u -> h'.get? b = some u) (heo : ∃ u, h'.get? e = some u)
    (new : ObjOk X.prog X.w (upd H x o) h' x o) : Inv X pins σ (upd H x o) { s with heap := h', toks := t' } := I.un (Un.write mu he k heo) (I.hok.write mu he k heo new)
theorem Inv.pins_of {pins' : List (Addr × Obj)} (I : Inv X pins σ H s) (h : ∀ p ∈ pins', s.heap.get? p.1 = some p.2 /\ H p.1 = none /\ p.1 ≠ X.env.locals /\ p.1 ∉ X.fs /\ ∀ v, p.2.data ≠ .cell v) : Inv X pins' σ H s :=
  ⟨I.ok, I.os, I.bare, I.base, I.loc, I.cell, I.free, I.freeC, fun p hp => (List.mem_append.mp hp).elim (fun z => I.pin p (List.mem_append_left _ z)) (h p), I.hok, I.len⟩
theorem uF {N : List Str} (hN : N.Nodup) {i j : Nat} {x : Str} (a : N[i]? = some x) (b : N[j]? = some x) : i = j := by
  obtain ⟨h1, e1⟩ := List.getElem?_eq_some_iff.mp a
  obtain ⟨h2, e2⟩ := List.getElem?_eq_some_iff.mp b
  exact (List.getElem_inj hN).mp (e1.trans e2.symm)
theorem qQ {M : Model} {A : Around} {E : Value -> Shared -> Prop} {i : Nat} {x : Str} {v : V} {u : Value} {Q : Unit -> Shared -> Prop} (I : Inv X pins σ H s) (hN : X.N.Nodup) (hi : X.N[i]? = some x) (hx : Loc X.env.scope x) (r : RelV v u)
    (h : ∀ s', Inv X pins (σ.set i (some v)) H s' -> (∃ a, Heap.SameBut a s.heap s'.heap /\ (a = X.env.locals \/ X.env.cells.lookup x = some a)) -> Q () s') (hf : X.fn x = true \/ X.env.scope.names.lookup x = some .local := by first | exact .inl rfl | exact .inr rfl | assumption) : wpAny M A (storeName X.env x u) Q E s := by
  obtain ⟨m, hn, hl⟩ := id I.loc
  have hcls : (X.env.scope.kind == .class || (X.env.scope.kind == .module && X.env.locals != X.env.globals)) = false := by rw [I.ok.kind]; rfl
  have hiσ : i < σ.length := by rw [I.len]; exact (List.getElem?_eq_some_iff.mp hi).1
  have cne := I.cne
  have tracked : ∀ {a : Addr} {h' : Heap}, (∃ o, s.heap.get? a = some o /\ H a = none) -> Heap.SameBut a s.heap h' -> HOk X.prog X.w H h' := fun {a h'} ha hs b ob e => by
    obtain ⟨_, _, hfree⟩ := ha
    refine (I.hok b ob e).stay (fun c w' hc q => (hs.2 c ?_).trans q) (fun _ q => q) fun _ _ q => q
    rintro rfl
    rcases hc with rfl | hc
    . rw [hfree] at e; cases e
    . rw [hfree] at hc; cases hc
  rcases hx with hk | hk
  . refine wpAny_storeName_local hk hn (fun h' hn' hs => ?_) hcls
    obtain ⟨oL, _, _, hoL, _⟩ := id hn
    refine h _ ⟨I.ok, I.os, I.bare, ⟨fun b o e n hb hx => ?_, fun b o e n hb hx => ?_, I.base.free, fun b o e hx => ?_, I.base.tups, I.base.frzs, I.base.tbls⟩, ⟨_, hn', fun j y v' e1 e2 e3 => ?_⟩, fun y c e => ?_, I.free, I.freeC, fun p hp => ?_, tracked ⟨oL, hoL, I.free⟩ hs, by simpa using I.len⟩ ⟨_, hs, .inl rfl⟩
    . exact (hs.2 b (Nat.ne_of_lt (Nat.lt_of_lt_of_le (Heap.lt_size e) I.ok.above))).trans (I.base.keep b o e n hb hx)
    . obtain ⟨sl, e1⟩ := I.base.slot b o e n hb hx
      exact ⟨sl, (hs.2 b (Nat.ne_of_lt (Nat.lt_of_lt_of_le (Heap.lt_size e) I.ok.above))).trans e1⟩
    . obtain ⟨o', e1⟩ := I.base.there b o e hx
      exact ⟨o', (hs.2 b (Nat.ne_of_lt (Nat.lt_of_lt_of_le (Heap.lt_size e) I.ok.above))).trans e1⟩
    . by_cases hj : j = i
      . subst hj
        rw [hi] at e1; cases e1
        rw [List.getElem?_set_self hiσ] at e2
        cases e2
        exact ⟨u, r, .inl ⟨hk, by simp⟩⟩
      . rw [List.getElem?_set_ne (Ne.symm hj)] at e2
        obtain ⟨u', r', q⟩ := hl j y v' e1 e2 e3
        refine ⟨u', r', ?_⟩
        rcases q with ⟨k, e⟩ | ⟨k, c, e, z⟩
        . refine .inl ⟨k, ?_⟩
          have : y ≠ x := fun e => hj (uF hN e1 (e ▸ hi))
          simp [this, e]
        . exact .inr ⟨k, c, e, z.sameBut hs (cne y c e)⟩
    . obtain ⟨w', z⟩ := I.cell y c e
      exact ⟨w', z.sameBut hs (cne y c e)⟩
    . obtain ⟨e, n, ne, nf, d⟩ := I.pin p hp
      exact ⟨(hs.2 p.1 ne).trans e, n, ne, nf, d⟩
  . have hfn : X.fn x = true := by
      rcases hf with z | z
      . exact z
      . rw [z] at hk; cases hk
    obtain ⟨c, hc⟩ := I.ok.has x (.inl hk)
    obtain ⟨w', z⟩ := I.cell x c hc
    refine wpAny_storeName_cell I.ok.kind hk hc z (fun h' hc' hs => ?_)
    obtain ⟨oc, hoc, hocd⟩ := id z
    refine h { s with heap := h' } ⟨I.ok, I.os, I.bare, ⟨fun b o e n hb hx => ?_, fun b o e n hb hx => ?_, I.base.free, fun b o e hx => ?_, I.base.tups, I.base.frzs, I.base.tbls⟩, ⟨m, hn.sameBut hs (Ne.symm (cne x c hc)), fun j y v' e1 e2 e3 => ?_⟩, fun y c' e => ?_, I.free, I.freeC, fun p hp => ?_, tracked ⟨oc, hoc, I.freeC x c hc⟩ hs, by simpa using I.len⟩ ⟨c, hs, .inr hc⟩
    . exact (hs.2 b (Nat.ne_of_lt (Nat.lt_of_lt_of_le (Heap.lt_size e) (I.ok.cab x c hfn hc)))).trans (I.base.keep b o e n hb hx)
    . obtain ⟨sl, e1⟩ := I.base.slot b o e n hb hx
      exact ⟨sl, (hs.2 b (Nat.ne_of_lt (Nat.lt_of_lt_of_le (Heap.lt_size e) (I.ok.cab x c hfn hc)))).trans e1⟩
    . obtain ⟨o', e1⟩ := I.base.there b o e hx
      exact ⟨o', (hs.2 b (Nat.ne_of_lt (Nat.lt_of_lt_of_le (Heap.lt_size e) (I.ok.cab x c hfn hc)))).trans e1⟩
    . by_cases hj : j = i
      . subst hj
        rw [hi] at e1; cases e1
        rw [List.getElem?_set_self hiσ] at e2
        cases e2
        exact ⟨u, r, .inr ⟨.inl hk, c, hc, hc'⟩⟩
      . rw [List.getElem?_set_ne (Ne.symm hj)] at e2
        obtain ⟨u', r', q⟩ := hl j y v' e1 e2 e3
        refine ⟨u', r', ?_⟩
        rcases q with q | ⟨k, c', e, z'⟩
        . exact .inl q
        . refine .inr ⟨k, c', e, z'.sameBut hs ?_⟩
          rintro rfl
          exact hj (uF hN e1 (I.ok.inj _ _ _ e hc ▸ hi))
    . by_cases hcc : c' = c
      . subst hcc; exact ⟨_, hc'⟩
      . obtain ⟨w2, z2⟩ := I.cell y c' e
        exact ⟨w2, z2.sameBut hs hcc⟩
    . obtain ⟨e, n, ne, nf, d⟩ := I.pin p hp
      refine ⟨(hs.2 p.1 ?_).trans e, n, ne, nf, d⟩
      intro q
      rw [q, hoc] at e
      have q' : oc = p.2 := Option.some.inj e
      exact d w' (by rw [<- q']; exact hocd)
theorem uj {M : Model} {A : Around} {E : Value -> Shared -> Prop} {i : Nat} {x : Str} {v : V} {u : Value} {Q : Unit -> Shared -> Prop} (I : Inv X pins σ H s) (hN : X.N.Nodup) (hi : X.N[i]? = some x) (hx : Loc X.env.scope x) (r : RelV v u)
    (h : ∀ s', Inv X pins (σ.set i (some v)) H s' -> Q () s') (hf : X.fn x = true \/ X.env.scope.names.lookup x = some .local := by first | exact .inl rfl | exact .inr rfl | assumption) : wpAny M A (storeName X.env x u) Q E s :=
  qQ I hN hi hx r (fun s' I' _ => h s' I') hf
theorem Inv.call' {s' : Shared} {ch : List Addr} (I : Inv X pins σ H s) (ho : s'.os = s.os) (u : Un (frs X.stack) ch H H' s.heap s'.heap) (hok : HOk X.prog X.w H' s'.heap) (hg : AllBare s'.gens)
    (hch : ∀ b ∈ ch, (b ∈ X.ex \/ X.s₀.heap.objs.size <= b) /\ b ≠ X.env.locals /\ (∀ x c, X.env.cells.lookup x = some c -> c ≠ b) /\ ∀ p ∈ X.pn ++ pins, p.1 ≠ b) : Inv X pins σ H' s' := by
  obtain ⟨h', g', d', t', o'⟩ := s'
  have e : o' = s.os := ho
  subst e
  exact I.call (g' := g') (t' := t') (d' := d') u hok hg hch
end
abbrev XK := Value -> Option Addr -> Hp -> Prop
abbrev St := List (Option V)
abbrev VK := V -> Hp -> Prop
abbrev TE := St -> Hp -> VK -> Prop
abbrev TT := St -> Hp -> (Bool -> Hp -> Prop) -> Prop
abbrev TA := St -> Hp -> (List V -> Hp -> Prop) -> Prop
structure fq where
  nx : St -> Hp -> Prop
  rt : VK
  bk : St -> Hp -> Prop := fun _ _ => False
  ct : St -> Hp -> Prop := fun _ _ => False
abbrev TS := fq -> St -> Hp -> Prop
def EP (X : Cx) (pins : List (Addr × Obj)) (σ : St) (Q : VK) (u : Value) (s' : Shared) : Prop := ∃ v H', Inv X pins σ H' s' /\ RelV v u /\ Q v H'
def TP (X : Cx) (pins : List (Addr × Obj)) (σ : St) (Q : Bool -> Hp -> Prop) (b : Bool) (s' : Shared) : Prop := ∃ H', Inv X pins σ H' s' /\ Q b H'
def AP (X : Cx) (pins : List (Addr × Obj)) (σ : St) (Q : List V -> Hp -> Prop) (us : List Value) (s' : Shared) : Prop := ∃ vs H', Inv X pins σ H' s' /\ Vals vs us /\ Q vs H'
def SP (X : Cx) (pins : List (Addr × Obj)) (D : fq) (f : Flow) (s' : Shared) : Prop :=
  match f with
  | .next => ∃ σ' H', Inv X pins σ' H' s' /\ D.nx σ' H'
  | .brk => ∃ σ' H', Inv X pins σ' H' s' /\ D.bk σ' H'
  | .cont => ∃ σ' H', Inv X pins σ' H' s' /\ D.ct σ' H'
  | .ret u => ∃ v σ' H', Inv X pins σ' H' s' /\ RelV v u /\ D.rt v H'
def PE (X : Cx) (e : Expr) (t : TE) : Prop :=
  ∀ (pins : List (Addr × Obj)) (s : Shared) (σ : St) (H : Hp) (Q : VK), Inv X pins σ H s -> t σ H Q -> wpAny (model X.prog X.w) X.A (eval e X.env) (EP X pins σ Q) X.xe s
def PT (X : Cx) (e : Expr) (t : TT) : Prop :=
  ∀ (pins : List (Addr × Obj)) (s : Shared) (σ : St) (H : Hp) (Q : Bool -> Hp -> Prop), Inv X pins σ H s -> t σ H Q -> wpAny (model X.prog X.w) X.A (isTrue e X.env (eval e X.env)) (TP X pins σ Q) X.xe s
def PW (X : Cx) (e : Expr) (t : TT) : Prop :=
  ∀ (whole : Sem Value) (pins : List (Addr × Obj)) (s : Shared) (σ : St) (H : Hp) (Q : Bool -> Hp -> Prop), Inv X pins σ H s -> t σ H Q -> wpAny (model X.prog X.w) X.A (isTrue e X.env whole) (TP X pins σ Q) X.xe s
theorem PW.pt {X : Cx} {e : Expr} {t : TT} (h : PW X e t) : PT X e t := h _
def PA (X : Cx) (es : List Expr) (t : TA) : Prop :=
  ∀ (pos : Pos) (pins : List (Addr × Obj)) (s : Shared) (σ : St) (H : Hp) (Q : List V -> Hp -> Prop), Inv X pins σ H s -> t σ H Q -> wpAny (model X.prog X.w) X.A (spliced (backTo pos (starEach es X.env))) (AP X pins σ Q) X.xe s
def PS (X : Cx) (st : Stmt) (t : TS) : Prop :=
  ∀ (pins : List (Addr × Obj)) (s : Shared) (σ : St) (H : Hp) (D : fq), Inv X pins σ H s -> t D σ H -> wpAny (model X.prog X.w) X.A (exec st X.env) (SP X pins D) X.xe s
def PSs (X : Cx) (st : List Stmt) (t : TS) : Prop :=
  ∀ (pins : List (Addr × Obj)) (s : Shared) (σ : St) (H : Hp) (D : fq), Inv X pins σ H s -> t D σ H -> wpAny (model X.prog X.w) X.A (execs st X.env) (SP X pins D) X.xe s
theorem thn {α : Type} {t : Sem α} {Q Q' : α -> Shared -> Prop} {M : Model} {A : Around} {E : Value -> Shared -> Prop} {s : Shared} (h : wpAny M A t Q E s) (hQ : ∀ a s, Q a s -> Q' a s) : wpAny M A t Q' E s := wpAny_mono h hQ fun _ _ x => x
end L2
namespace L2
open PySem PySem.Spec PyProof.Rows
section
variable {X : Cx}
theorem bin {a b : Expr} {ta tb : TE} (ha : PE X a ta) (hb : PE X b tb) {pins : List (Addr × Obj)} {s : Shared} {σ : St} {H : Hp} {R : V -> V -> Hp -> Prop} (I : Inv X pins σ H s) (h : ta σ H fun x H1 => tb σ H1 fun y H2 => R x y H2)
    {α : Type} {Q : α -> Shared -> Prop} {f : Value -> Value -> Sem α}
    (hf : ∀ v u s2 x y H2, Inv X pins σ H2 s2 -> RelV x v -> RelV y u -> R x y H2 -> wpAny (model X.prog X.w) X.A (f v u) Q X.xe s2) :
    wpAny (model X.prog X.w) X.A (eval a X.env) (fun v s₁ => wpAny (model X.prog X.w) X.A (eval b X.env) (fun u s₂ => wpAny (model X.prog X.w) X.A (f v u) Q X.xe s₂) X.xe s₁) X.xe s := by
  refine thn (ha pins s σ H _ I h) fun v s1 ⟨x, H1, I1, r1, q1⟩ => ?_
  refine thn (hb pins s1 σ H1 _ I1 q1) fun u s2 ⟨y, H2, I2, r2, q2⟩ => ?_
  exact hf v u s2 x y H2 I2 r1 r2 q2
def Fu (i : Nat) : TE := fun σ H Q => ∃ v, σ[i]? = some (some v) /\ Q v H
def tC (v : V) : TE := fun _ H Q => Q v H
theorem Ev {i : Nat} {x : Str} {pos : Pos} (hN : X.N[i]? = some x) (hv : Vis X.env.scope x) (hd : (x == ("__debug__" : Str)) = false := by decide) (hcd : (x == ("__classdict__" : Str)) = false := by decide) : PE X (.Name x pos) (Fu i) := by
  intro pins s σ H Q I h
  obtain ⟨v, e, h⟩ := h
  obtain ⟨m, hn, hl⟩ := I.loc
  obtain ⟨u, r, l⟩ := hl i x v hN e hv
  have fin : EP X pins σ Q u s := ⟨v, H, I, r, h⟩
  rcases l with ⟨hk, hm⟩ | ⟨hk, c, hc, hcell⟩
  . exact wpAny_Name (wpAny_loadName_local I.ok.kind hk hn hm fin) hd
  . rcases hk with hk | hk
    . exact wpAny_Name (wpAny_loadName_cell I.ok.kind hk hc hcell fin) hd
    . exact wpAny_Name (wpAny_loadName_free I.ok.kind hk hc hcell fin hcd) hd
theorem ae {i j pos} : PE X (.Constant (.int i) j pos) (tC (.int i)) := fun _ _ _ H _ I h => wpAny_Constant_int ⟨.int i, H, I.tok _, ⟨_, rfl⟩, h⟩
theorem tZ {b j pos} : PE X (.Constant (.bool b) j pos) (tC (.bl b)) := fun _ _ _ H _ I h => Constant_bool ⟨.bl b, H, I, rfl, h⟩
theorem fL {j pos} : PE X (.Constant .none j pos) (tC .non) := fun _ _ _ H _ I h => Constant_none ⟨.non, H, I, rfl, h⟩
theorem Db {x j pos} : PE X (.Constant (.str x) j pos) (tC (.str x)) := fun _ _ _ H _ I h => Calls.Constant_str ⟨.str x, H, I.tok _, ⟨_, rfl⟩, h⟩
def Gl (X : Cx) (x : Str) : Prop := X.env.kindOf x = some .globalImplicit
theorem kM {E : Value -> Shared -> Prop} {pins : List (Addr × Obj)} {s : Shared} {σ : St} {H : Hp} {x : Str} {u : Value} {pos : Pos} {Q : Value -> Shared -> Prop} (I : Inv X pins σ H s) (hg : Gl X x) (hm : X.mg x = some u) (h : Q u s)
    (hd : (x == ("__debug__" : Str)) = false := by decide) : wpAny (model X.prog X.w) X.A (eval (.Name x pos) X.env) Q E s :=
  Calls.Name_function_global I.ok.kind hg (Calls.loadGlobal_global (by rw [I.ok.glob]; exact I.mod.glob.keeps I.bk) hm h) hd
theorem oa {E : Value -> Shared -> Prop} {pins : List (Addr × Obj)} {s : Shared} {σ : St} {H : Hp} {x : Str} {u : Value} {pos : Pos} {Q : Value -> Shared -> Prop} (I : Inv X pins σ H s) (hg : Gl X x) (hm : X.mg x = none) (hv : bootBuiltins x = some u) (h : Q u s)
    (hn : x ≠ "__name__" := by decide) (hd : (x == ("__debug__" : Str)) = false := by decide) : wpAny (model X.prog X.w) X.A (eval (.Name x pos) X.env) Q E s := by
  obtain ⟨mb, h1, h2⟩ := I.mod.blt
  exact Calls.Name_function_global I.ok.kind hg (Calls.loadGlobal_builtin (by rw [I.ok.glob]; exact I.mod.glob.keeps I.bk) hm (by rw [I.ok.blt]; exact h1.keeps I.bk) ((h2 x hn).trans hv) h) hd
theorem xy {x : Str} {v : V} {u : Value} {pos : Pos} (hg : Gl X x) (hm : X.mg x = some u) (r : RelV v u) (hd : (x == ("__debug__" : Str)) = false := by decide) : PE X (.Name x pos) (tC v) :=
  fun _ _ _ H _ I h => kM I hg hm ⟨v, H, I, r, h⟩ hd
theorem eC {x : Str} {v : V} {u : Value} {pos : Pos} (hg : Gl X x) (hm : X.mg x = none) (hv : bootBuiltins x = some u) (r : RelV v u) (hn : x ≠ "__name__" := by decide) (hd : (x == ("__debug__" : Str)) = false := by decide) : PE X (.Name x pos) (tC v) :=
  fun _ _ _ H _ I h => oa I hg hm hv ⟨v, H, I, r, h⟩ hn hd
variable {a b : Expr} {ta tb : TE} {pos : Pos}
def PC (X : Cx) (op : CmpOp) (a b : Expr) (t : TE) : Prop :=
  ∀ (pins : List (Addr × Obj)) (s : Shared) (σ : St) (H : Hp) (Q : VK), Inv X pins σ H s -> t σ H Q ->
    wpAny (model X.prog X.w) X.A (eval a X.env) (fun v s₁ => wpAny (model X.prog X.w) X.A (eval b X.env) (fun u s₂ => wpAny (model X.prog X.w) X.A (compareOp op v u) (EP X pins σ Q) X.xe s₂) X.xe s₁) X.xe s
theorem uG (b : Expr) {op : CmpOp} (h : op ≠ .In) (h2 : op ≠ .NotIn) : behindInMarks op b = false := by
  have e1 : (op == CmpOp.In) = false := by cases op <;> first | rfl | exact absurd rfl h
  have e2 : (op == CmpOp.NotIn) = false := by cases op <;> first | rfl | exact absurd rfl h2
  cases b <;> simp [behindInMarks, e1, e2]
def ER (ta : TE) : TE := fun σ H Q => ta σ H fun x H1 => Q (.bl (decide (x = .non))) H1
def Cs (ta : TE) : TE := fun σ H Q => ta σ H fun x H1 => Q (.bl (!decide (x = .non))) H1
theorem RelV.none_iff {x : V} {v : Value} (r : RelV x v) : (v == Value.none) = decide (x = .non) := by
  cases x with
  | non => cases r; rfl
  | bl _ => cases r; rfl
  | int _ => obtain ⟨t, rfl⟩ := r; rfl
  | str _ => obtain ⟨t, rfl⟩ := r; rfl
  | byt _ => obtain ⟨t, rfl⟩ := r; rfl
  | flt _ => obtain ⟨t, rfl⟩ := r; rfl
  | ref _ => cases r; rfl
  | ty _ => cases r; rfl
theorem zf {j pos'} (ha : PE X a ta) : PC X .Is a (.Constant .none j pos') (ER ta) := by
  intro pins s σ H Q I h
  refine thn (ha pins s σ H _ I h) fun v s1 ⟨x, H1, I1, r1, q1⟩ => ?_
  exact Constant_none (is_none_gen ⟨.bl _, H1, I1, by rw [r1.none_iff]; rfl, q1⟩)
theorem lj {j pos'} (ha : PE X a ta) : PC X .IsNot a (.Constant .none j pos') (Cs ta) := by
  intro pins s σ H Q I h
  refine thn (ha pins s σ H _ I h) fun v s1 ⟨x, H1, I1, r1, q1⟩ => ?_
  exact Constant_none (isnot_none_gen ⟨.bl _, H1, I1, by rw [r1.none_iff]; rfl, q1⟩)
theorem vM {op : CmpOp} {t : TE} (h : PC X op a b t) (h1 : behindInMarks op b = false := by first | exact uG _ (by decide) (by decide) | rfl) : PE X (.Compare a [op] [b] pos) t := fun pins s σ H Q I hw => wpAny_Compare1 (h pins s σ H Q I hw) h1
variable {tA tB' : TT} {rest : List Expr}
def Fc (t u : TT) : TT := fun σ H Q => t σ H fun c H1 => if c = true then u σ H1 Q else Q false H1
def tOr (t u : TT) : TT := fun σ H Q => t σ H fun c H1 => if c = true then Q true H1 else u σ H1 Q
def Fm (t : TT) : TT := fun σ H Q => t σ H fun c H1 => Q (!c) H1
theorem r9 (ha : PT X a tA) : PW X (.BoolOp .And [a] pos) tA := by
  intro wh pins s σ H Q I h
  refine isTrue_and (thn (ha pins s σ H Q I h) fun c s1 e => ?_)
  cases c with
  | true => exact isTrue_and_nil e
  | false => exact e
theorem wm (ha : PT X a tA) : PW X (.BoolOp .Or [a] pos) tA := by
  intro wh pins s σ H Q I h
  refine isTrue_or (thn (ha pins s σ H Q I h) fun c s1 e => ?_)
  cases c with
  | false => exact isTrue_or_nil e
  | true => exact e
theorem vE (ha : PT X a tA) (hb : PW X (.BoolOp .And (b :: rest) pos) tB') : PW X (.BoolOp .And (a :: b :: rest) pos) (Fc tA tB') := by
  intro wh pins s σ H Q I h
  refine isTrue_and (thn (ha pins s σ H _ I h) fun c s1 ⟨H1, I1, q1⟩ => ?_)
  cases c with
  | true => exact hb wh pins s1 σ H1 Q I1 q1
  | false => exact ⟨H1, I1, q1⟩
theorem wZ (ha : PT X a tA) (hb : PW X (.BoolOp .Or (b :: rest) pos) tB') : PW X (.BoolOp .Or (a :: b :: rest) pos) (tOr tA tB') := by
  intro wh pins s σ H Q I h
  refine isTrue_or (thn (ha pins s σ H _ I h) fun c s1 ⟨H1, I1, q1⟩ => ?_)
  cases c with
  | true => exact ⟨H1, I1, q1⟩
  | false => exact hb wh pins s1 σ H1 Q I1 q1
theorem gz (ha : PT X a tA) : PT X (.UnaryOp .Not a pos) (Fm tA) := by
  intro pins s σ H Q I h
  exact isTrue_not (ha pins s σ H (fun c H1 => Q (!c) H1) I h)
theorem dR {op} {t : TE} (h : PE X a t) : PE X (.BoolOp op [a] pos) t := fun pins s σ H Q I hw => BoolOp_one (h pins s σ H Q I hw)
def tIf (t : TT) (ta tb : TE) : TE := fun σ H Q => t σ H fun c H1 => if c = true then ta σ H1 Q else tb σ H1 Q
theorem yS {c : Expr} (hc : PT X c tA) (ha : PE X a ta) (hb : PE X b tb) : PE X (.IfExp c a b pos) (tIf tA ta tb) := by
  intro pins s σ H Q I h
  refine wpAny_IfExp (thn (hc pins s σ H _ I h) fun d s1 ⟨H1, I1, q1⟩ => ?_)
  cases d with
  | true => exact ha pins s1 σ H1 Q I1 q1
  | false => exact hb pins s1 σ H1 Q I1 q1
end
end L2
namespace L2
open PySem PySem.Spec PyProof.Rows
def SqL (K : PySem.W.Frag) (H : Hp) (a : Addr) (xs : List V) : Prop :=
  Rd H a (.lst xs) \/
    ∃ (o : Obj) (its : Array Value) (n : Nat), K.lookup a = some o /\ o.cls = .type "list" /\ o.dict = none /\ o.data = .seq its n /\ its.size <= sizeLine /\ Vals xs its.toList
def SqT (K : PySem.W.Frag) (H : Hp) (a : Addr) (xs : List V) : Prop :=
  Rd H a (.tup xs) \/
    ∃ (o : Obj) (its : Array Value) (n : Nat), K.lookup a = some o /\ o.cls = .type "tuple" /\ o.data = .seq its n /\ its.size <= sizeLine /\ Vals xs its.toList
def Fy : Value -> Option V
  | .none => some .non
  | .bool b => some (.bl b)
  | .int i _ => some (.int i)
  | .str x _ => some (.str x)
  | .bytes b _ => some (.byt b)
  | .float b _ => some (.flt b)
  | .ref a => some (.ref a)
  | .type n => some (.ty n)
  | _ => none
theorem RelV.abs {x : V} {u : Value} (r : RelV x u) : Fy u = some x := by
  cases x with
  | non => cases r; rfl
  | bl _ => cases r; rfl
  | int _ => obtain ⟨t, rfl⟩ := r; rfl
  | str _ => obtain ⟨t, rfl⟩ := r; rfl
  | byt _ => obtain ⟨t, rfl⟩ := r; rfl
  | flt _ => obtain ⟨t, rfl⟩ := r; rfl
  | ref _ => cases r; rfl
  | ty _ => cases r; rfl
theorem RelV.inj {x y : V} {u : Value} (r : RelV x u) (q : RelV y u) : x = y := Option.some.inj (r.abs.symm.trans q.abs)
theorem Vals.inj : ∀ {xs ys : List V} {us : List Value}, Vals xs us -> Vals ys us -> xs = ys
  | _, _, _, .nil, .nil => rfl
  | _, _, _, .cons r t, .cons r' t' => by rw [r.inj r', Vals.inj t t']
section
variable {X : Cx} {pins : List (Addr × Obj)} {σ : St} {H : Hp} {s : Shared} {a : Addr} {xs ys : List V}
theorem SqL.of {K : PySem.W.Frag} (h : H a = some (.lst xs)) : SqL K H a xs := .inl (.inl h)
theorem SqT.of {K : PySem.W.Frag} (h : H a = some (.tup xs)) : SqT K H a xs := .inl (.inl h)
theorem Inv.list (I : Inv X pins σ H s) (h : SqL X.K H a xs) : ∃ its : List Value, Vals xs its /\ PlainL s.heap a its.toArray /\ xs.length <= sizeLine := by
  rcases h with h | ⟨o, its, n, hk, hc, hd, hs, hz, r⟩
  . obtain ⟨z, its, n, r, e⟩ := h.ok I.hok
    exact ⟨its, r, ⟨_, n, e, rfl, rfl, rfl⟩, z⟩
  . refine ⟨its.toList, r, ⟨o, n, I.kIn a o hk, hc, hd, by simpa using hs⟩, ?_⟩
    have e := r.length
    simp only [Array.length_toList] at e
    omega
theorem Inv.tuple (I : Inv X pins σ H s) (h : SqT X.K H a xs) : ∃ its : List Value, Vals xs its /\ IsTup s.heap a its.toArray /\ xs.length <= sizeLine := by
  rcases h with h | ⟨o, its, n, hk, hc, hs, hz, r⟩
  . obtain ⟨z, its, r, p⟩ := h.ok I.hok
    exact ⟨its, r, p, z⟩
  . refine ⟨its.toList, r, ⟨o, I.kIn a o hk, hc, n, by simpa using hs⟩, ?_⟩
    have e := r.length
    simp only [Array.length_toList] at e
    omega
theorem Inv.list_inj (I : Inv X pins σ H s) (h : SqL X.K H a xs) (h' : SqL X.K H a ys) : xs = ys := by
  obtain ⟨its, r, ⟨o, n, e, _, _, d⟩, _⟩ := I.list h
  obtain ⟨its', r', ⟨o', n', e', _, _, d'⟩, _⟩ := I.list h'
  rw [e] at e'; cases e'
  rw [d] at d'
  injection d' with d1 _
  have : its = its' := by simpa using congrArg Array.toList d1
  subst this
  exact r.inj r'
theorem Inv.tuple_inj (I : Inv X pins σ H s) (h : SqT X.K H a xs) (h' : SqT X.K H a ys) : xs = ys := by
  obtain ⟨its, r, ⟨o, e, _, n, d⟩, _⟩ := I.tuple h
  obtain ⟨its', r', ⟨o', e', _, n', d'⟩, _⟩ := I.tuple h'
  rw [e] at e'; cases e'
  rw [d] at d'
  injection d' with d1 _
  have : its = its' := by simpa using congrArg Array.toList d1
  subst this
  exact r.inj r'
end
abbrev Cx.wish (X : Cx) (E : Value -> Shared -> Prop) : Cx := { X with xe := E }
abbrev Cx.nox (X : Cx) : Cx := X.wish fun _ _ => False
section
variable {X : Cx} {pins : List (Addr × Obj)} {σ : St} {H : Hp} {s : Shared} {E : Value -> Shared -> Prop}
end
section
variable {X : Cx} {st : Stmt} {rest : List Stmt} {t u : TS} {e : Expr} {te : TE} {pos : Pos}
def Cf : TS := fun D σ H => D.nx σ H
def E4 (t u : TS) : TS := fun D σ H => t { D with nx := u D } σ H
theorem bn : PSs X [] Cf := fun _ _ σ H _ I h => wpAny_execs_nil ⟨σ, H, I, h⟩
theorem ai (h1 : PS X st t) (h2 : PSs X rest u) : PSs X (st :: rest) (E4 t u) := by
  intro pins s σ H D I h
  refine wpAny_execs_cons (thn (h1 pins s σ H { D with nx := u D } I h) fun f s1 q => ?_)
  cases f with
  | next =>
    obtain ⟨σ', H', I', q⟩ := q
    exact h2 pins s1 σ' H' D I' q
  | ret v => exact q
  | brk => exact q
  | cont => exact q
theorem ak (h1 : PS X st t) : PSs X [st] t := by
  intro pins s σ H D I h
  refine wpAny_execs_cons (thn (h1 pins s σ H D I h) fun f s1 q => ?_)
  cases f with
  | next => exact wpAny_execs_nil q
  | ret v => exact q
  | brk => exact q
  | cont => exact q
theorem Inv.quiet {pins : List (Addr × Obj)} {σ : St} {H : Hp} {s : Shared} (I : Inv X pins σ H s) : interactive X.env = false := by simp [interactive, I.ok.kind]
def Cm (te : TE) : TS := fun D σ H => te σ H fun _ H1 => D.nx σ H1
theorem dF (he : PE X e te) (hs : swapsWith e none pos.line X.env = pure false := by rfl) : PS X (.Expr e pos) (Cm te) := by
  intro pins s σ H D I h
  exact wpAny_Expr_any (thn (he pins s σ H _ I h) fun v s1 ⟨x, H1, I1, r1, q1⟩ => ⟨σ, H1, I1, q1⟩) I.quiet hs
def ES (te : TE) : TS := fun D σ H => te σ H D.rt
theorem aT (he : PE X e te) : PS X (.Return (some e) pos) (ES te) := by
  intro pins s σ H D I h
  exact wpAny_Return_some (thn (he pins s σ H _ I h) fun v s1 ⟨x, H1, I1, r1, q1⟩ => ⟨x, σ, H1, I1, r1, q1⟩)
def Fn (c : TT) (t u : TS) : TS := fun D σ H => c σ H fun b H1 => if b = true then t D σ H1 else u D σ H1
theorem cG {c : Expr} {a b : List Stmt} {tc : TT} (hc : PT X c tc) (ha : PSs X a t) (hb : PSs X b u) : PS X (.If c a b pos) (Fn tc t u) := by
  intro pins s σ H D I h
  refine wpAny_If (thn (hc pins s σ H _ I h) fun d s1 ⟨H1, I1, q1⟩ => ?_)
  cases d with
  | true => exact ha pins s1 σ H1 D I1 q1
  | false => exact hb pins s1 σ H1 D I1 q1
end
abbrev TG := V -> St -> Hp -> (St -> Hp -> Prop) -> Prop
abbrev TGs := List V -> St -> Hp -> (St -> Hp -> Prop) -> Prop
def PG (X : Cx) (target : Expr) (t : TG) : Prop :=
  ∀ (pins : List (Addr × Obj)) (s : Shared) (σ : St) (H : Hp) (v : V) (u : Value) (Q : St -> Hp -> Prop), Inv X pins σ H s -> RelV v u -> t v σ H Q ->
    wpAny (model X.prog X.w) X.A (assign target X.env u) (fun _ s' => ∃ σ' H', Inv X pins σ' H' s' /\ Q σ' H') X.xe s
def PGs (X : Cx) (ts : List Expr) (t : TGs) : Prop :=
  ∀ (pins : List (Addr × Obj)) (s : Shared) (σ : St) (H : Hp) (vs : List V) (us : List Value) (Q : St -> Hp -> Prop), Inv X pins σ H s -> Vals vs us -> t vs σ H Q ->
    wpAny (model X.prog X.w) X.A (assignInOrder ((assignEach ts X.env).map (·.2)) us) (fun _ s' => ∃ σ' H', Inv X pins σ' H' s' /\ Q σ' H') X.xe s
section
variable {X : Cx} {pos : Pos}
def lL (i : Nat) : TG := fun v σ H Q => Q (σ.set i (some v)) H
theorem aN {i : Nat} {x : Str} (hN : X.N.Nodup) (hi : X.N[i]? = some x) (hx : Loc X.env.scope x) (hf : X.fn x = true \/ X.env.scope.names.lookup x = some .local := by first | exact .inl rfl | exact .inr rfl | assumption) : PG X (.Name x pos) (lL i) := by
  intro pins s σ H v u Q I r h
  exact wpAny_assign_Name (uj I hN hi hx r (fun s' I' => ⟨_, H, I', h⟩) hf)
def E2 : TGs := fun vs σ H Q => vs = [] /\ Q σ H
def Cb (t : TG) (u : TGs) : TGs := fun vs σ H Q => ∃ v r, vs = v :: r /\ t v σ H fun σ' H' => u r σ' H' Q
theorem ii : PGs X [] E2 := by
  intro pins s σ H vs us Q I r h
  obtain ⟨e, h⟩ := h
  subst e
  cases r
  exact assignInOrder_nil ⟨σ, H, I, h⟩
theorem bA {e : Expr} {es : List Expr} {t : TG} {u : TGs} (h1 : PG X e t) (h2 : PGs X es u)
    (hs : (assignEach (e :: es) X.env).map (·.2) = assign e X.env :: (assignEach es X.env).map (·.2) := by rfl) : PGs X (e :: es) (Cb t u) := by
  intro pins s σ H vs us Q I r h
  obtain ⟨v, vr, e1, h⟩ := h
  subst e1
  cases r with
  | cons r rr =>
    rw [hs]
    refine assignInOrder_cons (thn (h1 pins s σ H _ _ _ I r h) fun _ s1 ⟨σ1, H1, I1, q1⟩ => ?_)
    exact h2 pins s1 σ1 H1 _ _ Q I1 rr q1
def Dq (K : PySem.W.Frag) (n : Nat) (t : TGs) : TG := fun v σ H Q => ∃ a xs, v = .ref a /\ SqT K H a xs /\ xs.length = n /\ t xs σ H Q
theorem CS {es : List Expr} {k : Nat} {t : TGs} {n : Nat} (hc : X.calm = true) (h : PGs X es t)
    (hn : (assignEach es X.env).length = n := by rfl) (hst : (assignEach es X.env).findIdx? (·.1) = none := by rfl) : PG X (.Tuple es k pos) (Dq X.K n t) := by
  intro pins s σ H v u Q I r hw
  obtain ⟨a, xs, e1, hq, hl, hw⟩ := hw
  subst e1
  cases r
  obtain ⟨its, rv, ht, hz⟩ := I.tuple hq
  refine assign_Tuple_tuple (I.ok.hd hc) ht (by simp [hn, <- hl, rv.length]) hst fun h' hx => ?_
  have I1 : Inv X pins σ H { s with heap := h' } := I.kept (t' := s.toks) fun b o e => hx b o (Nat.ne_of_lt (Heap.lt_size e)) e
  exact h pins _ σ H xs _ Q I1 (by simpa using rv) hw
def Bt (te : TE) (g : TG) : TS := fun D σ H => te σ H fun x H1 => g x σ H1 D.nx
theorem zl {tg e : Expr} {te : TE} {g : TG} (he : PE X e te) (hg : PG X tg g) (hs : swapsWithSole [tg] e pos.line X.env = pure false := by rfl) (hw : swappedStores [tg] e X.env = pure none := by rfl)
    (h1 : (assignEach [tg] X.env).map (·.2) = [assign tg X.env] := by rfl) : PS X (.Assign [tg] e pos) (Bt te g) := by
  intro pins s σ H D I h
  refine wpAny_Assign_stores (thn (he pins s σ H _ I h) fun v s1 ⟨x, H1, I1, r1, q1⟩ => ?_) hs hw
  rw [h1]
  exact thn (hg pins s1 σ H1 x v _ I1 r1 q1) fun _ s2 q => q
theorem aM {i : Nat} {x : Str} {e : Expr} {te : TE} {pos' : Pos} (hN : X.N.Nodup) (hi : X.N[i]? = some x) (hx : Loc X.env.scope x) (he : PE X e te) (hs : swapsWith e (some (.Name x pos')) pos.line X.env = pure false := by rfl) (hf : X.fn x = true \/ X.env.scope.names.lookup x = some .local := by first | exact .inl rfl | exact .inr rfl | assumption) :
    PS X (.Assign [.Name x pos'] e pos) (Bt te (lL i)) := by
  intro pins s σ H D I h
  refine wpAny_Assign_Name (thn (he pins s σ H _ I h) fun v s1 ⟨y, H1, I1, r1, q1⟩ => ?_) hs
  exact uj I1 hN hi hx r1 (fun s2 I2 => ⟨_, H1, I2, q1⟩) hf
end
section
variable {X : Cx} {pos : Pos}
def Eu (c : TT) (tb : TS) : TS := fun D σ H => ∃ W : Nat -> St -> Hp -> Prop, (∃ m, W m σ H) /\ ∀ m σ H, W m σ H ->
  c σ H fun b H1 => if b = true then ∃ N : St -> Hp -> Prop, (∀ σ' H', N σ' H' -> ∃ m', m' < m /\ W m' σ' H') /\ tb { D with nx := N, ct := N, bk := D.nx } σ H1 else D.nx σ H1
theorem oq {c : Expr} {body : List Stmt} {tc : TT} {tb : TS} (hp : PassesOwn (model X.prog X.w) X.A X.env X.xe) (hc : PT X c tc) (hb : PSs X body tb) : PS X (.While c body [] pos) (Eu tc tb) := by
  intro pins s σ H D I h
  obtain ⟨W, ⟨m0, w0⟩, turn⟩ := h
  refine wpAny_While (codeAny_whileLoop (fun n s' => ∃ σ' H', Inv X pins σ' H' s' /\ W n σ' H') ?_ m0 ⟨σ, H, I, w0⟩)
  rintro n s1 ⟨σ1, H1, I1, w1⟩
  refine wpAny_passesOwn hp (thn (hc pins s1 σ1 H1 _ I1 (turn n σ1 H1 w1)) fun b s2 ⟨H2, I2, q2⟩ => ?_)
  cases b with
  | true =>
    obtain ⟨N, hN, q2⟩ := q2
    rw [if_pos rfl]
    refine wpAny_passesOwn hp (thn (hb pins s2 σ1 H2 _ I2 q2) fun f s3 q3 => ?_)
    cases f with
    | next =>
      obtain ⟨σ3, H3, I3, n3⟩ := q3
      obtain ⟨m', hm, w3⟩ := hN σ3 H3 n3
      exact ⟨m', hm, σ3, H3, I3, w3⟩
    | cont =>
      obtain ⟨σ3, H3, I3, n3⟩ := q3
      obtain ⟨m', hm, w3⟩ := hN σ3 H3 n3
      exact ⟨m', hm, σ3, H3, I3, w3⟩
    | brk => exact q3
    | ret v => exact q3
  | false =>
    rw [if_neg Bool.false_ne_true]
    exact wpAny_execs_nil ⟨σ1, H2, I2, q2⟩
end
structure It where
  go : Nat -> Hp -> Prop
  yld : Nat -> Hp -> V -> Hp -> Prop
  stop : Nat -> Hp -> Prop
def tU (X : Cx) (pins : List (Addr × Obj)) (H : Hp) (b : Addr) : Prop :=
  H b = none /\ b ≠ X.env.locals /\ b ∉ X.fs /\ (b ∈ X.ex \/ X.s₀.heap.objs.size <= b) /\ (∀ x c, X.env.cells.lookup x = some c -> c ≠ b) /\ ∀ p ∈ X.pn ++ pins, p.1 ≠ b
theorem Inv.fpOk {X : Cx} {pins : List (Addr × Obj)} {σ : St} {H H' : Hp} {s : Shared} {b : Addr} (I : Inv X pins σ H s) (hb : s.heap.objs.size <= b) (hn : H' b = none) : tU X pins H' b := by
  refine ⟨hn, Nat.ne_of_gt (Nat.lt_of_lt_of_le I.lt hb), I.nofs hb, .inr (Nat.le_trans I.sz hb), fun x c e z => ?_, fun p hp z => ?_⟩
  . obtain ⟨v, q⟩ := I.cell x c e
    exact absurd (Nat.lt_of_lt_of_le q.lt (by rw [z]; exact hb)) (Nat.lt_irrefl _)
  . exact absurd (Nat.lt_of_lt_of_le (Heap.lt_size (I.pin p hp).1) (by rw [z]; exact hb)) (Nat.lt_irrefl _)
structure yn (P : Program) (w : World) (K : PySem.W.Frag) (tg : Expr) (J : It) (fp : List Addr) (it : Addr) (tn : Nat -> Heap -> Prop) : Prop where
  mem : it ∈ fp
  obj : ∀ i h, tn i h -> ∀ b ∈ fp, ∃ o, h.get? b = some o /\ ∀ v, o.data ≠ .cell v
  keep : ∀ i h h', tn i h -> (∀ b ∈ fp, ∀ o, h.get? b = some o -> h'.get? b = some o) -> tn i h'
  item : ∀ (X : Cx), X.prog = P -> X.w = w -> X.K = K -> X.calm = true -> ∀ (i : Nat) (pins : List (Addr × Obj)) (s : Shared) (σ : St) (H : Hp) (E : Value -> Shared -> Prop), Inv X pins σ H s -> (∀ b ∈ fp, tU X pins H b) -> tn i s.heap -> J.go i H ->
    wpAny (model P w) X.A (pyNext (.ref it)) (fun r s1 => ∃ u, r = some u /\
      wpAny (model P w) X.A (letOwnedTupleGo tg (.ref it) u) (fun _ s2 => ∃ x H', Inv X pins σ H' s2 /\ RelV x u /\ J.yld i H x H' /\ tn (i + 1) s2.heap /\ ∀ b ∈ fp, H' b = none) E s1) E s
  done : ∀ (X : Cx), X.prog = P -> X.w = w -> X.K = K -> X.calm = true -> ∀ (i : Nat) (pins : List (Addr × Obj)) (s : Shared) (σ : St) (H : Hp) (E : Value -> Shared -> Prop), Inv X pins σ H s -> (∀ b ∈ fp, tU X pins H b) -> tn i s.heap -> J.stop i H ->
    wpAny (model P w) X.A (pyNext (.ref it)) (fun r s1 => r = none /\ Inv X pins σ H s1) E s
  self : ∀ (A : Around) (i : Nat) (s : Shared) (Q : Value -> Shared -> Prop) (E : Value -> Shared -> Prop), tn i s.heap -> Q (.ref it) s -> wpAny (model P w) A (pyIter (.ref it)) Q E s
abbrev TI := St -> Hp -> (It -> Hp -> Prop) -> Prop
def PIE (X : Cx) (pins : List (Addr × Obj)) (σ : St) (tg : Expr) (R : It -> Hp -> Prop) (itv : Value) (s2 : Shared) : Prop :=
  ∃ (it : Addr) (fp : List Addr) (tn : Nat -> Heap -> Prop) (J : It) (H' : Hp), itv = .ref it /\ Inv X pins σ H' s2 /\ yn X.prog X.w X.K tg J fp it tn /\ tn 0 s2.heap /\ (∀ b ∈ fp, tU X pins H' b) /\ R J H'
def PI (X : Cx) (tg iter : Expr) (wi : TI) : Prop :=
  ∀ (pins : List (Addr × Obj)) (s : Shared) (σ : St) (H : Hp) (R : It -> Hp -> Prop), Inv X pins σ H s -> wi σ H R ->
    wpAny (model X.prog X.w) X.A (eval iter X.env) (fun v s1 => wpAny (model X.prog X.w) X.A (pyIter v) (PIE X pins σ tg R) X.xe s1) X.xe s
theorem nY {M : Model} {A : Around} {E : Value -> Shared -> Prop} {s : Shared} {tg : Expr} {it : Addr} {u : Value} {o : Obj} {n : String} {vs : Array Value} {Q : Unit -> Shared -> Prop} (ho : s.heap.get? it = some o) (hc : o.cls = .type n) (hd : o.data = .fields vs)
    (hn : ["enumerate", "zip", "dict_itemiterator", "dict_reverseitemiterator", "odict_iterator", "itertools.zip_longest", "itertools.pairwise"].contains n = false) (hQ : Q () s) : wpAny M A (letOwnedTupleGo tg (.ref it) u) Q E s := by
  unfold letOwnedTupleGo
  cases tg <;> first
    | exact wpAny_pure hQ
    | (cases u <;> first
        | exact wpAny_pure hQ
        | (refine wpAny_bind (wpAny_load ho ?_)
           rw [hc, hd]
           show wpAny M A (if (["enumerate", "zip", "dict_itemiterator", "dict_reverseitemiterator", "odict_iterator", "itertools.zip_longest", "itertools.pairwise"].contains n && vs[0]? == some (rawInt _)) = true then _ else _) Q E s
           rw [if_neg (by intro h; rw [hn, Bool.false_and] at h; cases h)]
           exact wpAny_pure hQ))
def Itl (K : PySem.W.Frag) (a : Addr) : It :=
  ⟨fun i H => ∃ xs x, SqL K H a xs /\ xs[i]? = some x, fun i H x H' => H' = H /\ ∀ xs, SqL K H a xs -> xs[i]? = some x, fun i H => ∃ xs, SqL K H a xs /\ xs.length <= i⟩
def Itt (K : PySem.W.Frag) (a : Addr) : It :=
  ⟨fun i H => ∃ xs x, SqT K H a xs /\ xs[i]? = some x, fun i H x H' => H' = H /\ ∀ xs, SqT K H a xs -> xs[i]? = some x, fun i H => ∃ xs, SqT K H a xs /\ xs.length <= i⟩
def Itr (lo : Int) (n : Nat) : It := ⟨fun i _ => i < n, fun i H x H' => H' = H /\ x = .int (lo + i), fun i _ => n <= i⟩
theorem xP {P : Program} {w : World} {K : PySem.W.Frag} {tg : Expr} (a it : Addr) : yn P w K tg (Itl K a) [it] it (fun i h => h.IsListIter it a i) where
  mem := by simp
  obj := fun i h st b hb => by
    have e : b = it := by simpa using hb
    subst e
    obtain ⟨o, e, c, d⟩ := st
    exact ⟨o, e, fun v z => by rw [d] at z; cases z⟩
  keep := fun i h h' st k => st.at fun o e => k it (by simp) o e
  item := by
    intro X hP hw hK hc i pins s σ H E I hf st hg
    subst hP hw hK
    obtain ⟨xs, x, hq, hx⟩ := hg
    obtain ⟨its, rv, p, hz⟩ := I.list hq
    obtain ⟨u, hu, ru⟩ := rv.get hx
    obtain ⟨f0, f1, f2, f3, f4, f5⟩ := hf it (by simp)
    refine wpAny_pyNext_list_item st p.isList (x := u) (by simpa using hu) fun h' st' sb => ?_
    have I1 : Inv X pins σ H { s with heap := h' } := I.turned (t' := s.toks) (fun b o hb e => (sb.2 b hb).trans e) f0 f1 f3 f4 f5
    obtain ⟨o, e, c, d⟩ := id st'
    exact ⟨u, rfl, nY (s := { s with heap := h' }) e c d (by decide) ⟨x, H, I1, ru, ⟨rfl, fun ys hy => by rw [I.list_inj hy hq]; exact hx⟩, st', fun b hb => (hf b hb).1⟩⟩
  done := by
    intro X hP hw hK hc i pins s σ H E I hf st hg
    subst hP hw hK
    obtain ⟨xs, hq, hx⟩ := hg
    obtain ⟨its, rv, p, hz⟩ := I.list hq
    obtain ⟨f0, f1, f2, f3, f4, f5⟩ := hf it (by simp)
    have hl := rv.length
    exact wpAny_pyNext_list_end (I.ok.hd hc) st p.isList (by simp; omega) fun h' eb => ⟨rfl, I.turned (t' := s.toks) (fun b o hb e => eb b o hb e) f0 f1 f3 f4 f5⟩
  self := fun _ _ _ _ _ st h => wpAny_pyIter_listiter st h
theorem vQ {P : Program} {w : World} {K : PySem.W.Frag} {tg : Expr} (a it : Addr) : yn P w K tg (Itt K a) [it] it (fun i h => h.IsTupleIter it a i) where
  mem := by simp
  obj := fun i h st b hb => by
    have e : b = it := by simpa using hb
    subst e
    obtain ⟨o, e, c, d⟩ := st
    exact ⟨o, e, fun v z => by rw [d] at z; cases z⟩
  keep := fun i h h' st k => st.at fun o e => k it (by simp) o e
  item := by
    intro X hP hw hK hc i pins s σ H E I hf st hg
    subst hP hw hK
    obtain ⟨xs, x, hq, hx⟩ := hg
    obtain ⟨its, rv, p, hz⟩ := I.tuple hq
    obtain ⟨u, hu, ru⟩ := rv.get hx
    obtain ⟨f0, f1, f2, f3, f4, f5⟩ := hf it (by simp)
    refine wpAny_pyNext_tuple_item st (show s.heap.IsTuple a its.toArray from p) (x := u) (by simpa using hu) fun h' st' sb => ?_
    have I1 : Inv X pins σ H { s with heap := h' } := I.turned (t' := s.toks) (fun b o hb e => (sb.2 b hb).trans e) f0 f1 f3 f4 f5
    obtain ⟨o, e, c, d⟩ := id st'
    exact ⟨u, rfl, nY (s := { s with heap := h' }) e c d (by decide) ⟨x, H, I1, ru, ⟨rfl, fun ys hy => by rw [I.tuple_inj hy hq]; exact hx⟩, st', fun b hb => (hf b hb).1⟩⟩
  done := by
    intro X hP hw hK hc i pins s σ H E I hf st hg
    subst hP hw hK
    obtain ⟨xs, hq, hx⟩ := hg
    obtain ⟨its, rv, p, hz⟩ := I.tuple hq
    obtain ⟨f0, f1, f2, f3, f4, f5⟩ := hf it (by simp)
    have hl := rv.length
    exact wpAny_pyNext_tuple_end (I.ok.hd hc) st (show s.heap.IsTuple a its.toArray from p) (by simp; omega) fun h' eb => ⟨rfl, I.turned (t' := s.toks) (fun b o hb e => eb b o hb e) f0 f1 f3 f4 f5⟩
  self := fun _ _ _ _ _ st h => wpAny_pyIter_tupleiter st h
theorem vB {P : Program} {w : World} {K : PySem.W.Frag} {tg : Expr} (it : Addr) (lo : Int) (n : Nat) : yn P w K tg (Itr lo n) [it] it (fun i h => IsRangeIter h it (lo + (i : Nat) * 1) ((n : Int) - (i : Nat)) 1) where
  mem := by simp
  obj := fun i h st b hb => by
    have e : b = it := by simpa using hb
    subst e
    exact ⟨_, st, fun v z => by
      have z' : Data.fields _ = Data.cell v := z
      cases z'⟩
  keep := fun i h h' st k => k it (by simp) _ st
  item := by
    intro X hP hw hK hc i pins s σ H E I hf st hg
    subst hP hw hK
    obtain ⟨f0, f1, f2, f3, f4, f5⟩ := hf it (by simp)
    have W := Walks.range (prog := X.prog) (w := X.w) (I.ok.hd hc) it lo 1 n
    refine W.item i s _ _ hg st fun v h' tk hv st' kk => ?_
    obtain ⟨t, rfl⟩ := hv
    have I1 : Inv X pins σ H { s with heap := h', toks := tk } := I.turned (fun b o hb e => kk b o (by simpa using hb) e) f0 f1 f3 f4 f5
    refine ⟨_, rfl, nY (s := { s with heap := h', toks := tk }) (n := "range_iterator") st' rfl rfl (by decide) ⟨.int (lo + i), H, I1, ⟨t, ?_⟩, ⟨rfl, rfl⟩, st', fun b hb => (hf b hb).1⟩⟩
    rw [Int.mul_one]
  done := by
    intro X hP hw hK hc i pins s σ H E I hf st hg
    subst hP hw hK
    obtain ⟨f0, f1, f2, f3, f4, f5⟩ := hf it (by simp)
    exact wpAny_pyNext_range_end (I.ok.hd hc) st (by have : n <= i := hg; omega) fun h' eb => ⟨rfl, I.turned (t' := s.toks) (fun b o hb e => eb b o hb e) f0 f1 f3 f4 f5⟩
  self := fun _ _ _ _ _ st h => wpAny_pyIter_rangeiter st h
end L2
namespace L2
open PySem PySem.Spec PyProof.Rows
section
variable {X : Cx} {tg : Expr}
def oJ (K : PySem.W.Frag) (tl : TE) : TI := fun σ H R => tl σ H fun x H1 => ∃ a, x = .ref a /\ (∃ xs, SqL K H1 a xs) /\ R (Itl K a) H1
def AR (K : PySem.W.Frag) (tl : TE) : TI := fun σ H R => tl σ H fun x H1 => ∃ a, x = .ref a /\ (∃ xs, SqT K H1 a xs) /\ R (Itt K a) H1
theorem Bl {l : Expr} {tl : TE} (hl : PE X l tl) : PI X tg l (oJ X.K tl) := by
  intro pins s σ H R I h
  refine thn (hl pins s σ H _ I h) fun v s1 ⟨x, H1, I1, r1, q1⟩ => ?_
  obtain ⟨a, e, ⟨xs, hq⟩, q⟩ := q1
  subst e
  cases r1
  obtain ⟨its, rv, p, hz⟩ := I1.list hq
  refine wpAny_pyIter_list p.isList ?_
  refine ⟨s1.heap.objs.size, [s1.heap.objs.size], _, _, H1, rfl, I1.kept (t' := s1.toks) fun b o e => Heap.get?_push_of_some _ e, xP a _, ⟨_, Heap.get?_push_size _ rfl, rfl, rfl⟩, fun b hb => ?_, q⟩
  have e : b = s1.heap.objs.size := by simpa using hb
  subst e
  exact I1.fpOk (Nat.le_refl _) (I1.hok.fresh (Nat.le_refl _))
theorem DU {l : Expr} {tl : TE} (hl : PE X l tl) : PI X tg l (AR X.K tl) := by
  intro pins s σ H R I h
  refine thn (hl pins s σ H _ I h) fun v s1 ⟨x, H1, I1, r1, q1⟩ => ?_
  obtain ⟨a, e, ⟨xs, hq⟩, q⟩ := q1
  subst e
  cases r1
  obtain ⟨its, rv, p, hz⟩ := I1.tuple hq
  refine wpAny_pyIter_tuple (show s1.heap.IsTuple a its.toArray from p) ?_
  refine ⟨s1.heap.objs.size, [s1.heap.objs.size], _, _, H1, rfl, I1.kept (t' := s1.toks) fun b o e => Heap.get?_push_of_some _ e, vQ a _, ⟨_, Heap.get?_push_size _ rfl, rfl, rfl⟩, fun b hb => ?_, q⟩
  have e : b = s1.heap.objs.size := by simpa using hb
  subst e
  exact I1.fpOk (Nat.le_refl _) (I1.hok.fresh (Nat.le_refl _))
theorem sY {pins : List (Addr × Obj)} {σ : St} {H : Hp} {s : Shared} {R : It -> Hp -> Prop} {E : Value -> Shared -> Prop} {lo hi : Int} {t u v : Tok} {tk : Nat} (I : Inv X pins σ H s) (h1 : -(2 ^ 62) <= lo) (h2 : lo < 2 ^ 62) (h3 : -(2 ^ 62) <= hi) (h4 : hi < 2 ^ 62)
    (q : R (Itr lo (hi - lo).toNat) H) : wpAny (model X.prog X.w) X.A (pyIter (.ref s.heap.objs.size)) (PIE X pins σ tg R) E { s with heap := s.heap.push { cls := .type "range", data := .fields #[.int lo t, .int hi u, .int 1 v] }, toks := tk } := by
  refine wpAny_pyIter_range (IsRange.new ..) (small_one h1 h2 h3 h4) ?_
  have I1 : Inv X pins σ H { s with heap := s.heap.push { cls := .type "range", data := .fields #[.int lo t, .int hi u, .int 1 v] }, toks := tk } := I.kept fun b o e => Heap.get?_push_of_some _ e
  refine ⟨(s.heap.push { cls := .type "range", data := .fields #[.int lo t, .int hi u, .int 1 v] }).objs.size, [(s.heap.push { cls := .type "range", data := .fields #[.int lo t, .int hi u, .int 1 v] }).objs.size], _, _, H, rfl,
    I1.kept (t' := tk) fun b o e => Heap.get?_push_of_some _ e, vB _ lo (hi - lo).toNat, ?_, fun b hb => ?_, q⟩
  . have e1 : lo + ((0 : Nat) : Int) * 1 = lo := by simp
    have e2 : (((hi - lo).toNat : Nat) : Int) - ((0 : Nat) : Int) = Builtin.Range.rangeSize lo hi 1 := by rw [rangeSize_one]; split <;> omega
    show IsRangeIter _ _ (lo + ((0 : Nat) : Int) * 1) ((((hi - lo).toNat : Nat) : Int) - ((0 : Nat) : Int)) 1
    rw [e1, e2]
    exact Heap.get?_push_size _ rfl
  . have e : b = (s.heap.push { cls := .type "range", data := .fields #[.int lo t, .int hi u, .int 1 v] }).objs.size := by simpa using hb
    subst e
    exact I1.fpOk (Nat.le_refl _) (I1.hok.fresh (Nat.le_refl _))
def Cp (ta : TA) : TI := fun σ H R => ta σ H fun vs H1 => ∃ j : Int, vs = [.int j] /\ -(2 ^ 62) <= j /\ j < 2 ^ 62 /\ R (Itr 0 j.toNat) H1
def Cu (ta : TA) : TI := fun σ H R => ta σ H fun vs H1 => ∃ i j : Int, vs = [.int i, .int j] /\ (-(2 ^ 62) <= i /\ i < 2 ^ 62 /\ -(2 ^ 62) <= j /\ j < 2 ^ 62) /\ R (Itr i (j - i).toNat) H1
theorem gS {a : Expr} {ta : TA} {p pos : Pos} (hg : Gl X "range") (hm : X.mg "range" = none) (ha : PA X [a] ta) (hs : starEach [a] X.env = [(false, eval a X.env)] := by rfl) : PI X tg (.Call (.Name "range" p) [a] [] pos) (Cp ta) := by
  intro pins s σ H R I h
  refine Call_ (oa I hg hm boot_range (PyProof.Rows.callWith_type1 (thn (ha pos pins s σ H _ I h) fun us s1 ⟨vs, H1, I1, r1, q1⟩ => ?_) hs rfl))
  obtain ⟨j, e, q1, q2, q⟩ := q1
  subst e
  cases r1 with
  | cons r rr =>
    cases rr
    obtain ⟨t, rfl⟩ := r
    exact call_range_1 (sY I1 (by omega) (by omega) q1 q2 (by simpa using q))
theorem yy {a b : Expr} {ta : TA} {p pos : Pos} (hg : Gl X "range") (hm : X.mg "range" = none) (ha : PA X [a, b] ta) (hs : starEach [a, b] X.env = [(false, eval a X.env), (false, eval b X.env)] := by rfl) (hs2 : starEach [b] X.env = [(false, eval b X.env)] := by rfl) :
    PI X tg (.Call (.Name "range" p) [a, b] [] pos) (Cu ta) := by
  intro pins s σ H R I h
  refine Call_ (oa I hg hm boot_range (PyProof.Rows.callWith_type1 (thn (ha pos pins s σ H _ I h) fun us s1 ⟨vs, H1, I1, r1, q1⟩ => ?_) (by rw [hs, hs2]) (by rw [hs2]; rfl)))
  obtain ⟨i, j, e, ⟨q1, q2, q3, q4⟩, q⟩ := q1
  subst e
  cases r1 with
  | cons r rr =>
    cases rr with
    | cons r' rr =>
      cases rr
      obtain ⟨t, rfl⟩ := r
      obtain ⟨t', rfl⟩ := r'
      exact call_range_2 (sY I1 q1 q2 q3 q4 q)
def rm (wi : TI) (g : TG) (tb : TS) : TS := fun D σ H => wi σ H fun J H1 => ∃ W : Nat -> Nat -> St -> Hp -> Prop, (∃ m, W 0 m σ H1) /\ ∀ i m σ H, W i m σ H ->
  (J.stop i H /\ D.nx σ H) \/ (J.go i H /\ ∃ N : St -> Hp -> Prop, (∀ σ' H', N σ' H' -> ∃ m', m' < m /\ W (i + 1) m' σ' H') /\ ∀ x H', J.yld i H x H' -> g x σ H' fun σ2 H2 => tb { D with nx := N, ct := N, bk := D.nx } σ2 H2)
def pj (fp : List Addr) (h : Heap) : List (Addr × Obj) := fp.filterMap fun b => (h.get? b).map fun o => (b, o)
theorem h_ {fp : List Addr} {h : Heap} {b : Addr} {o : Obj} (hb : b ∈ fp) (e : h.get? b = some o) : (b, o) ∈ pj fp h := List.mem_filterMap.mpr ⟨b, hb, by rw [e]; rfl⟩
theorem xV {fp : List Addr} {h : Heap} {p : Addr × Obj} (hp : p ∈ pj fp h) : p.1 ∈ fp /\ h.get? p.1 = some p.2 := by
  obtain ⟨b, hb, e⟩ := List.mem_filterMap.mp hp
  cases q : h.get? b with
  | none => rw [q] at e; cases e
  | some o =>
    rw [q] at e
    have e' : (b, o) = p := Option.some.inj e
    subst e'
    exact ⟨hb, q⟩
theorem Inv.pinned {pins : List (Addr × Obj)} {σ : St} {H : Hp} {s : Shared} {fp : List Addr} (I : Inv X pins σ H s) (hf : ∀ b ∈ fp, tU X pins H b) (ho : ∀ b ∈ fp, ∃ o, s.heap.get? b = some o /\ ∀ v, o.data ≠ .cell v) : Inv X (pins ++ pj fp s.heap) σ H s :=
  I.pins_of fun p hp => (List.mem_append.mp hp).elim (fun z => I.pin p (List.mem_append_right _ z)) fun z => by
    obtain ⟨hb, e⟩ := xV z
    obtain ⟨f0, f1, f2, _⟩ := hf p.1 hb
    obtain ⟨o, e', d⟩ := ho p.1 hb
    rw [e] at e'; cases e'
    exact ⟨e, f0, f1, f2, d⟩
theorem Inv.unpinned {pins pl : List (Addr × Obj)} {σ : St} {H : Hp} {s : Shared} (I : Inv X (pins ++ pl) σ H s) : Inv X pins σ H s := I.pins_of fun p hp => I.pin p (List.mem_append_right _ (List.mem_append_left _ hp))
theorem d8 {iter : Expr} {body : List Stmt} {wi : TI} {g : TG} {tb : TS} {pos : Pos} (hp : PassesOwn (model X.prog X.w) X.A X.env X.xe) (hc : X.calm = true) (hi : PI X tg iter wi) (hg : PG X tg g) (hb : PSs X body tb)
    (hs : ∀ x, foldedSetIterable iter X.env x = pure x := by intro _; rfl) : PS X (.For tg iter body [] pos) (rm wi g tb) := by
  intro pins s σ H D I h
  refine wpAny_For (thn (hi pins s σ H _ I h) fun v s1 h1 => thn h1 fun itv s2 h2 => ?_) hs
  obtain ⟨it, fp, tn, J, H2, e, I2, T, st2, f2, W, ⟨m0, w0⟩, turn⟩ := h2
  subst e
  have stat : ∀ {H' : Hp}, (∀ b ∈ fp, H' b = none) -> ∀ b ∈ fp, tU X pins H' b := fun hn b hb => ⟨hn b hb, (f2 b hb).2⟩
  refine codeAny_forLoop_any (fun n s' => ∃ i σ' H', Inv X pins σ' H' s' /\ tn i s'.heap /\ (∀ b ∈ fp, H' b = none) /\ W i n σ' H') ?_ m0 ⟨0, σ, H2, I2, st2, fun b hb => (f2 b hb).1, w0⟩
  rintro n s3 ⟨i, σ3, H3, I3, st3, fr3, w3⟩
  rcases turn i n σ3 H3 w3 with ⟨stop, qn⟩ | ⟨go, N, hN, step⟩
  . refine wpAny_passesOwn hp (thn (T.done X rfl rfl rfl hc i pins s3 σ3 H3 X.xe I3 (stat fr3) st3 stop) fun r s4 ⟨hr, I4⟩ => ?_)
    subst hr
    exact wpAny_execs_nil ⟨σ3, H3, I4, qn⟩
  . refine wpAny_passesOwn hp (thn (T.item X rfl rfl rfl hc i pins s3 σ3 H3 X.xe I3 (stat fr3) st3 go) fun r s4 ⟨u, hr, h4⟩ => ?_)
    subst hr
    refine wpAny_passesOwn hp (thn h4 fun _ s5 ⟨x, H5, I5, r5, y5, st5, fr5⟩ => ?_)
    have I5' := I5.pinned (stat fr5) (T.obj _ _ st5)
    refine wpAny_passesOwn hp (thn (hg _ s5 σ3 H5 x u _ I5' r5 (step x H5 y5)) fun _ s6 ⟨σ6, H6, I6, q6⟩ => ?_)
    refine wpAny_passesOwn hp (thn (hb _ s6 σ6 H6 _ I6 q6) fun f s7 q7 => ?_)
    have again : ∀ {σ7 : St} {H7 : Hp}, Inv X (pins ++ pj fp s5.heap) σ7 H7 s7 -> N σ7 H7 -> ∃ m, m < n /\ ∃ i σ' H', Inv X pins σ' H' s7 /\ tn i s7.heap /\ (∀ b ∈ fp, H' b = none) /\ W i m σ' H' := fun {σ7 H7} I7 n7 => by
      obtain ⟨m', hm, w7⟩ := hN σ7 H7 n7
      refine ⟨m', hm, i + 1, σ7, H7, I7.unpinned, T.keep _ _ _ st5 fun b hb o e => (I7.pin (b, o) (List.mem_append_right _ (List.mem_append_right _ (h_ hb e)))).1, fun b hb => ?_, w7⟩
      obtain ⟨o, e, d⟩ := T.obj _ _ st5 b hb
      exact (I7.pin (b, o) (List.mem_append_right _ (List.mem_append_right _ (h_ hb e)))).2.1
    cases f with
    | next => obtain ⟨σ7, H7, I7, n7⟩ := q7; exact again I7 n7
    | cont => obtain ⟨σ7, H7, I7, n7⟩ := q7; exact again I7 n7
    | brk => obtain ⟨σ7, H7, I7, q7⟩ := q7; exact ⟨σ7, H7, I7.unpinned, q7⟩
    | ret v => obtain ⟨x7, σ7, H7, I7, r7, q7⟩ := q7; exact ⟨x7, σ7, H7, I7.unpinned, r7, q7⟩
end
theorem iW {K : PySem.W.Frag} {a : Addr} {xs : List V} {g : TG} {tb : TS} {D : fq} {σ : St} {H : Hp} (Pv : Nat -> St -> Hp -> Prop) (h0 : Pv 0 σ H) (hl : ∀ i σ H, i <= xs.length -> Pv i σ H -> SqL K H a xs)
    (hs : ∀ i x σ H, xs[i]? = some x -> Pv i σ H -> g x σ H fun σ2 H2 => tb { D with nx := Pv (i + 1), ct := Pv (i + 1), bk := D.nx } σ2 H2) (hd : ∀ σ H, Pv xs.length σ H -> D.nx σ H) :
    ∃ W : Nat -> Nat -> St -> Hp -> Prop, (∃ m, W 0 m σ H) /\ ∀ i m σ H, W i m σ H ->
      ((Itl K a).stop i H /\ D.nx σ H) \/ ((Itl K a).go i H /\ ∃ N : St -> Hp -> Prop, (∀ σ' H', N σ' H' -> ∃ m', m' < m /\ W (i + 1) m' σ' H') /\ ∀ x H', (Itl K a).yld i H x H' -> g x σ H' fun σ2 H2 => tb { D with nx := N, ct := N, bk := D.nx } σ2 H2) := by
  refine ⟨fun i m σ H => m = xs.length - i /\ i <= xs.length /\ Pv i σ H, ⟨xs.length, by simp, Nat.zero_le _, h0⟩, ?_⟩
  rintro i m σ H ⟨rfl, hi, p⟩
  have q := hl i σ H hi p
  by_cases hlt : i < xs.length
  . refine .inr ⟨⟨xs, xs[i], q, by simp [hlt]⟩, Pv (i + 1), fun σ' H' p' => ⟨xs.length - (i + 1), by omega, rfl, hlt, p'⟩, fun x H' y => ?_⟩
    obtain ⟨e, y⟩ := y
    subst e
    exact hs i x σ _ (y xs q) p
  . have e : i = xs.length := by omega
    subst e
    exact .inl ⟨⟨xs, q, Nat.le_refl _⟩, hd σ H p⟩
theorem BF {K : PySem.W.Frag} {a : Addr} {xs : List V} {g : TG} {tb : TS} {D : fq} {σ : St} {H : Hp} (Pv : Nat -> St -> Hp -> Prop) (h0 : Pv 0 σ H) (hl : ∀ i σ H, i <= xs.length -> Pv i σ H -> SqT K H a xs)
    (hs : ∀ i x σ H, xs[i]? = some x -> Pv i σ H -> g x σ H fun σ2 H2 => tb { D with nx := Pv (i + 1), ct := Pv (i + 1), bk := D.nx } σ2 H2) (hd : ∀ σ H, Pv xs.length σ H -> D.nx σ H) :
    ∃ W : Nat -> Nat -> St -> Hp -> Prop, (∃ m, W 0 m σ H) /\ ∀ i m σ H, W i m σ H ->
      ((Itt K a).stop i H /\ D.nx σ H) \/ ((Itt K a).go i H /\ ∃ N : St -> Hp -> Prop, (∀ σ' H', N σ' H' -> ∃ m', m' < m /\ W (i + 1) m' σ' H') /\ ∀ x H', (Itt K a).yld i H x H' -> g x σ H' fun σ2 H2 => tb { D with nx := N, ct := N, bk := D.nx } σ2 H2) := by
  refine ⟨fun i m σ H => m = xs.length - i /\ i <= xs.length /\ Pv i σ H, ⟨xs.length, by simp, Nat.zero_le _, h0⟩, ?_⟩
  rintro i m σ H ⟨rfl, hi, p⟩
  have q := hl i σ H hi p
  by_cases hlt : i < xs.length
  . refine .inr ⟨⟨xs, xs[i], q, by simp [hlt]⟩, Pv (i + 1), fun σ' H' p' => ⟨xs.length - (i + 1), by omega, rfl, hlt, p'⟩, fun x H' y => ?_⟩
    obtain ⟨e, y⟩ := y
    subst e
    exact hs i x σ _ (y xs q) p
  . have e : i = xs.length := by omega
    subst e
    exact .inl ⟨⟨xs, q, Nat.le_refl _⟩, hd σ H p⟩
theorem gJ {lo : Int} {n : Nat} {g : TG} {tb : TS} {D : fq} {σ : St} {H : Hp} (Pv : Nat -> St -> Hp -> Prop) (h0 : Pv 0 σ H)
    (hs : ∀ i σ H, i < n -> Pv i σ H -> g (.int (lo + i)) σ H fun σ2 H2 => tb { D with nx := Pv (i + 1), ct := Pv (i + 1), bk := D.nx } σ2 H2) (hd : ∀ σ H, Pv n σ H -> D.nx σ H) :
    ∃ W : Nat -> Nat -> St -> Hp -> Prop, (∃ m, W 0 m σ H) /\ ∀ i m σ H, W i m σ H ->
      ((Itr lo n).stop i H /\ D.nx σ H) \/ ((Itr lo n).go i H /\ ∃ N : St -> Hp -> Prop, (∀ σ' H', N σ' H' -> ∃ m', m' < m /\ W (i + 1) m' σ' H') /\ ∀ x H', (Itr lo n).yld i H x H' -> g x σ H' fun σ2 H2 => tb { D with nx := N, ct := N, bk := D.nx } σ2 H2) := by
  refine ⟨fun i m σ H => m = n - i /\ i <= n /\ Pv i σ H, ⟨n, by simp, Nat.zero_le _, h0⟩, ?_⟩
  rintro i m σ H ⟨rfl, hi, p⟩
  by_cases hlt : i < n
  . refine .inr ⟨hlt, Pv (i + 1), fun σ' H' p' => ⟨n - (i + 1), by omega, rfl, hlt, p'⟩, fun x H' y => ?_⟩
    obtain ⟨e, y⟩ := y
    subst e y
    exact hs i σ _ hlt p
  . have e : i = n := by omega
    subst e
    exact .inl ⟨Nat.le_refl _, hd σ H p⟩
end L2
namespace L2
open PySem PySem.Spec PyProof.Rows
abbrev R2 := V -> V -> Hp -> VK -> Prop
def OpR (X : Cx) (f : Value -> Value -> Sem Value) (r : R2) : Prop :=
  ∀ (pins : List (Addr × Obj)) (s : Shared) (σ : St) (H : Hp) (x y : V) (v u : Value) (Q : VK), Inv X pins σ H s -> RelV x v -> RelV y u -> r x y H Q ->
    wpAny (model X.prog X.w) X.A (f v u) (EP X pins σ Q) X.xe s
def UnR (X : Cx) (f : Value -> Sem Value) (r : V -> Hp -> VK -> Prop) : Prop :=
  ∀ (pins : List (Addr × Obj)) (s : Shared) (σ : St) (H : Hp) (x : V) (v : Value) (Q : VK), Inv X pins σ H s -> RelV x v -> r x H Q ->
    wpAny (model X.prog X.w) X.A (f v) (EP X pins σ Q) X.xe s
def CallR (X : Cx) (f : Value) (r : List V -> Hp -> VK -> Prop) : Prop :=
  ∀ (pins : List (Addr × Obj)) (s : Shared) (σ : St) (H : Hp) (xs : List V) (us : List Value) (Q : VK), Inv X pins σ H s -> Vals xs us -> r xs H Q ->
    wpAny (model X.prog X.w) X.A (call f us) (EP X pins σ Q) X.xe s
def FN (X : Cx) (r : V -> Hp -> (Bool -> Hp -> Prop) -> Prop) : Prop :=
  ∀ (pins : List (Addr × Obj)) (s : Shared) (σ : St) (H : Hp) (x : V) (v : Value) (Q : Bool -> Hp -> Prop), Inv X pins σ H s -> RelV x v -> r x H Q ->
    wpAny (model X.prog X.w) X.A (truthy v) (TP X pins σ Q) X.xe s
def tOp (r : R2) (ta tb : TE) : TE := fun σ H Q => ta σ H fun x H1 => tb σ H1 fun y H2 => r x y H2 Q
def tUn (r : V -> Hp -> VK -> Prop) (ta : TE) : TE := fun σ H Q => ta σ H fun x H1 => r x H1 Q
def rI (C : Int -> Int -> Prop) (g : Int -> Int -> V) : R2 := fun x y H Q => ∃ i j, x = .int i /\ y = .int j /\ C i j /\ Q (g i j) H
def rI0 (g : Int -> Int -> V) : R2 := fun x y H Q => ∃ i j, x = .int i /\ y = .int j /\ Q (g i j) H
def rU (g : Int -> V) : V -> Hp -> VK -> Prop := fun x H Q => ∃ i, x = .int i /\ Q (g i) H
section
variable {X : Cx} {a b c : Expr} {ta tb tc : TE} {pos : Pos}
theorem Dz (ha : PE X a ta) (hb : PE X b tb) {pins : List (Addr × Obj)} {s : Shared} {σ : St} {H : Hp} {R : V -> V -> Hp -> Prop} (I : Inv X pins σ H s)
    (h : ta σ H fun x H1 => tb σ H1 fun y H2 => R x y H2) {Q : Value -> Shared -> Prop} {f : Value -> Value -> Sem Value}
    (hf : ∀ v u s2 x y H2, Inv X pins σ H2 s2 -> RelV x v -> RelV y u -> R x y H2 -> wpAny (model X.prog X.w) X.A (f v u) Q X.xe s2) :
    wpAny (model X.prog X.w) X.A (eval a X.env) (fun v s₁ => wpAny (model X.prog X.w) X.A (eval b X.env) (fun u s₂ => wpAny (model X.prog X.w) X.A (f v u) Q X.xe s₂) X.xe s₁) X.xe s := by
  refine thn (ha pins s σ H _ I h) fun v s1 ⟨x, H1, I1, r1, q1⟩ => ?_
  refine thn (hb pins s1 σ H1 _ I1 q1) fun u s2 ⟨y, H2, I2, r2, q2⟩ => ?_
  exact hf v u s2 x y H2 I2 r1 r2 q2
theorem al {op : Operator} {r : R2} (ho : OpR X (binaryOp op) r) (ha : PE X a ta) (hb : PE X b tb) : PE X (.BinOp a op b pos) (tOp r ta tb) := by
  intro pins s σ H Q I h
  exact wpAny_BinOp (Dz ha hb I h fun v u s2 x y H2 I2 rx ry q => ho pins s2 σ H2 x y v u Q I2 rx ry q)
theorem Ch {op : UnaryOp} {r : V -> Hp -> VK -> Prop} (ho : UnR X (unaryOp op) r) (ha : PE X a ta) : PE X (.UnaryOp op a pos) (tUn r ta) := by
  intro pins s σ H Q I h
  exact UnaryOp_ (thn (ha pins s σ H _ I h) fun v s1 ⟨x, H1, I1, r1, q1⟩ => ho pins s1 σ H1 x v Q I1 r1 q1)
theorem opI {f : Value -> Value -> Sem Value} {C : Int -> Int -> Prop} {g : Int -> Int -> Int}
    (rule : ∀ (i j : Int) (t u : Tok) (s : Shared) (Q : Value -> Shared -> Prop) (E : Value -> Shared -> Prop), C i j -> Q (.int (g i j) s.toks) { s with toks := s.toks + 1 } -> wpAny (model X.prog X.w) X.A (f (.int i t) (.int j u)) Q E s) :
    OpR X f (rI C fun i j => .int (g i j)) := by
  intro pins s σ H x y v u Q I rx ry h
  obtain ⟨i, j, rfl, rfl, hc, q⟩ := h
  obtain ⟨t, rfl⟩ := rx
  obtain ⟨t', rfl⟩ := ry
  exact rule i j t t' s _ _ hc ⟨.int (g i j), H, I.tok _, ⟨_, rfl⟩, q⟩
theorem EY {f : Value -> Value -> Sem Value} {g : Int -> Int -> Int}
    (rule : ∀ (i j : Int) (t u : Tok) (s : Shared) (Q : Value -> Shared -> Prop) (E : Value -> Shared -> Prop), Q (.int (g i j) s.toks) { s with toks := s.toks + 1 } -> wpAny (model X.prog X.w) X.A (f (.int i t) (.int j u)) Q E s) :
    OpR X f (rI0 fun i j => .int (g i j)) := by
  intro pins s σ H x y v u Q I rx ry h
  obtain ⟨i, j, rfl, rfl, q⟩ := h
  obtain ⟨t, rfl⟩ := rx
  obtain ⟨t', rfl⟩ := ry
  exact rule i j t t' s _ _ ⟨.int (g i j), H, I.tok _, ⟨_, rfl⟩, q⟩
theorem Ew {f : Value -> Value -> Sem Value} {g : Int -> Int -> Bool}
    (rule : ∀ (i j : Int) (t u : Tok) (s : Shared) (Q : Value -> Shared -> Prop) (E : Value -> Shared -> Prop), Q (.bool (g i j)) s -> wpAny (model X.prog X.w) X.A (f (.int i t) (.int j u)) Q E s) :
    OpR X f (rI0 fun i j => .bl (g i j)) := by
  intro pins s σ H x y v u Q I rx ry h
  obtain ⟨i, j, rfl, rfl, q⟩ := h
  obtain ⟨t, rfl⟩ := rx
  obtain ⟨t', rfl⟩ := ry
  exact rule i j t t' s _ _ ⟨.bl (g i j), H, I, rfl, q⟩
def DG (i j : Int) : Prop := 0 < j /\ j < 1073741824
def DJ (i j : Int) : Prop := 0 <= j /\ j <= 1000000 /\ i.natAbs < 2 ^ 64
def CMul (i j : Int) : Prop := (-(2 ^ 64) < i /\ i < 2 ^ 64) \/ (-(2 ^ 64) < j /\ j < 2 ^ 64)
theorem CMul.ok {i j : Int} (h : CMul i j) : IntMulOk i j := by
  rcases h with ⟨h1, h2⟩ | ⟨h1, h2⟩
  . exact .of_left (intBits_le_64 h1 h2)
  . exact .of_right (intBits_le_64 h1 h2)
theorem CU : OpR X (binaryOp .Add) (rI0 fun i j => .int (i + j)) := EY fun _ _ _ _ _ _ _ q => add_int q
theorem CV : OpR X (binaryOp .Sub) (rI0 fun i j => .int (i - j)) := EY fun _ _ _ _ _ _ _ q => sub_int q
theorem Ep : OpR X (binaryOp .Mult) (rI CMul fun i j => .int (i * j)) := opI fun _ _ _ _ _ _ _ hc q => mul_int q hc.ok
theorem B3 : OpR X (binaryOp .FloorDiv) (rI DG fun i j => .int (i / j)) := opI fun i j _ _ _ _ _ hc q => by
  have h1 : (0 : Int) < j := hc.1
  have h2 : j < 1073741824 := hc.2
  exact floordiv_int (by omega) (by rw [Int.fdiv_eq_ediv_of_nonneg i (by omega)]; exact q) (.inl (PyProof.noPylong_small (by omega)))
theorem DE : OpR X (binaryOp .Mod) (rI (fun _ j => 0 < j) fun i j => .int (i % j)) := opI fun i j _ _ _ _ _ hc q => by
  have h1 : (0 : Int) < j := hc
  exact mod_int' (by omega) (by rw [Int.fmod_eq_emod_of_nonneg i (by omega)]; exact q)
theorem Eo : OpR X (binaryOp .Pow) (rI DJ fun i j => .int (i ^ j.toNat)) := opI fun _ _ _ _ _ _ _ hc q => pow_int_small hc.1 hc.2.1 hc.2.2 q
theorem unI {f : Value -> Sem Value} {g : Int -> Int}
    (rule : ∀ (i : Int) (t : Tok) (s : Shared) (Q : Value -> Shared -> Prop) (E : Value -> Shared -> Prop), Q (.int (g i) s.toks) { s with toks := s.toks + 1 } -> wpAny (model X.prog X.w) X.A (f (.int i t)) Q E s) :
    UnR X f (rU fun i => .int (g i)) := by
  intro pins s σ H x v Q I rx h
  obtain ⟨i, rfl, q⟩ := h
  obtain ⟨t, rfl⟩ := rx
  exact rule i t s _ _ ⟨.int (g i), H, I.tok _, ⟨_, rfl⟩, q⟩
theorem Ds : UnR X (unaryOp .USub) (rU fun i => .int (-i)) := unI fun _ _ _ _ _ q => neg_int q
end
def Ea : V -> V -> Bool
  | .non, .non => true | .non, .int _ => true | .int _, .non => true | .non, .bl _ => true | .bl _, .non => true | .non, .str _ => true | .str _, .non => true
  | .int _, .int _ => true | .bl _, .bl _ => true | .str _, .str _ => true | .byt _, .byt _ => true
  | .int _, .str _ => true | .str _, .int _ => true | .bl _, .str _ => true | .str _, .bl _ => true
  | _, _ => false
def rEq : R2 := fun x y H Q => Ea x y = true /\ Q (.bl (decide (x = y))) H
def rNe : R2 := fun x y H Q => Ea x y = true /\ Q (.bl (!decide (x = y))) H
theorem wK {i j : Int} : decide (V.int i = V.int j) = (i == j) := by
  rw [Bool.eq_iff_iff]
  simp
theorem AK {i j : Bool} : decide (V.bl i = V.bl j) = (i == j) := by
  rw [Bool.eq_iff_iff]
  simp
theorem xw {i j : Str} : decide (V.str i = V.str j) = (i == j) := by
  rw [Bool.eq_iff_iff]
  simp
theorem xz {i j : Array UInt8} : decide (V.byt i = V.byt j) = (i.toList == j.toList) := by
  rw [Bool.eq_iff_iff]
  cases i
  cases j
  simp
section
variable {X : Cx} {a b c : Expr} {ta tb tc : TE} {pos : Pos}
theorem bo {pins : List (Addr × Obj)} {σ : St} {H : Hp} {s : Shared} {Q : VK} {k k' : Bool} (I : Inv X pins σ H s) (q : Q (.bl k) H) (e : k = k') : EP X pins σ Q (.bool k') s := by
  subst e
  exact ⟨.bl k, H, I, rfl, q⟩
theorem EJ : OpR X (compareOp .Eq) rEq := by
  intro pins s σ H x y v u Q I rx ry h
  obtain ⟨hs, q⟩ := h
  cases x with
  | non =>
    cases rx
    cases y with
    | non => cases ry; exact PySem.EqNone.eq_none_none (bo I q (by simp))
    | bl j => cases ry; exact PySem.EqNone.eq_none_bool (bo I q (by simp))
    | int j => obtain ⟨t', rfl⟩ := ry; exact PySem.EqNone.eq_none_int (bo I q (by simp))
    | str j => obtain ⟨t', rfl⟩ := ry; exact PySem.EqNone.eq_none_str (bo I q (by simp))
    | _ => exact absurd (show false = true from hs) Bool.false_ne_true
  | bl i =>
    cases rx
    cases y with
    | non => cases ry; exact PySem.EqNone.eq_bool_none (bo I q (by simp))
    | bl j => cases ry; exact eq_bool (bo I q AK)
    | str j => obtain ⟨t', rfl⟩ := ry; exact PySem.EqMixed.eq_bool_str (bo I q (by simp))
    | _ => exact absurd (show false = true from hs) Bool.false_ne_true
  | int i =>
    obtain ⟨t, rfl⟩ := rx
    cases y with
    | non => cases ry; exact PySem.EqNone.eq_int_none (bo I q (by simp))
    | int j => obtain ⟨t', rfl⟩ := ry; exact eq_int (bo I q wK)
    | str j => obtain ⟨t', rfl⟩ := ry; exact PySem.EqMixed.eq_int_str (bo I q (by simp))
    | _ => exact absurd (show false = true from hs) Bool.false_ne_true
  | str i =>
    obtain ⟨t, rfl⟩ := rx
    cases y with
    | non => cases ry; exact PySem.EqNone.eq_str_none (bo I q (by simp))
    | bl j => cases ry; exact PySem.EqMixed.eq_str_bool (bo I q (by simp))
    | int j => obtain ⟨t', rfl⟩ := ry; exact PySem.EqMixed.eq_str_int (bo I q (by simp))
    | str j => obtain ⟨t', rfl⟩ := ry; exact eq_str (bo I q xw)
    | _ => exact absurd (show false = true from hs) Bool.false_ne_true
  | byt i =>
    obtain ⟨t, rfl⟩ := rx
    cases y with
    | byt j => obtain ⟨t', rfl⟩ := ry; exact PySem.W.eq_bytes (bo I q xz)
    | _ => exact absurd (show false = true from hs) Bool.false_ne_true
  | _ => cases y <;> exact absurd (show false = true from hs) Bool.false_ne_true
theorem EW : OpR X (compareOp .NotEq) rNe := by
  intro pins s σ H x y v u Q I rx ry h
  obtain ⟨hs, q⟩ := h
  cases x with
  | non =>
    cases rx
    cases y with
    | non => cases ry; exact PySem.EqNone.ne_none_none (bo I q (by simp))
    | bl j => cases ry; exact PySem.EqNone.ne_none_bool (bo I q (by simp))
    | int j => obtain ⟨t', rfl⟩ := ry; exact PySem.EqNone.ne_none_int (bo I q (by simp))
    | str j => obtain ⟨t', rfl⟩ := ry; exact PySem.EqNone.ne_none_str (bo I q (by simp))
    | _ => exact absurd (show false = true from hs) Bool.false_ne_true
  | bl i =>
    cases rx
    cases y with
    | non => cases ry; exact PySem.EqNone.ne_bool_none (bo I q (by simp))
    | bl j => cases ry; exact ne_bool (bo I q (congrArg not AK))
    | str j => obtain ⟨t', rfl⟩ := ry; exact PySem.EqMixed.ne_bool_str (bo I q (by simp))
    | _ => exact absurd (show false = true from hs) Bool.false_ne_true
  | int i =>
    obtain ⟨t, rfl⟩ := rx
    cases y with
    | non => cases ry; exact PySem.EqNone.ne_int_none (bo I q (by simp))
    | int j => obtain ⟨t', rfl⟩ := ry; exact ne_int (bo I q (congrArg not wK))
    | str j => obtain ⟨t', rfl⟩ := ry; exact PySem.EqMixed.ne_int_str (bo I q (by simp))
    | _ => exact absurd (show false = true from hs) Bool.false_ne_true
  | str i =>
    obtain ⟨t, rfl⟩ := rx
    cases y with
    | non => cases ry; exact PySem.EqNone.ne_str_none (bo I q (by simp))
    | bl j => cases ry; exact PySem.EqMixed.ne_str_bool (bo I q (by simp))
    | int j => obtain ⟨t', rfl⟩ := ry; exact PySem.EqMixed.ne_str_int (bo I q (by simp))
    | str j => obtain ⟨t', rfl⟩ := ry; exact ne_str (bo I q (congrArg not xw))
    | _ => exact absurd (show false = true from hs) Bool.false_ne_true
  | byt i =>
    obtain ⟨t, rfl⟩ := rx
    cases y with
    | byt j => obtain ⟨t', rfl⟩ := ry; exact PySem.W.ne_bytes (bo I q (congrArg not xz))
    | _ => exact absurd (show false = true from hs) Bool.false_ne_true
  | _ => cases y <;> exact absurd (show false = true from hs) Bool.false_ne_true
theorem E9 : OpR X (compareOp .Lt) (rI0 fun i j => .bl (decide (i < j))) := Ew fun _ _ _ _ _ _ _ q => lt_int q
theorem EH : OpR X (compareOp .LtE) (rI0 fun i j => .bl (decide (i <= j))) := Ew fun _ _ _ _ _ _ _ q => le_int q
theorem EO : OpR X (compareOp .Gt) (rI0 fun i j => .bl (decide (j < i))) := Ew fun _ _ _ _ _ _ _ q => gt_int q
theorem yq : OpR X (compareOp .Lt) (fun x y H Q => ∃ i j, x = .str i /\ y = .str j /\ Q (.bl (decide (i.cps.toList < j.cps.toList))) H) := by
  intro pins s σ H x y v u Q I rx ry h
  obtain ⟨i, j, rfl, rfl, q⟩ := h
  obtain ⟨t, rfl⟩ := rx
  obtain ⟨t', rfl⟩ := ry
  exact lt_str (bo I q rfl)
theorem yi : OpR X (compareOp .In) (fun x y H Q => ∃ i j, x = .str i /\ y = .str j /\ Q (.bl (!(Builtin.Str.occurrences j i 0 j.length 1).isEmpty)) H) := by
  intro pins s σ H x y v u Q I rx ry h
  obtain ⟨i, j, rfl, rfl, q⟩ := h
  obtain ⟨t, rfl⟩ := rx
  obtain ⟨t', rfl⟩ := ry
  exact in_str (bo I q rfl)
theorem OpR.or {f : Value -> Value -> Sem Value} {r r' : R2} (h : OpR X f r) (h' : OpR X f r') : OpR X f (fun x y H Q => r x y H Q \/ r' x y H Q) := by
  intro pins s σ H x y v u Q I rx ry q
  rcases q with q | q
  . exact h pins s σ H x y v u Q I rx ry q
  . exact h' pins s σ H x y v u Q I rx ry q
theorem bF (b : Expr) {op : CmpOp} (h : op ≠ .In := by decide) (h2 : op ≠ .NotIn := by decide) : behindInMarks op b = false := by
  have e1 : (op == CmpOp.In) = false := by cases op <;> first | rfl | exact absurd rfl h
  have e2 : (op == CmpOp.NotIn) = false := by cases op <;> first | rfl | exact absurd rfl h2
  cases b <;> simp [behindInMarks, e1, e2]
theorem gn {op : CmpOp} {r : R2} (ho : OpR X (compareOp op) r) (ha : PE X a ta) (hb : PE X b tb) (hm : behindInMarks op b = false) : PE X (.Compare a [op] [b] pos) (tOp r ta tb) := by
  intro pins s σ H Q I h
  exact wpAny_Compare1 (Dz ha hb I h fun v u s2 x y H2 I2 rx ry q => ho pins s2 σ H2 x y v u Q I2 rx ry q) hm
def Fx (K : PySem.W.Frag) (x : V) (H : Hp) (k : Bool) : Prop :=
  match x with
  | .non => k = false
  | .bl b => k = b
  | .int i => k = (i != 0)
  | .str y => y.length <= sizeLine /\ k = ((y.length : Int) != 0)
  | .byt y => y.size <= sizeLine /\ k = ((y.size : Int) != 0)
  | .ref p => (∃ xs, SqL K H p xs /\ k = !xs.isEmpty) \/ (∃ xs, SqT K H p xs /\ k = !xs.isEmpty) \/ ∃ kvs, H p = some (.dK kvs) /\ k = !kvs.isEmpty
  | _ => False
theorem vL {κ : Type} {kvs : List (κ × V)} {vs : List (κ × Value)} (r : KV kvs vs) : (!vs.isEmpty) = !kvs.isEmpty := by
  cases r <;> rfl
theorem oG {xs : List V} {its : List Value} (r : Vals xs its) : (!its.toArray.isEmpty) = !xs.isEmpty := by
  cases r <;> simp
theorem lR : (sizeLine : Nat) < 2 ^ 63 := by rw [sizeLine_eq]; decide
theorem Fp : FN X (fun x H Q => ∃ k, Fx X.K x H k /\ Q k H) := by
  intro pins s σ H x v Q I rx h
  obtain ⟨k, e, q⟩ := h
  have hl := lR
  have hs : sizeLine = 16777216 := sizeLine_eq
  cases x with
  | non =>
    cases rx
    have e' : k = false := e
    subst e'
    exact truthy_none ⟨H, I, q⟩
  | bl b =>
    cases rx
    have e' : k = b := e
    subst e'
    exact wpAny_truthy_bool ⟨H, I, q⟩
  | int i =>
    obtain ⟨t, rfl⟩ := rx
    have e' : k = (i != 0) := e
    subst e'
    exact PySem.P.truthy_int ⟨H, I, q⟩
  | str y =>
    obtain ⟨t, rfl⟩ := rx
    obtain ⟨hy, e'⟩ : y.length <= sizeLine /\ k = ((y.length : Int) != 0) := e
    subst e'
    exact PySem.P.truthy_str (by omega) ⟨H, I.tok _, q⟩
  | byt y =>
    obtain ⟨t, rfl⟩ := rx
    obtain ⟨hy, e'⟩ : y.size <= sizeLine /\ k = ((y.size : Int) != 0) := e
    subst e'
    exact PySem.W.truthy_bytes (by omega) ⟨H, I.tok _, q⟩
  | ref p =>
    cases rx
    have e' : (∃ xs, SqL X.K H p xs /\ k = !xs.isEmpty) \/ (∃ xs, SqT X.K H p xs /\ k = !xs.isEmpty) \/ ∃ kvs, H p = some (.dK kvs) /\ k = !kvs.isEmpty := e
    rcases e' with ⟨xs, hx, e'⟩ | ⟨xs, hx, e'⟩ | ⟨kvs, hx, e'⟩
    . subst e'
      obtain ⟨its, r, pl, hz⟩ := I.list hx
      have hlen := r.length
      exact wpAny_truthy_list pl.isList (by simp only [List.size_toArray]; omega) ⟨H, I.tok _, by rw [oG r]; exact q⟩
    . subst e'
      obtain ⟨its, r, pl, hz⟩ := I.tuple hx
      have hlen := r.length
      exact truthy_tuple pl (by simp only [List.size_toArray]; omega) ⟨H, I.tok _, by rw [oG r]; exact q⟩
    . subst e'
      obtain ⟨hz, hS, vs, r, m⟩ : kvs.length <= sizeLine /\ (p == sysModules) = false /\ ∃ vs, KV kvs vs /\ s.heap.DictOf (bT X.prog X.w) p vs := I.hok p _ hx
      have hlen : kvs.length = vs.length := Paired.length r
      exact wpAny_truthy_dict hS m (by omega) ⟨H, I.tok _, by rw [vL r]; exact q⟩
  | _ => exact (show False from e).elim
theorem vK : OpR X (binaryOp .Add) (fun x y H Q => ∃ i j, x = .str i /\ y = .str j /\ i.length + j.length <= sizeLine /\ Q (.str (i ++ j)) H) := by
  intro pins s σ H x y v u Q I rx ry h
  obtain ⟨i, j, rfl, rfl, hz, q⟩ := h
  obtain ⟨t, rfl⟩ := rx
  obtain ⟨t', rfl⟩ := ry
  exact add_str (fun t' tk => ⟨.str (i ++ j), H, I.tok _, ⟨_, rfl⟩, q⟩) hz
theorem eU {x : V} {us : List Value} (r : Vals [x] us) : ∃ u, us = [u] /\ RelV x u := by
  cases r with
  | cons r1 r2 => cases r2; exact ⟨_, rfl, r1⟩
theorem wq {x y : V} {us : List Value} (r : Vals [x, y] us) : ∃ u w', us = [u, w'] /\ RelV x u /\ RelV y w' := by
  cases r with
  | cons r1 r2 =>
    cases r2 with
    | cons r3 r4 => cases r4; exact ⟨_, _, rfl, r1, r3⟩
theorem xU (hc : X.calm = true) : CallR X (.builtin "max") (fun xs H Q => ∃ i j, xs = [.int i, .int j] /\ Q (.int (if j > i then j else i)) H) := by
  intro pins s σ H xs us Q I r h
  obtain ⟨i, j, rfl, q⟩ := h
  obtain ⟨u, w', rfl, ⟨t, rfl⟩, ⟨t', rfl⟩⟩ := wq r
  refine max_two_ints (I.ok.hd hc) fun h' tk k => ⟨_, H, I.kept k, ?_, q⟩
  by_cases hj : j > i
  . rw [if_pos hj, if_pos hj]; exact ⟨_, rfl⟩
  . rw [if_neg hj, if_neg hj]; exact ⟨_, rfl⟩
theorem yE (hc : X.calm = true) : CallR X (.builtin "min") (fun xs H Q => ∃ i j, xs = [.int i, .int j] /\ Q (.int (if j < i then j else i)) H) := by
  intro pins s σ H xs us Q I r h
  obtain ⟨i, j, rfl, q⟩ := h
  obtain ⟨u, w', rfl, ⟨t, rfl⟩, ⟨t', rfl⟩⟩ := wq r
  refine min_two_ints (I.ok.hd hc) fun h' tk k => ⟨_, H, I.kept k, ?_, q⟩
  by_cases hj : j < i
  . rw [if_pos hj, if_pos hj]; exact ⟨_, rfl⟩
  . rw [if_neg hj, if_neg hj]; exact ⟨_, rfl⟩
theorem ye : CallR X (.type "int") (fun xs H Q => (∃ i, xs = [.int i] /\ Q (.int i) H) \/ ∃ k, xs = [.bl k] /\ Q (.int (if k then 1 else 0)) H) := by
  intro pins s σ H xs us Q I r h
  rcases h with ⟨i, rfl, q⟩ | ⟨k, rfl, q⟩
  . obtain ⟨u, rfl, t, rfl⟩ := eU r
    exact call_int_int ⟨.int i, H, I, ⟨_, rfl⟩, q⟩
  . obtain ⟨u, rfl, r1⟩ := eU r
    cases r1
    exact call_int_bool ⟨.int (if k then 1 else 0), H, I.tok _, ⟨_, rfl⟩, q⟩
def Fw (K : PySem.W.Frag) (x : V) (H : Hp) (n : Nat) : Prop :=
  match x with
  | .str y => y.length <= sizeLine /\ n = y.length
  | .byt y => y.size <= sizeLine /\ n = y.size
  | .ref p => (∃ xs, SqL K H p xs /\ n = xs.length) \/ ∃ xs, SqT K H p xs /\ n = xs.length
  | _ => False
theorem yZ : CallR X (.builtin "len") (fun xs H Q => ∃ x n, xs = [x] /\ Fw X.K x H n /\ Q (.int n) H) := by
  intro pins s σ H xs us Q I r h
  obtain ⟨x, n, rfl, e, q⟩ := h
  obtain ⟨u, rfl, rx⟩ := eU r
  have hl := lR
  have hs : sizeLine = 16777216 := sizeLine_eq
  cases x with
  | str y =>
    obtain ⟨t, rfl⟩ := rx
    obtain ⟨hy, e'⟩ : y.length <= sizeLine /\ n = y.length := e
    subst e'
    exact len_str (by omega) ⟨.int _, H, I.tok _, ⟨_, rfl⟩, q⟩
  | byt y =>
    obtain ⟨t, rfl⟩ := rx
    obtain ⟨hy, e'⟩ : y.size <= sizeLine /\ n = y.size := e
    subst e'
    exact PySem.W.len_bytes (by omega) ⟨.int _, H, I.tok _, ⟨_, rfl⟩, q⟩
  | ref p =>
    cases rx
    have e' : (∃ xs, SqL X.K H p xs /\ n = xs.length) \/ ∃ xs, SqT X.K H p xs /\ n = xs.length := e
    rcases e' with ⟨xs, hx, e'⟩ | ⟨xs, hx, e'⟩
    . subst e'
      obtain ⟨its, r', pl, hz⟩ := I.list hx
      have hlen := r'.length
      exact Calls.call_len_list pl.isList (by simp only [List.size_toArray]; omega) ⟨.int xs.length, H, I.tok _, ⟨_, by simp only [List.size_toArray]; rw [hlen]⟩, q⟩
    . subst e'
      obtain ⟨its, r', pl, hz⟩ := I.tuple hx
      have hlen := r'.length
      exact len_tuple pl (by simp only [List.size_toArray]; omega) ⟨.int xs.length, H, I.tok _, ⟨_, by simp only [List.size_toArray]; rw [hlen]⟩, q⟩
  | _ => exact (show False from e).elim
end
end L2
namespace L2
open PySem PySem.Spec PyProof.Rows
structure ObjM (h : Heap) (x dx C : Addr) (mA : Str -> Option Value) : Prop where
  obj : h.get? x = some (PySem.W.instObj C dx)
  ns : h.Ns1 dx mA
  ne : dx ≠ x
theorem yl {h : Heap} {dx : Addr} {mA : Str -> Option Value} (n : h.Ns1 dx mA) : ∃ od, h.get? dx = some od /\ ∀ name, PySem.W.lookIn name od = some (mA name) := by
  obtain ⟨o, es, ep, ho, hd, hk, _, hm⟩ := n
  refine ⟨o, ho, fun name => ?_⟩
  have e := hm name
  unfold nsFind findBy at e
  rw [<- Array.find?_toList] at e
  unfold PySem.W.lookIn
  rw [hd]
  dsimp only
  split
  . rename_i y q
    rw [q] at e
    exact congrArg some e
  . rename_i q
    rw [q] at e
    have a : es.toList.any (·.refKey) = false := by
      rw [List.any_eq_false]
      intro y hy
      obtain ⟨z, t, hkey⟩ := hk y (Array.mem_toList_iff.mp hy)
      simp [DictEntry.refKey, hkey]
    have a' : ¬ es.toList.any (·.refKey) = true := by rw [a]; exact Bool.false_ne_true
    rw [if_neg a']
    exact congrArg some e
theorem ObjM.look {h : Heap} {x dx C : Addr} {mA : Str -> Option Value} (I : ObjM h x dx C mA) : ∃ od, PySem.W.InstAt h x (PySem.W.instObj C dx) C (some od) /\ ∀ name, PySem.W.lookIn name od = some (mA name) :=
  let ⟨od, ho, hl⟩ := yl I.ns
  ⟨od, ⟨I.obj, rfl, rfl, ho⟩, hl⟩
section
variable {prog : Program} {w : World} {A : Around} {E : Value -> Shared -> Prop} {s : Shared} {K : PySem.W.Frag} {x dx C f : Addr} {mA : Str -> Option Value} {name : Str} {v : Value}
theorem Ba {expr : Bool} {Q : Value -> Shared -> Prop} (X : K.In s.heap) (I : ObjM s.heap x dx C mA) (hg : PySem.W.plainGet K C name = true) (hh : PySem.W.hasDictIn K C = true)
    (ha : PySem.W.findIn K (.ref C) name = some none) (hv : mA name = some v) (hv' : PySem.W.handedIn v = true) (h : Q v { s with toks := s.toks + 1 }) :
    wpAny (model prog w) A (getAttr (.ref x) name expr) Q E s := by
  obtain ⟨od, J, hl⟩ := I.look
  exact PySem.W.get_value X J (PySem.W.plainGet_of hg).1 (PySem.W.findObj_own hh ha rfl (by rw [hl, hv])) hv' h
theorem y9 {pl : Sem Bool} {Q : Value × List Value -> Shared -> Prop} (X : K.In s.heap) (I : ObjM s.heap x dx C mA) (hg : PySem.W.plainGet K C name = true)
    (hf : PySem.W.findIn K (.ref C) name = some (some (.ref f))) (ht : PySem.W.isFn K (.ref f) = true) (hv : mA name = none) (h : Q (.ref f, [.ref x]) s) :
    wpAny (model prog w) A (getMethod (.ref x) name pl) Q E s := by
  obtain ⟨od, J, hl⟩ := I.look
  exact PySem.W.method_fn X J (PySem.W.plainGet_of hg).1 (PySem.W.plainGet_of hg).2 hf (beq_iff_eq.mp ht) (by show (PySem.W.lookIn name od).map (·.isSome) = some false; rw [hl, hv]; rfl) h
theorem BU {ns : List Str} {Q : Unit -> Shared -> Prop} (X : K.In s.heap) (I : ObjM s.heap x dx C mA)
    (hs : PySem.W.findIn K (.ref C) "__setattr__" = some (some (.builtin "object.__setattr__"))) (hp : PySem.W.plainOver K C = true) (ht : PySem.W.takerIn K C name = some none) (hh : PySem.W.hasDictIn K C = true)
    (hw : PySem.Within mA ns) (hsz : ns.length <= sizeLine)
    (h : ∀ h', ObjM h' x dx C (fun y => if y = name then some v else mA y) -> Heap.SameBut dx s.heap h' -> Q () { s with heap := h', toks := s.toks + 2 }) :
    wpAny (model prog w) A (setAttr (.ref x) name v) Q E s := by
  obtain ⟨od, J, hl⟩ := I.look
  refine PySem.W.set_plain X J hs (PySem.W.osa_open (s := { s with toks := s.toks + 1 }) (r := none) X J hp ht fun b => ?_)
  obtain ⟨cd, hc, hd'⟩ := PySem.W.any_some hh
  have hx : s.heap.get? x = some ⟨.ref C, some dx, .plain, #[]⟩ := I.obj
  refine wpAny_bind (wpAny_pure (wpAny_bind (wpAny_bind (wpAny_loadPart hx (wpAny_bind (PySem.W.Looks.here (s := { s with toks := s.toks + 1 }) (PySem.W.looks_clsIn X hc) ?_))))))
  rw [hd']
  refine wpAny_pure (a := some dx) (wpAny_bind (wpAny_pure (wpAny_bind ?_)))
  refine wpAny_nsSet1 (s := { s with toks := s.toks + 1 }) I.ns fun h' hn2 hs2 => ?_
  obtain ⟨oD, esD, epD, hoD, hdD, hcD⟩ := hn2.count (PySem.Within.cons name v hw)
  refine wpAny_bind (wpAny_lookBehind hoD (by rw [hdD]; exact pastItsLine_dict (Nat.le_trans hcD (by rw [List.length_cons]; omega))) ?_)
  exact wpAny_pure (h _ ⟨(hs2.2 _ (Ne.symm I.ne)).trans I.obj, hn2, I.ne⟩ hs2)
theorem Ah {R : Result -> Shared -> Prop} {vs : List Value} {kw : List (Str × Value)} (X : K.In s.heap) (hm : PySem.W.makesIn K C = true)
    (hi : PySem.W.findIn K (.ref C) "__init__" = some (some (.ref f))) (hf : PySem.W.typeIn K (.ref f) = some (.type "function"))
    (h : codeAny (model prog w) (A.under (.builtin "type.__call__" ⟨.ref C :: vs, kw⟩)) (.call (.ref f) ⟨.ref (s.heap.objs.size + 1) :: vs, kw⟩) (PySem.W.InitBack (s.heap.objs.size + 1) R)
      { s with heap := (s.heap.push PySem.W.emptyDict).push (PySem.W.instObj C s.heap.objs.size) }) :
    codeAny (model prog w) A (.call (.ref C) ⟨vs, kw⟩) R s := by
  obtain ⟨hh, g, d, t, os⟩ := s
  exact PySem.W.make_core (PySem.W.makes_of X hm) (PySem.W.looks_findIn X hi) (fun self => PySem.W.bind_fn X self hf) (.inl rfl) h
end
def dZ (f : Str) (v : V) : List (Str × V) -> List (Str × V)
  | [] => [(f, v)]
  | (g, x) :: r => if g = f then (g, v) :: r else (g, x) :: dZ f v r
theorem mV (f g : Str) (v : V) : ∀ fs : List (Str × V), (dZ f v fs).lookup g = if g = f then some v else fs.lookup g
  | [] => by
    show List.lookup g [(f, v)] = _
    by_cases h : g = f
    . have hb : (g == f) = true := beq_iff_eq.mpr h
      simp only [List.lookup, hb, if_pos h]
    . have hb : (g == f) = false := beq_eq_false_iff_ne.mpr h
      simp only [List.lookup, hb, if_neg h]
  | (k, x) :: r => by
    have ih := mV f g v r
    rw [show dZ f v ((k, x) :: r) = (if k = f then (k, v) :: r else (k, x) :: dZ f v r) from rfl]
    by_cases hk : k = f
    . rw [if_pos hk]
      by_cases h : g = k
      . have hb : (g == k) = true := beq_iff_eq.mpr h
        simp only [List.lookup, hb, if_pos (h.trans hk)]
      . have hb : (g == k) = false := beq_eq_false_iff_ne.mpr h
        simp only [List.lookup, hb, if_neg (fun e : g = f => h (e.trans hk.symm))]
    . rw [if_neg hk]
      by_cases h : g = k
      . have hb : (g == k) = true := beq_iff_eq.mpr h
        simp only [List.lookup, hb, if_neg (fun e : g = f => hk (h.symm.trans e))]
      . have hb : (g == k) = false := beq_eq_false_iff_ne.mpr h
        simp only [List.lookup, hb]
        exact ih
theorem mq (f : Str) (v : V) : ∀ fs : List (Str × V), f ∈ (dZ f v fs).map (·.1) /\ ∀ g, g ∈ fs.map (·.1) -> g ∈ (dZ f v fs).map (·.1)
  | [] => ⟨by simp [dZ], fun g h => by simp at h⟩
  | (k, x) :: r => by
    obtain ⟨i1, i2⟩ := mq f v r
    rw [show dZ f v ((k, x) :: r) = (if k = f then (k, v) :: r else (k, x) :: dZ f v r) from rfl]
    by_cases hk : k = f
    . rw [if_pos hk]
      subst hk
      exact ⟨by simp, fun g h => by simpa using h⟩
    . rw [if_neg hk]
      refine ⟨?_, fun g h => ?_⟩
      . rw [List.map_cons]
        exact List.mem_cons_of_mem _ i1
      . rw [List.map_cons] at h ⊢
        rcases List.mem_cons.mp h with e | e
        . exact List.mem_cons.mpr (.inl e)
        . exact List.mem_cons_of_mem _ (i2 g e)
theorem mW (f : Str) (v : V) : ∀ fs : List (Str × V), (dZ f v fs).length <= fs.length + 1
  | [] => by simp [dZ]
  | (k, x) :: r => by
    have ih := mW f v r
    rw [show dZ f v ((k, x) :: r) = (if k = f then (k, v) :: r else (k, x) :: dZ f v r) from rfl]
    by_cases hk : k = f
    . rw [if_pos hk, List.length_cons, List.length_cons]; omega
    . rw [if_neg hk, List.length_cons, List.length_cons]; omega
theorem RelO.some_of {v : V} {o : Option Value} (r : RelO (some v) o) : ∃ u, o = some u /\ RelV v u := by
  cases o with
  | none => exact (show False from r).elim
  | some u => exact ⟨u, rfl, r⟩
theorem RelO.none_of {o : Option Value} (r : RelO none o) : o = none := by
  cases o with
  | none => rfl
  | some u => exact (show False from r).elim
theorem yz {v : V} {u : Value} (r : RelV v u) : PySem.W.handedIn u = true := by
  cases v with
  | non => cases (show u = Value.none from r); rfl
  | bl b => cases (show u = Value.bool b from r); rfl
  | int i => obtain ⟨t, e⟩ := (show ∃ t, u = Value.int i t from r); cases e; rfl
  | str x => obtain ⟨t, e⟩ := (show ∃ t, u = Value.str x t from r); cases e; rfl
  | byt b => obtain ⟨t, e⟩ := (show ∃ t, u = Value.bytes b t from r); cases e; rfl
  | flt b => obtain ⟨t, e⟩ := (show ∃ t, u = Value.float b t from r); cases e; rfl
  | ref a => cases (show u = Value.ref a from r); rfl
  | ty n => cases (show u = Value.type n from r); rfl
section
variable {P : Program} {w : World} {H H' : Hp} {h h' : Heap} {a C dx : Addr} {fs fs' : List (Str × V)}
theorem nO (hok : HOk P w H h) (e : H a = some (.ins C dx fs)) : ∃ mA, ObjM h a dx C mA /\ (∀ f, RelO (fs.lookup f) (mA f)) /\ PySem.Within mA (fs.map (·.1)) /\ fs.length <= 1000 /\ H dx = some (.own a) := by
  obtain ⟨d, z, ne, ob, mA, n, r, q⟩ := (show ObjOk P w H h a (.ins C dx fs) from hok a _ e)
  exact ⟨mA, ⟨ob, n, ne⟩, r, q, z, d⟩
end
structure Cls (K : PySem.W.Frag) (C : Addr) : Prop where
  pg : PySem.W.plainGet K C Str.empty = true
  hd : PySem.W.hasDictIn K C = true
  po : PySem.W.plainOver K C = true
  sa : PySem.W.findIn K (.ref C) "__setattr__" = some (some (.builtin "object.__setattr__"))
theorem Cls.get {K : PySem.W.Frag} {C : Addr} (c : Cls K C) (f : Str) : PySem.W.plainGet K C f = true := c.pg
def NoAttr (K : PySem.W.Frag) (C : Addr) (f : Str) : Prop := PySem.W.findIn K (.ref C) f = some none
theorem NoAttr.taker {K : PySem.W.Frag} {C : Addr} {f : Str} (n : NoAttr K C f) : PySem.W.takerIn K C f = some none := by
  unfold PySem.W.takerIn
  rw [show PySem.W.findIn K (.ref C) f = some none from n]
  rfl
structure hG (K : PySem.W.Frag) (C : Addr) (m : Str) (f : Addr) : Prop where
  at_ : PySem.W.findIn K (.ref C) m = some (some (.ref f))
  fn : PySem.W.isFn K (.ref f) = true
  kp : PySem.W.keepIn K (.ref f) = true
section
variable {X : Cx} {pins : List (Addr × Obj)} {σ : St} {H : Hp} {s : Shared} {a C dx : Addr} {fs : List (Str × V)} {f : Str} {v : V} {A : Around} {E : Value -> Shared -> Prop}
theorem v8 {b : Bool} {Q : Value -> Shared -> Prop} (I : Inv X pins σ H s) (e : H a = some (.ins C dx fs)) (c : Cls X.K C) (n : NoAttr X.K C f) (l : fs.lookup f = some v)
    (h : ∀ u s', Inv X pins σ H s' -> RelV v u -> Q u s') : wpAny (model X.prog X.w) A (getAttr (.ref a) f b) Q E s := by
  obtain ⟨mA, O, r, _, _, _⟩ := nO I.hok e
  obtain ⟨u, hu, ru⟩ := RelO.some_of (v := v) (o := mA f) (by rw [<- l]; exact r f)
  exact Ba I.kIn O (c.get f) c.hd n hu (yz ru) (h u _ (I.tok _) ru)
theorem n5 {m : Str} {g : Addr} {pl : Sem Bool} {Q : Value × List Value -> Shared -> Prop} (I : Inv X pins σ H s) (e : H a = some (.ins C dx fs)) (c : Cls X.K C) (k : hG X.K C m g) (l : fs.lookup m = none)
    (h : Q (.ref g, [.ref a]) s) : wpAny (model X.prog X.w) A (getMethod (.ref a) m pl) Q E s := by
  obtain ⟨mA, O, r, _, _, _⟩ := nO I.hok e
  have hn : mA m = none := RelO.none_of (by rw [<- l]; exact r m)
  exact y9 I.kIn O (c.get m) k.at_ k.fn hn h
theorem v6 {y : V} {u : Value} {Q : Unit -> Shared -> Prop} (I : Inv X pins σ H s) (e : H a = some (.ins C dx fs)) (c : Cls X.K C) (n : NoAttr X.K C f) (hl : fs.length < 1000) (ry : RelV y u)
    (h : ∀ s', Inv X pins σ (upd H a (.ins C dx (dZ f y fs))) s' -> Q () s') : wpAny (model X.prog X.w) A (setAttr (.ref a) f u) Q E s := by
  obtain ⟨mA, O, r, wi, _, ho⟩ := nO I.hok e
  have hz : (fs.map (·.1)).length <= sizeLine := by rw [List.length_map, sizeLine_eq]; omega
  refine BU I.kIn O c.sa c.po n.taker c.hd wi hz fun h' O' sb => h _ ?_
  have hd : ∃ o, h'.get? dx = some o := let ⟨o, _, _, e', _⟩ := O'.ns; ⟨o, e'⟩
  refine I.write (x := a) (e := dx) (by rw [e]; exact True.intro) (.inr ho) (fun b q hb z => (sb.2 b hb).trans z) hd ?_
  refine ⟨by rw [aj O.ne]; exact ho, ?_, O.ne, O'.obj, _, O'.ns, fun g => ?_, fun g hg => ?_⟩
  . have := mW f y fs; omega
  . show RelO ((dZ f y fs).lookup g) (if g = f then some u else mA g)
    rw [mV]
    by_cases q : g = f
    . rw [if_pos q, if_pos q]; exact ry
    . rw [if_neg q, if_neg q]; exact r g
  . by_cases q : g = f
    . rw [q]; exact (mq f y fs).1
    . refine (mq f y fs).2 g (wi g fun z => hg ?_)
      show (if g = f then some u else mA g) = none
      rw [if_neg q]; exact z
theorem Inv.made (I : Inv X pins σ H s) : Inv X pins σ (upd (upd H s.heap.objs.size (.own (s.heap.objs.size + 1))) (s.heap.objs.size + 1) (.ins C s.heap.objs.size []))
    { s with heap := (s.heap.push PySem.W.emptyDict).push (PySem.W.instObj C s.heap.objs.size) } := by
  have e1 : (s.heap.push PySem.W.emptyDict).get? s.heap.objs.size = some PySem.W.emptyDict := Heap.get?_push_size s.heap rfl
  have e2 : ((s.heap.push PySem.W.emptyDict).push (PySem.W.instObj C s.heap.objs.size)).get? (s.heap.objs.size + 1) = some (PySem.W.instObj C s.heap.objs.size) := by
    have := Heap.get?_push_size (s.heap.push PySem.W.emptyDict) (o := PySem.W.instObj C s.heap.objs.size) rfl
    rwa [Heap.size_push] at this
  have e3 : (s.heap.push PySem.W.emptyDict).Ns s.heap.objs.size (fun _ => none) := ⟨PySem.W.emptyDict, #[], _, e1, rfl, (fun e he => absurd he (by simp)), fun _ => rfl⟩
  have I1 := I.laid (a := s.heap.objs.size) (o := .own (s.heap.objs.size + 1)) (h' := s.heap.push PySem.W.emptyDict) (t' := s.toks) (fun b u q => Heap.get?_push_of_some _ q) (Nat.le_refl _) ⟨_, e1⟩
  refine I1.laid (a := s.heap.objs.size + 1) (o := .ins C s.heap.objs.size []) (t' := s.toks) (fun b u q => Heap.get?_push_of_some _ q) (Nat.le_of_eq (Heap.size_push _ _)) ?_
  have ne : s.heap.objs.size ≠ s.heap.objs.size + 1 := Nat.ne_of_lt (Nat.lt_succ_self _)
  refine ⟨by rw [aj ne, ad], Nat.zero_le _, ne, e2, fun _ => none, (Heap.Ns1.of_empty e3).at fun o q => Heap.get?_push_of_some _ q, fun _ => True.intro, fun y hy => absurd rfl hy⟩
theorem BI {prog : Program} {w : World} {env : Env} {e : Expr} {f : Str} {pos : Pos} {s : Shared} {Q : Value -> Shared -> Prop} (hb : attributeBase e f env (eval e env) = eval e env)
    (h : wpAny (model prog w) A (eval e env) (fun o s₁ => wpAny (model prog w) A (getAttr o f true) Q E s₁) E s) : wpAny (model prog w) A (eval (.Attribute e f pos) env) Q E s :=
  Attribute_any_ h (by rw [arm_eval_Attribute, hb])
end
section
variable {X : Cx} {o e value : Expr} {f : Str} {pos pos' tpos : Pos} {ta tv : TE}
end
section
variable {X : Cx} {pins : List (Addr × Obj)} {σ : St} {H : Hp} {s : Shared} {A : Around} {E : Value -> Shared -> Prop} {Q : Value -> Shared -> Prop} {c : Value} {b : Bool}
inductive jW (K : PySem.W.Frag) (H : Hp) : V -> Value -> Prop where
  | non : jW K H .non (.type "NoneType")
  | bl (x : Bool) : jW K H (.bl x) (.type "bool")
  | int (i : Int) : jW K H (.int i) (.type "int")
  | str (x : Str) : jW K H (.str x) (.type "str")
  | flt (x : UInt64) : jW K H (.flt x) (.type "float")
  | lst {a : Addr} {xs : List V} (e : H a = some (.lst xs)) : jW K H (.ref a) (.type "list")
  | frz {a : Addr} {o : Obj} {xs : List V} (e : H a = some (.frz o (.lst xs))) : jW K H (.ref a) (.type "list")
  | tup {a : Addr} {xs : List V} (e : H a = some (.tup xs)) : jW K H (.ref a) (.type "tuple")
  | dK {a : Addr} {kvs : List (Key × V)} (e : H a = some (.dK kvs)) : jW K H (.ref a) (.type "dict")
  | dT {a : Addr} {kvs : List (List Key × V)} (e : H a = some (.dT kvs)) : jW K H (.ref a) (.type "dict")
  | ins {a C dx : Addr} {fs : List (Str × V)} (e : H a = some (.ins C dx fs)) (cl : Cls K C) (ha : PySem.W.findIn K (.ref C) "__class__" = some (some (.builtin "object.__class__")))
      (hn : PySem.W.specialIn K (.builtin "object.__class__") "__get__" = some (some (.builtin "getset_descriptor.__get__"))) (htk : PySem.W.takesIn K (.builtin "object.__class__") = some true)
      (hm : PySem.W.mroIn K C (.type "object") = some true) : jW K H (.ref a) (.ref C)
theorem yH {x : V} {u t : Value} (I : Inv X pins σ H s) (rx : RelV x u) (ty : jW X.K H x t) (e : PySem.W.kitOne X.K t c = some b) (h : ∀ tk, Q (.bool b) { s with toks := tk }) :
    wpAny (model X.prog X.w) A (call (.builtin "isinstance") [u, c]) Q E s := by
  cases ty with
  | non => cases (show u = Value.none from rx); exact PySem.W.kia_one PySem.W.kitx_none I.kIn True.intro e (fun z => nomatch z) h
  | bl y => cases (show u = Value.bool y from rx); exact PySem.W.kia_one PySem.W.kitx_bool I.kIn True.intro e (fun z => nomatch z) h
  | int i => obtain ⟨t, q⟩ := (show ∃ t, u = Value.int i t from rx); cases q; exact PySem.W.kia_one PySem.W.kitx_int I.kIn True.intro e (fun z => nomatch z) h
  | str y => obtain ⟨t, q⟩ := (show ∃ t, u = Value.str y t from rx); cases q; exact PySem.W.kia_one PySem.W.kitx_str I.kIn True.intro e (fun z => nomatch z) h
  | flt y => obtain ⟨t, q⟩ := (show ∃ t, u = Value.float y t from rx); cases q; exact PySem.W.kia_one PySem.W.kitx_float I.kIn True.intro e (fun z => nomatch z) h
  | @lst a xs ea =>
    cases (show u = Value.ref a from rx)
    obtain ⟨_, _, n, _, h1⟩ := (show ObjOk X.prog X.w H s.heap a (.lst xs) from I.hok a _ ea)
    exact PySem.W.kia_one PySem.W.kitx_list I.kIn ⟨_, h1, rfl⟩ e (fun z => nomatch z) h
  | @frz a ob xs ea =>
    cases (show u = Value.ref a from rx)
    obtain ⟨_, _, _, n, _, h1⟩ := (show ObjOk X.prog X.w H s.heap a (.frz ob (.lst xs)) from I.hok a _ ea)
    exact PySem.W.kia_one PySem.W.kitx_list I.kIn ⟨_, h1, rfl⟩ e (fun z => nomatch z) h
  | @tup a xs ea =>
    cases (show u = Value.ref a from rx)
    obtain ⟨_, _, _, p⟩ := (show ObjOk X.prog X.w H s.heap a (.tup xs) from I.hok a _ ea)
    obtain ⟨o, h1, h2, _⟩ := p
    exact PySem.W.kia_one PySem.W.kitx_tuple I.kIn ⟨o, h1, h2⟩ e (fun z => nomatch z) h
  | @dK a kvs ea =>
    cases (show u = Value.ref a from rx)
    obtain ⟨_, _, vs, _, p⟩ := (show ObjOk X.prog X.w H s.heap a (.dK kvs) from I.hok a _ ea)
    obtain ⟨o, es, ep, h1, h2, _⟩ := p
    exact PySem.W.kia_one PySem.W.kitx_dict I.kIn ⟨o, h1, h2.1⟩ e (fun z => nomatch z) h
  | @dT a kvs ea =>
    cases (show u = Value.ref a from rx)
    obtain ⟨_, _, xs, _, o, es, ep, h1, h2, _⟩ := (show ObjOk X.prog X.w H s.heap a (.dT kvs) from I.hok a _ ea)
    exact PySem.W.kia_one PySem.W.kitx_dict I.kIn ⟨o, h1, h2.1⟩ e (fun z => nomatch z) h
  | @ins a C dx fs ea cl ha hn htk hm =>
    cases (show u = Value.ref a from rx)
    obtain ⟨mA, O, _⟩ := nO I.hok ea
    obtain ⟨od, J, _⟩ := O.look
    exact PySem.W.kia_one (PySem.W.kitx_own (cl.get _) cl.hd ha hn htk hm) I.kIn J e (fun z => nomatch z) h
end
end L2
namespace L2
open PySem PySem.Spec PyProof.Rows
structure Room (k : Nat) (A : Around) : Prop where
  hd : A.handled = none
  dp : A.depth + 3 * k + 5 < recursionLimit
  un : A.units + 16 * k + 200 < cLine
theorem Room.mono {j k : Nat} {A : Around} (r : Room k A) (h : j <= k) : Room j A := ⟨r.hd, by have := r.dp; omega, by have := r.un; omega⟩
theorem Room.deeper {k : Nat} {A : Around} (r : Room (k + 1) A) (env : Env) : Room k (A.deeper env) :=
  ⟨r.hd, by have := r.dp; show A.depth + 1 + 3 * k + 5 < _; omega, by have := r.un; show A.units + 3 + 16 * k + 200 < _; omega⟩
theorem vm {A : Around} {C : Addr} {us : List Value} {kw : List (Str × Value)} : (A.under (.builtin "type.__call__" ⟨.ref C :: us, kw⟩)).depth = A.depth + 1 := by
  first | rfl | simp [Around.under, Code.weight, Code.isCreation, Code.isGuard, Code.isCaller, Code.frames, Code.isFrame, guardIds]
theorem vY {A : Around} {C : Addr} {us : List Value} {kw : List (Str × Value)} : (A.under (.builtin "type.__call__" ⟨.ref C :: us, kw⟩)).units = A.units + 1 := by
  first | rfl | simp [Around.under, Code.cUnits, Code.frames, Code.isFrame]
theorem Room.make {k : Nat} {A : Around} (r : Room (k + 1) A) (C : Addr) (us : List Value) (kw : List (Str × Value)) : Room k (A.under (.builtin "type.__call__" ⟨.ref C :: us, kw⟩)) :=
  ⟨r.hd, by have := r.dp; rw [vm]; omega, by have := r.un; rw [vY]; omega⟩
theorem Room.depth {k : Nat} {A : Around} (r : Room k A) : A.depth < recursionLimit := by have := r.dp; omega
def yX : TA := fun _ H Q => Q [] H
def zd (ta : TE) (tr : TA) : TA := fun σ H Q => ta σ H fun x H1 => tr σ H1 fun xs H2 => Q (x :: xs) H2
section
variable {X : Cx} {e : Expr} {es : List Expr} {te : TE} {t : TA} {pos : Pos}
theorem Dw : PA X [] yX := fun _ _ _ _ H Q I h => Calls.spliced_nil ⟨[], H, I, .nil, h⟩
theorem Bx (ha : PE X e te) (hr : PA X es t) (hs : starEach (e :: es) X.env = (false, eval e X.env) :: starEach es X.env := by rfl) : PA X (e :: es) (zd te t) := by
  intro pos pins s σ H Q I h
  rw [hs]
  show wpAny _ _ (spliced ((false, eval e X.env) :: backTo pos (starEach es X.env))) _ _ s
  refine Calls.spliced_cons (thn (ha pins s σ H _ I h) fun u s1 ⟨x, H1, I1, r1, q1⟩ => ?_)
  exact thn (hr pos pins s1 σ H1 _ I1 q1) fun us s2 ⟨xs, H2, I2, r2, q2⟩ => ⟨x :: xs, H2, I2, .cons r1 r2, q2⟩
def Ff (t : TA) : TE := fun σ H Q => t σ H fun xs H1 => xs.length <= sizeLine /\ ∀ p, H1 p = none -> Q (.ref p) (upd H1 p (.tup xs))
def EX (t : TA) : TE := fun σ H Q => t σ H fun xs H1 => xs.length <= sizeLine /\ ∀ p, H1 p = none -> Q (.ref p) (upd H1 p (.lst xs))
theorem bR {x1} (h : PA X es t) : PE X (.Tuple es x1 pos) (Ff t) := by
  intro pins s σ H Q I hq
  refine wpAny_Tuple_spliced (thn (h pos pins s σ H _ I hq) fun us s1 ⟨xs, H1, I1, r, z, q⟩ => ⟨by rw [<- r.length]; exact z, ?_⟩)
  have hf : H1 s1.heap.objs.size = none := I1.hok.fresh (Nat.le_refl _)
  refine ⟨.ref s1.heap.objs.size, upd H1 s1.heap.objs.size (.tup xs), I1.laid (t' := s1.toks) (fun b u e => Heap.get?_push_of_some _ e) (Nat.le_refl _) ?_, rfl, q _ hf⟩
  exact ⟨z, us, r, ⟨_, Heap.get?_push_size _ rfl, rfl, _, rfl⟩⟩
theorem dH (h : PA X es t) : PE X (.List es pos) (EX t) := by
  intro pins s σ H Q I hq
  refine wpAny_List_spliced (thn (h pos pins s σ H _ I hq) fun us s1 ⟨xs, H1, I1, r, z, q⟩ => ⟨by rw [<- r.length]; exact z, ?_⟩)
  have hf : H1 s1.heap.objs.size = none := I1.hok.fresh (Nat.le_refl _)
  refine ⟨.ref s1.heap.objs.size, upd H1 s1.heap.objs.size (.lst xs), I1.laid (t' := s1.toks) (fun b u e => Heap.get?_push_of_some _ e) (Nat.le_refl _) ?_, rfl, q _ hf⟩
  exact ⟨z, us, 0, r, Heap.get?_push_size _ rfl⟩
end
abbrev Sp := List V -> Hp -> VK -> XK -> Prop
abbrev CXT := List Env -> Hp -> Shared -> XK -> Value -> Shared -> Prop
structure Env0 (P : Program) (w : World) (K : PySem.W.Frag) (mg : Str -> Option Value) (base : Heap) (A : Around) (outer : List Env) (s : Shared) (H : Hp) : Prop where
  frames : A.frames = some outer
  mod : Mod K mg base
  bs : ∀ b o, base.get? b = some o -> s.heap.get? b = some o /\ H b = none
  bsz : base.objs.size <= s.heap.objs.size
  funs : s.heap.FunFrames base outer
  frf : ∀ b ∈ frs outer, H b = none
  hok : HOk P w H s.heap
  bare : AllBare s.gens
def CE (outer : List Env) (P : Program) (w : World) (H : Hp) (s : Shared) (Q : VK) (u : Value) (s' : Shared) : Prop :=
  ∃ v H', s'.os = s.os /\ AllBare s'.gens /\ Un (frs outer) [] H H' s.heap s'.heap /\ HOk P w H' s'.heap /\ RelV v u /\ Q v H'
def CR (CX : CXT) (outer : List Env) (P : Program) (w : World) (H : Hp) (s : Shared) (Q : VK) (E : XK) (r : Result) (s' : Shared) : Prop :=
  match r with
  | .ok (.ret u) => CE outer P w H s Q u s'
  | .ok _ => False
  | .error e => CX outer H s E e s'
structure bw (P : Program) (w : World) (K : PySem.W.Frag) (mg : Str -> Option Value) (base : Heap) (CX : CXT) (k : Nat) (f : Addr) (fd : FuncData) (ps : List Str) (sp : Sp) : Prop where
  len : ∀ vs H Q E, sp vs H Q E -> vs.length = ps.length
  run : ∀ (A : Around) (outer : List Env) (s : Shared) (H : Hp) (args : Args) (us : List Value) (vs : List V) (Q : VK) (E : XK), Room k A -> Env0 P w K mg base A outer s H -> BindsTo s fd args (ps.zip us) -> Vals vs us -> sp vs H Q E ->
    codeAny (model P w) A (.call (.ref f) args) (CR CX outer P w H s Q E) s
theorem Env0.make {P : Program} {w : World} {K : PySem.W.Frag} {mg : Str -> Option Value} {base : Heap} {A : Around} {outer : List Env} {s : Shared} {H : Hp} (e : Env0 P w K mg base A outer s H) (C : Addr) (us : List Value) (kw : List (Str × Value)) :
    Env0 P w K mg base (A.under (.builtin "type.__call__" ⟨.ref C :: us, kw⟩)) outer s H := ⟨by first | exact e.frames | (simpa [Around.under, Code.envs, Code.isFrame, pushEnvs] using e.frames), e.mod, e.bs, e.bsz, e.funs, e.frf, e.hok, e.bare⟩
section
variable {X : Cx} {pins : List (Addr × Obj)} {σ : St} {H : Hp} {s s' : Shared}
theorem Inv.env0 (I : Inv X pins σ H s) : Env0 X.prog X.w X.K X.mg X.base X.A X.stack s H :=
  ⟨I.ok.frames, I.ok.mod, I.bs, Nat.le_trans I.ok.bsz I.sz, I.stack, I.stkFree, I.hok, I.bare⟩
theorem Inv.after {Q : VK} {u : Value} (I : Inv X pins σ H s) (h : CE X.stack X.prog X.w H s Q u s') : EP X pins σ Q u s' := by
  obtain ⟨v, H', os, bare, un, hok, r, q⟩ := h
  obtain ⟨hh, g, d, t, os'⟩ := s'
  obtain rfl : os' = s.os := os
  exact ⟨v, H', I.call (h' := hh) (g' := g) (d' := d) (t' := t) (ch := []) un hok bare (fun b z => absurd z (by simp)), r, q⟩
end
def Binds (K : PySem.W.Frag) (fd : FuncData) (ps : List Str) (ds : List Value) : Prop :=
  ∀ (s : Shared) (us : List Value), K.In s.heap -> (us ++ ds).length = ps.length -> BindsTo s fd ⟨us, []⟩ (ps.zip (us ++ ds))
theorem Binds.all {K : PySem.W.Frag} {fd : FuncData} {ps : List Str} (h : ∀ us : List Value, us.length = ps.length -> bindArgs fd ⟨us, []⟩ = pure (ps.zip us)) : Binds K fd ps [] := fun s us _ hl => by
  rw [List.append_nil] at hl ⊢
  exact .of_eq (h us hl)
section
variable {X : Cx} {CX : CXT} {k : Nat} {f C : Addr} {fd : FuncData} {ps : List Str} {sp : Sp} {dvs : List V} {ds : List Value} {E : XK} {x m : Str} {p pos apos : Pos} {e o : Expr} {es : List Expr} {ta : TE} {t : TA}
structure Mk (K : PySem.W.Frag) (C f : Addr) : Prop where
  makes : PySem.W.makesIn K C = true
  init : PySem.W.findIn K (.ref C) "__init__" = some (some (.ref f))
  fn : PySem.W.isFn K (.ref f) = true
  kp : PySem.W.keepIn K (.ref C) = true
end
section
variable {X : Cx} {CX : CXT} {k : Nat} {f C : Addr} {fd : FuncData} {ps ks : List Str} {sp : Sp} {E : XK} {x m : Str} {p pos apos kpos : Pos} {e o : Expr} {es : List Expr} {kws : List Keyword} {te ta : TE} {t tk : TA} {nm : Option Str}
variable {g : List Value -> List Value -> List Value} {gV : List V -> List V -> List V}
end
structure aH (N P : List Str) (sc : Scope) : Prop where
  kind : sc.kind = .function
  co : sc.isCoroutine = false
  gen : sc.isGenerator = false
  nd : N.Nodup
  pre : N.take P.length = P
  par : ∀ x ∈ P, sc.names.lookup x = some .local \/ sc.names.lookup x = some .cell
  nofree : ∀ y ∈ sc.names, y.2 ≠ .free
theorem qP {kindOf : Str -> Option NameKind} {x : Str} : ∀ {binds : List (Str × Value)} {m : Str -> Option Value}, (∀ v, (x, v) ∉ binds) -> bindL kindOf binds m x = m x
  | [], _, _ => rfl
  | (n, v) :: r, m, h => by
    unfold bindL
    rw [qP fun w hw => h w (List.mem_cons_of_mem _ hw)]
    split
    . have : x ≠ n := by rintro rfl; exact h v List.mem_cons_self
      simp [this]
    . rfl
theorem qV {kindOf : Str -> Option NameKind} {x : Str} : ∀ {binds : List (Str × Value)} {m : Str -> Option Value}, (∀ v, (x, v) ∉ binds) -> bindC kindOf binds m x = m x
  | [], _, _ => rfl
  | (n, v) :: r, m, h => by
    unfold bindC
    rw [qV fun w hw => h w (List.mem_cons_of_mem _ hw)]
    split
    . rfl
    . have : x ≠ n := by rintro rfl; exact h v List.mem_cons_self
      simp [this]
theorem qC {kindOf : Str -> Option NameKind} {x : Str} {v : Value} : ∀ {P : List Str} {vs : List Value} {i : Nat} {m : Str -> Option Value}, P.Nodup -> P[i]? = some x -> vs[i]? = some v -> kindOf x = some .local ->
    bindL kindOf (P.zip vs) m x = some v
  | [], _, _, _, _, h, _, _ => by simp at h
  | _ :: _, [], _, _, _, _, h, _ => by simp at h
  | p :: P, w :: vs, 0, m, nd, h1, h2, hk => by
    simp at h1 h2; subst h1; subst h2
    show bindL kindOf ((p, w) :: P.zip vs) m p = _
    unfold bindL
    rw [qP fun v hv => (List.nodup_cons.mp nd).1 (List.of_mem_zip hv).1, if_pos hk]
    simp
  | p :: P, w :: vs, i + 1, m, nd, h1, h2, hk => by
    show bindL kindOf ((p, w) :: P.zip vs) m x = _
    unfold bindL
    exact qC (i := i) (List.nodup_cons.mp nd).2 (by simpa using h1) (by simpa using h2) hk
theorem qK {kindOf : Str -> Option NameKind} {x : Str} {v : Value} : ∀ {P : List Str} {vs : List Value} {i : Nat} {m : Str -> Option Value}, P.Nodup -> P[i]? = some x -> vs[i]? = some v -> kindOf x ≠ some .local ->
    bindC kindOf (P.zip vs) m x = some v
  | [], _, _, _, _, h, _, _ => by simp at h
  | _ :: _, [], _, _, _, _, h, _ => by simp at h
  | p :: P, w :: vs, 0, m, nd, h1, h2, hk => by
    simp at h1 h2; subst h1; subst h2
    show bindC kindOf ((p, w) :: P.zip vs) m p = _
    unfold bindC
    rw [qV fun v hv => (List.nodup_cons.mp nd).1 (List.of_mem_zip hv).1, if_neg hk]
    simp
  | p :: P, w :: vs, i + 1, m, nd, h1, h2, hk => by
    show bindC kindOf ((p, w) :: P.zip vs) m x = _
    unfold bindC
    exact qK (i := i) (List.nodup_cons.mp nd).2 (by simpa using h1) (by simpa using h2) hk
def iz (N : List Str) (vs : List V) : St := vs.map some ++ List.replicate (N.length - vs.length) none
def eL (CX : CXT) (P : Program) (w : World) (K : PySem.W.Frag) (mg : Str -> Option Value) (base : Heap) (N : List Str) (qual : Str) (scope : Scope) (f : Addr) (cd : Value) (A : Around) (outer : List Env) (s : Shared) (H : Hp) (E : XK) : Cx where
  prog := P
  w := w
  K := K
  mg := mg
  base := base
  A := A.deeper (envOfC qual scope s.heap.objs.size f cd)
  N := N
  s₀ := s
  H₀ := H
  env := envOfC qual scope s.heap.objs.size f cd
  outer := outer
  stack := envOfC qual scope s.heap.objs.size f cd :: outer
  ex := []
  calm := true
  fn := fun _ => true
  pn := []
  xe := fun e s' => wpAny (model P w) (A.deeper (envOfC qual scope s.heap.objs.size f cd)) (leaving (envOfC qual scope s.heap.objs.size f cd) e) (fun _ s'' => CX outer H s E e s'') (fun e' s'' => CX outer H s E e' s'') s'
theorem uQ {sc : Scope} {n : Nat} {x : Str} (h : sc.names.lookup x = some .cell) : ∃ c, (cellsFrom n sc.names []).lookup x = some c := by
  have q := PySem.W.cellsFrom_some sc.names n [] (.inl h)
  exact Option.isSome_iff_exists.mp q
theorem yG {CX : CXT} {P : Program} {w : World} {K : PySem.W.Frag} {mg : Str -> Option Value} {base : Heap} {N ps : List Str} {qual : Str} {scope : Scope} {f : Addr} {cd : Value} {A : Around} {outer : List Env} {s s1 : Shared} {H : Hp} {E : XK} {us : List Value} {vs : List V}
    (S : aH N ps scope) (hd : A.handled = none) (e0 : Env0 P w K mg base A outer s H) (hl : vs.length = ps.length) (r : Vals vs us)
    (x : InCallC s s.heap.objs.size (bindL (envOfC qual scope s.heap.objs.size f cd).kindOf (ps.zip us) fun _ => none) (cellsFrom (s.heap.objs.size + 1) scope.names []) (bindC (envOfC qual scope s.heap.objs.size f cd).kindOf (ps.zip us) fun _ => none) s1) :
    Inv (eL CX P w K mg base N qual scope f cd A outer s H E) [] (iz N vs) H s1 := by
  have hpl : ps.length <= N.length := by have := congrArg List.length S.pre; rw [List.length_take] at this; omega
  obtain ⟨h1, tk, rfl, hk⟩ := x.done
  have noA : ∀ b : Addr, b ∉ (eL CX P w K mg base N qual scope f cd A outer s H E).ex := fun b z => absurd (show b ∈ ([] : List Addr) from z) (by simp)
  refine ⟨⟨e0.mod, S.kind, rfl, rfl, Nat.le_refl _, fun y z c h1 h2 => ?_, fun y hy => ?_, fun y c _ h => ?_, fun _ => hd, Around.frames_deeper e0.frames, .inr ⟨rfl, rfl⟩, fun b z => absurd z (noA b), e0.bs, e0.bsz, fun b _ _ => noA b, fun b z => absurd z (noA b), e0.funs, e0.frf⟩,
    rfl, e0.bare, Un.kept hk, ⟨_, x.toInCall.ns, fun i y v h1 h2 h3 => ?_⟩, fun y c h => ⟨_, x.cell y c h⟩, e0.hok.fresh (Nat.le_refl _), fun y c h => ?_, fun p hp => absurd (show p ∈ ([] : List (Addr × Obj)) from hp) (by simp), e0.hok.kept hk, ?_⟩
  . exact name_of_addr x.apart (PySem.mem_of_lookup h1) (PySem.mem_of_lookup h2)
  . have hy : scope.names.lookup y = some .cell \/ scope.names.lookup y = some .free := hy
    rcases hy with hy | hy
    . exact uQ hy
    . exact absurd rfl (S.nofree _ (PySem.mem_of_lookup hy))
  . exact Nat.le_of_lt (x.above y c (PySem.mem_of_lookup h))
  . have hi : i < vs.length := by
      unfold iz at h2
      by_cases hi : i < vs.length
      . exact hi
      . rw [List.getElem?_append_right (by simpa using hi)] at h2
        rw [List.getElem?_replicate] at h2
        split at h2 <;> cases h2
    have ha : vs[i]? = some v := by
      unfold iz at h2
      rw [List.getElem?_append_left (by simpa using hi), List.getElem?_map] at h2
      cases e : vs[i]? with
      | none => rw [e] at h2; cases h2
      | some a => rw [e] at h2; cases h2; rfl
    obtain ⟨u, hu, rv⟩ := r.get ha
    have hp : ps[i]? = some y := by
      rw [<- S.pre, List.getElem?_take_of_lt (by omega)]; exact h1
    have ndP : ps.Nodup := by rw [<- S.pre]; exact S.nd.sublist (List.take_sublist _ _)
    refine ⟨u, rv, ?_⟩
    rcases S.par y (List.mem_of_getElem? hp) with k | k
    . exact .inl ⟨k, qC ndP hp hu k⟩
    . obtain ⟨c, e⟩ := uQ (n := s.heap.objs.size + 1) k
      refine .inr ⟨.inl k, c, e, ?_⟩
      have q := x.cell y c e
      rw [qK ndP hp hu (by show scope.names.lookup y ≠ _; rw [k]; decide)] at q
      exact q
  . exact e0.hok.fresh (Nat.le_of_lt (x.above y c (PySem.mem_of_lookup h)))
  . unfold iz
    show _ = N.length
    rw [List.length_append, List.length_map, List.length_replicate]
    omega
theorem E6 {CX : CXT} {P : Program} {w : World} {K : PySem.W.Frag} {mg : Str -> Option Value} {base : Heap} {k : Nat} {f : Addr} {name qual : Str} {params : Arguments} {body : List Stmt} {scope : Scope} {dV kV doc pm cdv ct oc : Value} {an od : Option Addr}
    {osl : Array (Option Value)} {N ps : List Str} {sp : Sp} (lk : K.lookup f = some ⟨oc, od, .func (PySem.W.fnOf name qual params body scope dV kV doc pm an cdv ct), osl⟩) (hcd : PySem.W.codeIn K cdv qual = true) (S : aH N ps scope)
    (len : ∀ vs H Q E, sp vs H Q E -> vs.length = ps.length)
    (hbody : ∀ (A : Around) (outer : List Env) (s : Shared) (H : Hp) (vs : List V) (Q : VK) (E : XK), Room k (A.deeper (envOfC qual scope s.heap.objs.size f cdv)) -> sp vs H Q E ->
      ∃ t, PSs (eL CX P w K mg base N qual scope f cdv A outer s H E) body t /\ t { nx := fun _ H' => Q .non H', rt := Q } (iz N vs) H) :
    bw P w K mg base CX (k + 1) f (PySem.W.fnOf name qual params body scope dV kV doc pm an cdv ct) ps sp := by
  refine ⟨len, fun A outer s H args us vs Q E hr e0 hb r hsp => ?_⟩
  have hl := len _ _ _ _ hsp
  have KX : K.In s.heap := e0.mod.kin.keeps fun b o e => (e0.bs b o e).1
  have lim : s.heap.NoLimit := e0.mod.nolimit.keeps fun b o e => (e0.bs b o e).1
  have hkind : ∀ y ∈ ps.zip us, scope.names.lookup y.1 = some .local \/ (scope.names.lookup y.1 = some .cell /\ ((cellsFrom (s.heap.objs.size + 1) scope.names []).lookup y.1).isSome = true) := fun ⟨n, v⟩ hy => by
    rcases S.par n (List.of_mem_zip hy).1 with q | q
    . exact .inl q
    . exact .inr ⟨q, PySem.W.cellsFrom_some _ _ _ (.inl q)⟩
  refine codeAny_call_function hr.depth (KX _ _ lk) rfl S.co S.gen rfl (PySem.W.codeRec_of KX hcd) (hb _ _ _ _ ?_)
  refine wpAny_newFunctionEnv_cells S.kind hkind fun env he s1 x => ?_
  subst he
  refine ⟨lim.keeps x.toInCall.keep, codeAny_func ?_⟩
  obtain ⟨t, ht, hq⟩ := hbody A outer s H vs Q E (hr.deeper _) hsp
  have I : Inv (eL CX P w K mg base N qual scope f cdv A outer s H E) [] (iz N vs) H s1 := yG S hr.hd e0 hl r x
  refine wpAny_mono (ht [] s1 (iz N vs) H _ I hq) (fun fl s' hs => ?_) fun e s' hs => hs
  have fin : ∀ {σ' : St} {H' : Hp} {v : V} {u : Value}, Inv (eL CX P w K mg base N qual scope f cdv A outer s H E) [] σ' H' s' -> RelV v u -> Q v H' -> CE outer P w H s Q u s' :=
    fun {σ' H' v u} J rv q => ⟨v, H', J.os, J.bare, J.base, J.hok, rv, q⟩
  cases fl with
  | ret u =>
    obtain ⟨v, σ', H', J, rv, q⟩ := hs
    exact fin J rv q
  | next =>
    obtain ⟨σ', H', J, q⟩ := hs
    exact fin (v := V.non) (u := Value.none) J rfl q
  | brk =>
    obtain ⟨_, _, _, q⟩ := hs
    exact False.elim q
  | cont =>
    obtain ⟨_, _, _, q⟩ := hs
    exact False.elim q
end L2
namespace L2
open PySem PySem.Spec PyProof.Rows
section
variable {X : Cx} {x : Str} {p pos : Pos} {e : Expr} {es : List Expr} {t : TA} {id T : String} {r : List V -> Hp -> VK -> Prop}
def tCB (r : List V -> Hp -> VK -> Prop) (t : TA) : TE := fun σ H Q => t σ H fun vs H1 => r vs H1 Q
theorem aQ (hc : CallR X (.builtin id) r) (hg : Gl X x) (hm : X.mg x = none) (hv : bootBuiltins x = some (.builtin id)) (ha : PA X (e :: es) t) (hn : x ≠ "__name__" := by decide) (hdb : (x == ("__debug__" : Str)) = false := by decide)
    (he : starEach (e :: es) X.env = (false, eval e X.env) :: starEach es X.env := by rfl) (hpl : (backTo pos (starEach es X.env)).any (·.1) = false := by rfl) : PE X (.Call (.Name x p) (e :: es) [] pos) (tCB r t) := by
  intro pins s σ H Q I h
  refine wpAny_Call_Name_kw (oa I hg hm hv ?_ hn hdb)
  exact PyProof.Rows.callWith_builtin1 (thn (ha pos pins s σ H _ I h) fun us s1 ⟨vs, H1, I1, r1, q1⟩ => hc pins s1 σ H1 vs us Q I1 r1 q1) he hpl
theorem fw (hc : CallR X (.type T) r) (hg : Gl X x) (hm : X.mg x = none) (hv : bootBuiltins x = some (.type T)) (ha : PA X (e :: es) t) (hn : x ≠ "__name__" := by decide) (hdb : (x == ("__debug__" : Str)) = false := by decide)
    (he : starEach (e :: es) X.env = (false, eval e X.env) :: starEach es X.env := by rfl) (hpl : (backTo pos (starEach es X.env)).any (·.1) = false := by rfl) : PE X (.Call (.Name x p) (e :: es) [] pos) (tCB r t) := by
  intro pins s σ H Q I h
  refine wpAny_Call_Name_kw (oa I hg hm hv ?_ hn hdb)
  exact PyProof.Rows.callWith_type1 (thn (ha pos pins s σ H _ I h) fun us s1 ⟨vs, H1, I1, r1, q1⟩ => hc pins s1 σ H1 vs us Q I1 r1 q1) he hpl
end
end L2
namespace HT
open PySem PyProof.Rows
section
open PySem.SeqAt
open PySem.AutoSeq1 (wpAny_loadPart')
open PySem.MeetsSeq PySem.MeetsSeq2 PySem.MeetsSeq3
end
section
variable {prog : Program} {w : World} {A : Around} {E : Value -> Shared -> Prop} {s : Shared}
def sIx (n d : Nat) : Option Int -> Nat
  | none => d
  | some v => if v < 0 then (v + (n : Int)).toNat else min v.toNat n
theorem sIx_none (n d : Nat) : sIx n d none = d := rfl
theorem sIx_nat (n d k : Nat) : sIx n d (some (k : Int)) = min k n := by
  show (if (k : Int) < 0 then ((k : Int) + (n : Int)).toNat else min (k : Int).toNat n) = min k n
  rw [if_neg (by omega), Int.toNat_natCast]
theorem sIx_le (n d : Nat) (hd : d <= n) (o : Option Int) : sIx n d o <= n := by
  cases o with
  | none => exact hd
  | some v =>
    show (if v < 0 then (v + (n : Int)).toNat else min v.toNat n) <= n
    by_cases hv : v < 0
    . rw [if_pos hv]; omega
    . rw [if_neg hv]; exact Nat.min_le_right _ _
theorem w_ (v : Int) (n d : Nat) : (if v < 0 then max (v + (n : Int)) 0 else min v (n : Int)) = ((sIx n d (some v) : Nat) : Int) := by
  show (if v < 0 then max (v + (n : Int)) 0 else min v (n : Int)) = (((if v < 0 then (v + (n : Int)).toNat else min v.toNat n) : Nat) : Int)
  by_cases hv : v < 0
  . simp only [if_pos hv]; omega
  . simp only [if_neg hv]; omega
theorem vD (lo hi : Option Int) (n : Nat) : Builtin.Slice.sliceAdjust lo hi 1 (n : Int) = (((sIx n 0 lo : Nat) : Int), ((sIx n n hi : Nat) : Int)) := by
  have h1 : ¬ ((1 : Int) < 0) := by omega
  unfold Builtin.Slice.sliceAdjust
  simp only [h1, if_false]
  refine Prod.ext ?_ ?_
  . cases lo with
    | none => rfl
    | some v => exact w_ v n 0
  . cases hi with
    | none => rfl
    | some v => exact w_ v n n
theorem vU (i j : Nat) : Builtin.Slice.slicePlaces (i : Int) (j : Int) 1 = j - i := by
  unfold Builtin.Slice.slicePlaces
  have h1 : (1 : Int) > 0 := by omega
  simp only [h1, if_true, Int.ediv_one]
  split <;> omega
theorem nU {v : Value} {o : Option Int} {Q : Option Int -> Shared -> Prop} (p : IsPart v o) (h : Q o s) : wpAny (model prog w) A (Builtin.Slice.slicePartIndex v) Q E s := by
  cases p with
  | none => exact slicePart_none h
  | int i t => exact slicePart_int h
theorem mJ {sl : Addr} {vl vu : Value} {lo hi : Option Int} {n : Nat} {Q : Int × Int × Nat -> Shared -> Prop} (hs : s.heap.IsSliceOf sl vl vu .none) (pl : IsPart vl lo) (pu : IsPart vu hi)
    (h : Q (((sIx n 0 lo : Nat) : Int), 1, sIx n n hi - sIx n 0 lo) s) : wpAny (model prog w) A (Builtin.Slice.sliceApplied (.ref sl) (pure (n : Int))) Q E s := by
  obtain ⟨os, hos, hcs, hds⟩ := id hs
  unfold Builtin.Slice.sliceApplied Builtin.Slice.sliceFields
  refine wpAny_bind (wpAny_bind (wpAny_field hos hds (x := vl) rfl (wpAny_bind (wpAny_field hos hds (x := vu) rfl (wpAny_bind (wpAny_field hos hds (x := .none) rfl (wpAny_pure ?_)))))))
  refine wpAny_bind (slicePart_none ?_)
  show wpAny _ _ (if ((1 : Int) == 0) = true then _ else _) _ _ s
  rw [if_neg (by decide)]
  refine wpAny_bind (nU pl (wpAny_bind (nU pu (wpAny_bind (wpAny_pure ?_)))))
  show wpAny _ _ (match Builtin.Slice.sliceAdjust lo hi 1 (n : Int) with | (lo, hi) => pure (lo, (1 : Int), Builtin.Slice.slicePlaces lo hi 1)) _ _ s
  rw [vD lo hi n]
  show wpAny _ _ (pure (((sIx n 0 lo : Nat) : Int), (1 : Int), Builtin.Slice.slicePlaces ((sIx n 0 lo : Nat) : Int) ((sIx n n hi : Nat) : Int) 1)) _ _ s
  rw [vU]
  exact wpAny_pure h
theorem zt (xs : Array Value) (i k : Nat) : ((List.range k).filterMap fun (m : Nat) => xs[((i : Int) + (m : Int) * 1).toNat]?).toArray = ((xs.toList.drop i).take k).toArray := by
  have e : (fun (m : Nat) => xs[((i : Int) + (m : Int) * 1).toNat]?) = fun m => xs[i + m]? := by
    funext m
    have : ((i : Int) + (m : Int) * 1).toNat = i + m := by omega
    rw [this]
  rw [e]
  have := pick_run xs i k
  rw [List.filterMap_map] at this
  have e2 : ((fun x => xs[x]?) ∘ fun x => i + x) = fun m => xs[i + m]? := rfl
  rw [e2] at this
  rw [this]
theorem getItem_tuple_cut {t sl : Addr} {items : Array Value} {vl vu : Value} {lo hi : Option Int} {Q : Value -> Shared -> Prop} (ht : IsTup s.heap t items) (hs : s.heap.IsSliceOf sl vl vu .none) (pl : IsPart vl lo) (pu : IsPart vu hi)
    (hw : ¬ (sIx items.size 0 lo = 0 /\ sIx items.size items.size hi = items.size))
    (h : Q (.ref s.heap.objs.size) { s with heap := s.heap.push { cls := .type "tuple", data := .seq ((items.toList.drop (sIx items.size 0 lo)).take (sIx items.size items.size hi - sIx items.size 0 lo)).toArray } })
    (hsz : items.size <= sizeLine) : wpAny (model prog w) A (getItem (.ref t) (.ref sl)) Q E s := by
  have htake : sizeOk (.seq ((items.toList.drop (sIx items.size 0 lo)).take (sIx items.size items.size hi - sIx items.size 0 lo)).toArray) := by
    show ((items.toList.drop (sIx items.size 0 lo)).take (sIx items.size items.size hi - sIx items.size 0 lo)).toArray.size <= sizeLine
    rw [List.size_toArray, List.length_take, List.length_drop, Array.length_toList]
    omega
  have hj : sIx items.size items.size hi <= items.size := sIx_le _ _ (Nat.le_refl _) hi
  obtain ⟨os, hos, hcs, hds⟩ := id hs
  have hTs : s.TypeIs (.ref sl) "slice" := ⟨os, hos, hcs⟩
  unfold getItem
  try with_reducible refine wpAny_holding ?_
  first | refine wpAny_bind (wpAny_pure ?_) | skip
  refine wpAny_bind (wpAny_sequenceKey ht.typeIs (by decide) ?_)
  refine wpAny_bind (wpAny_callSpecial?_slot (name := Str.ofString "__getitem__") ht.typeIs PyProof.Rows.slot_tuple_getitem
    (wpAny_call_entry PyProof.Rows.slot_tuple_getitem ht.typeIs entry_tuple_getitem ?_ (args_tuple_getitem _ _)))
  show wpAny _ _ (Builtin.Tuple.tupleItemsOf (.ref t) >>= _) _ _ s
  refine wpAny_bind (tupleItemsOf_ ht ?_)
  refine wpAny_bind (wpAny_typeOf hTs ?_)
  rw [if_pos (by decide)]
  refine wpAny_bind (mJ hs pl pu ?_)
  have hno : ¬ ((((sIx items.size 0 lo : Nat) : Int) == 0 && (1 : Int) == 1 && (sIx items.size items.size hi - sIx items.size 0 lo) == items.size) = true) := by
    intro q
    rw [Bool.and_eq_true, Bool.and_eq_true] at q
    have q1 : ((sIx items.size 0 lo : Nat) : Int) = 0 := eq_of_beq q.1.1
    have q2 : sIx items.size items.size hi - sIx items.size 0 lo = items.size := eq_of_beq q.2
    exact hw ⟨by omega, by omega⟩
  show wpAny _ _ (if (((sIx items.size 0 lo : Nat) : Int) == 0 && (1 : Int) == 1 && (sIx items.size items.size hi - sIx items.size 0 lo) == items.size) = true then _ else _) _ _ s
  rw [if_neg hno, zt]
  first
    | exact wpAny_bind (m := Builtin.Tuple.tupleExact _) (wpAny_newObj_type (wpAny_pure ⟨_, rfl, wpAny_pure h⟩) htake)
    | exact wpAny_bind (m := Builtin.Tuple.tupleExact _) (wpAny_newObj_type (wpAny_bind (wpAny_pure (wpAny_pure ⟨_, rfl, wpAny_pure h⟩))) htake)
    | exact wpAny_bind (wpAny_bind (m := Builtin.Tuple.tupleExact _) (wpAny_newObj_type (wpAny_pure (wpAny_pure ⟨_, rfl, wpAny_pure h⟩)) htake))
    | exact wpAny_bind (wpAny_bind (m := Builtin.Tuple.tupleExact _) (wpAny_newObj_type (wpAny_pure ⟨_, rfl, wpAny_pure h⟩) htake))
end
end HT
namespace L2
open PySem PySem.Spec PyProof.Rows
abbrev TO := St -> Hp -> (Option Int -> Hp -> Prop) -> Prop
def PO (X : Cx) (e : Option Expr) (t : TO) : Prop :=
  ∀ (pins : List (Addr × Obj)) (s : Shared) (σ : St) (H : Hp) (Q : Option Int -> Hp -> Prop), Inv X pins σ H s -> t σ H Q ->
    wpAny (model X.prog X.w) X.A (evalPart e X.env) (fun u s' => ∃ o H', Inv X pins σ H' s' /\ IsPart u o /\ Q o H') X.xe s
def xl : TO := fun _ H Q => Q none H
def Cz (t : TE) : TO := fun σ H Q => t σ H fun x H1 => ∃ i, x = .int i /\ Q (some i) H1
theorem n8 {ns : List Int} : ∀ {us : List Value}, Vals (ns.map V.int) us -> IntsAre us ns := by
  induction ns with
  | nil => intro us r; rw [List.map_nil] at r; cases r; exact .nil
  | cons n ns ih =>
    intro us r
    rw [List.map_cons] at r
    cases r with
    | cons r1 r2 =>
      obtain ⟨t, e⟩ := r1
      subst e
      exact .cons n t (ih r2)
section
variable {X : Cx} {e : Expr} {te : TE} {lo hi : Option Expr} {tl th : TO} {pos p2 : Pos}
theorem il : PO X none xl := by
  intro pins s σ H Q I h
  rw [evalPart_none]
  exact wpAny_pure ⟨none, H, I, .none, h⟩
theorem e_ (h : PE X e te) : PO X (some e) (Cz te) := by
  intro pins s σ H Q I hw
  rw [evalPart_some]
  refine thn (h pins s σ H _ I hw) fun u s1 ⟨x, H1, I1, r1, q1⟩ => ?_
  obtain ⟨i, rfl, q⟩ := q1
  obtain ⟨t, rfl⟩ := r1
  exact ⟨some i, H1, I1, .int i t, q⟩
def SlR (X : Cx) (r : V -> Option Int -> Option Int -> Hp -> VK -> Prop) : Prop :=
  ∀ (pins : List (Addr × Obj)) (s : Shared) (σ : St) (H : Hp) (x : V) (v vl vu : Value) (lo hi : Option Int) (sl : Addr) (Q : VK), Inv X pins σ H s -> RelV x v -> s.heap.IsSliceOf sl vl vu .none -> IsPart vl lo -> IsPart vu hi -> r x lo hi H Q ->
    ∃ T id, typeLookup (.type T) "__getitem__" = pure (some (.builtin id)) /\ s.TypeIs v T /\ wpAny (model X.prog X.w) X.A (getItem v (.ref sl)) (EP X pins σ Q) X.xe s
def tSl (r : V -> Option Int -> Option Int -> Hp -> VK -> Prop) (te : TE) (tl th : TO) : TE := fun σ H Q => te σ H fun x H1 => tl σ H1 fun l H2 => th σ H2 fun u H3 => r x l u H3 Q
theorem eE {r : V -> Option Int -> Option Int -> Hp -> VK -> Prop} (hr : SlR X r) (he : PE X e te) (hl : PO X lo tl) (hu : PO X hi th) : PE X (.Subscript e (.Slice lo hi none p2) pos) (tSl r te tl th) := by
  intro pins s σ H Q I h
  refine Subscript_ (thn (he pins s σ H _ I h) fun v s1 ⟨x, H1, I1, r1, q1⟩ => ?_)
  refine wpAny_Slice (thn (hl pins s1 σ H1 _ I1 q1) fun vl s2 ⟨l, H2, I2, pl, q2⟩ => thn (hu pins s2 σ H2 _ I2 q2) fun vu s3 ⟨u, H3, I3, pu, q3⟩ => ?_)
  rw [evalPart_none]
  refine wpAny_pure ?_
  have I4 : Inv X pins σ H3 { s3 with heap := s3.heap.push { cls := .type "slice", data := .fields #[vl, vu, .none] } } := I3.kept (t' := s3.toks) fun b ob q => Heap.get?_push_of_some _ q
  obtain ⟨T, id, hT, ht, hg⟩ := hr pins { s3 with heap := s3.heap.push { cls := .type "slice", data := .fields #[vl, vu, .none] } } σ H3 x v vl vu l u s3.heap.objs.size Q I4 r1 (Heap.IsSliceOf.new ..) pl pu q3
  show wpAny (model X.prog X.w) X.A (subscriptTail e (.Slice lo hi none p2) v (.ref s3.heap.objs.size)) (EP X pins σ Q) X.xe { s3 with heap := s3.heap.push { cls := .type "slice", data := .fields #[vl, vu, .none] } }
  exact tail_any (ops := [.ref s3.heap.objs.size, v]) ht hT hg (by with_unfolding_all rfl)
def nH (xs : List V) (lo hi : Option Int) : List V := (xs.drop (HT.sIx xs.length 0 lo)).take (HT.sIx xs.length xs.length hi - HT.sIx xs.length 0 lo)
theorem nh (xs : List V) (lo hi : Option Int) : (nH xs lo hi).length <= xs.length := by
  unfold nH
  rw [List.length_take, List.length_drop]
  omega
def Fb (K : PySem.W.Frag) : V -> Option Int -> Option Int -> Hp -> VK -> Prop := fun x lo hi H Q => ∃ a xs, x = .ref a /\ SqT K H a xs /\
  ¬ (HT.sIx xs.length 0 lo = 0 /\ HT.sIx xs.length xs.length hi = xs.length) /\ ∀ p, H p = none -> Q (.ref p) (upd H p (.tup (nH xs lo hi)))
theorem EB : SlR X (Fb X.K) := by
  intro pins s σ H x v vl vu lo hi sl Q I rx hs pl pu h
  obtain ⟨a, xs, rfl, hx, hw, q⟩ := h
  cases rx
  obtain ⟨its, r, ht, hz⟩ := I.tuple hx
  have hlen : its.toArray.size = xs.length := by rw [List.size_toArray]; exact r.length.symm
  refine ⟨"tuple", _, PyProof.Rows.slot_tuple_getitem.lookup, ht.typeIs, ?_⟩
  refine HT.getItem_tuple_cut ht hs pl pu (by rw [hlen]; exact hw) ?_ (by rw [hlen]; exact hz)
  rw [hlen]
  refine ⟨.ref s.heap.objs.size, _, I.laid (t' := s.toks) (o := .tup (nH xs lo hi)) (fun b ob q => Heap.get?_push_of_some _ q) (Nat.le_refl _) ?_, rfl, q _ (I.hok.fresh (Nat.le_refl _))⟩
  exact ⟨Nat.le_trans (nh xs lo hi) hz, _, (r.drop (HT.sIx xs.length 0 lo)).take (HT.sIx xs.length xs.length hi - HT.sIx xs.length 0 lo), IsTup.new _ _⟩
end
end L2
namespace L2
open PySem PySem.Spec PyProof.Rows
def ixN (n : Nat) (i : Int) : Option Nat := if 0 <= i then (if i < n then some i.toNat else none) else if -(n : Int) <= i then some (i + n).toNat else none
def atI {α : Type} (xs : List α) (i : Int) : Option α := (ixN xs.length i).bind fun j => xs[j]?
theorem Bv {n : Nat} {i : Int} {j : Nat} (h : ixN n i = some j) : seqIndex? i n = some j /\ j < n /\ -(n : Int) <= i /\ i < n := by
  unfold ixN at h
  by_cases h0 : 0 <= i
  . rw [if_pos h0] at h
    by_cases h1 : i < n
    . rw [if_pos h1] at h
      have e : i.toNat = j := Option.some.inj h
      exact ⟨by rw [seqIndex_of h0 h1, e], by omega, by omega, h1⟩
    . rw [if_neg h1] at h; cases h
  . rw [if_neg h0] at h
    by_cases h1 : -(n : Int) <= i
    . rw [if_pos h1] at h
      have e : (i + n).toNat = j := Option.some.inj h
      exact ⟨by rw [seqIndex_neg (by omega) h1, e], by omega, h1, by omega⟩
    . rw [if_neg h1] at h; cases h
theorem sx {α : Type} {xs : List α} {i : Int} {v : α} (h : atI xs i = some v) : ∃ j, seqIndex? i xs.length = some j /\ xs[j]? = some v /\ j < xs.length /\ -(xs.length : Int) <= i /\ i < xs.length := by
  unfold atI at h
  cases e : ixN xs.length i with
  | none => rw [e] at h; cases h
  | some j =>
    rw [e] at h
    obtain ⟨h1, h2, h3, h4⟩ := Bv e
    exact ⟨j, h1, h, h2, h3, h4⟩
theorem aD {α : Type} {xs : List α} {j : Nat} {v : α} (h : xs[j]? = some v) : atI xs (j : Int) = some v := by
  have hj : j < xs.length := (List.getElem?_eq_some_iff.mp h).1
  have e : ixN xs.length (j : Int) = some j := by
    unfold ixN
    rw [if_pos (by omega), if_pos (by omega)]; simp
  unfold atI; rw [e]; exact h
theorem AE {α : Type} (xs : List α) (v : α) : atI (xs ++ [v]) (-1) = some v := by
  have hl : (xs ++ [v]).length = xs.length + 1 := by simp
  have e : ixN (xs ++ [v]).length (-1) = some xs.length := by
    unfold ixN
    rw [hl, if_neg (by decide), if_pos (by omega)]
    congr 1
    omega
  unfold atI
  rw [e]
  show (xs ++ [v])[xs.length]? = some v
  simp
def wQ (b : Expr) : Prop := ∀ o i, subscripted b false o i = operate [o, i] (getItem o i)
def IxR (X : Cx) (r : R2) : Prop :=
  ∀ (value slice : Expr) (pins : List (Addr × Obj)) (s : Shared) (σ : St) (H : Hp) (x y : V) (v u : Value) (Q : VK), Inv X pins σ H s -> RelV x v -> RelV y u -> r x y H Q ->
    subscripted slice false v u = operate [v, u] (getItem v u) -> wpAny (model X.prog X.w) X.A (subscriptTail value slice v u) (EP X pins σ Q) X.xe s
def MtR (X : Cx) (id : String) (r : V -> List V -> Hp -> VK -> Prop) : Prop :=
  ∀ (pins : List (Addr × Obj)) (s : Shared) (σ : St) (H : Hp) (x : V) (xs : List V) (v : Value) (us : List Value) (Q : VK), Inv X pins σ H s -> RelV x v -> Vals xs us -> r x xs H Q ->
    wpAny (model X.prog X.w) X.A (call (.builtin id) (v :: us)) (EP X pins σ Q) X.xe s
section
variable {X : Cx} {a b : Expr} {ta tb : TE} {pos : Pos}
theorem IxR.or {r r' : R2} (h : IxR X r) (h' : IxR X r') : IxR X (fun x y H Q => r x y H Q \/ r' x y H Q) := by
  intro value slice pins s σ H x y v u Q I rx ry q hs
  rcases q with q | q
  . exact h value slice pins s σ H x y v u Q I rx ry q hs
  . exact h' value slice pins s σ H x y v u Q I rx ry q hs
theorem aU {r : R2} (hr : IxR X r) (ha : PE X a ta) (hb : PE X b tb) (hs : wQ b) : PE X (.Subscript a b pos) (tOp r ta tb) := by
  intro pins s σ H Q I h
  exact Subscript_ (Dz ha hb I h fun v u s2 x y H2 I2 rx ry q => hr a b pins s2 σ H2 x y v u Q I2 rx ry q (hs _ _))
def ET (K : PySem.W.Frag) : R2 := fun x y H Q => ∃ p xs i v, x = .ref p /\ y = .int i /\ SqL K H p xs /\ atI xs i = some v /\ Q v H
def EQ (K : PySem.W.Frag) : R2 := fun x y H Q => ∃ p xs i v, x = .ref p /\ y = .int i /\ SqT K H p xs /\ atI xs i = some v /\ Q v H
def EK : R2 := fun x y H Q => ∃ z i c, x = .str z /\ y = .int i /\ z.length <= sizeLine /\ atI z.cps.toList i = some c /\ Q (.str ⟨#[c]⟩) H
theorem wE : IxR X (ET X.K) := by
  intro value slice pins s σ H x y v u Q I rx ry h hs
  obtain ⟨p, xs, i, z, rfl, rfl, hq, he, q⟩ := h
  cases rx
  obtain ⟨t, rfl⟩ := ry
  obtain ⟨its, r, pl, hz⟩ := I.list hq
  obtain ⟨j, h1, h2, h3, h4, h5⟩ := sx he
  obtain ⟨w, ew, rw'⟩ := r.get h2
  have hl := r.length
  have hn := lR
  have fin : EP X pins σ Q w s := ⟨z, H, I, rw', q⟩
  by_cases h0 : 0 <= i
  . have hj : i.toNat = j := by
      rw [seqIndex_of h0 h5] at h1
      exact Option.some.inj h1
    exact item_listR pl.isList h0 (by omega) (by rw [hj]; simpa using ew) fin hs
  . have hj : (i + (its.toArray.size : Int)).toNat = j := by
      rw [seqIndex_neg (by omega) h4] at h1
      rw [List.size_toArray, <- hl]
      exact Option.some.inj h1
    exact subscriptTail_builtinR (x := w) pl.isList.typeIs slot_list_getitem.lookup
      (wpAny_getItem_list_neg (Q := fun r s' => r = w /\ EP X pins σ Q r s') pl.isList (by omega) (by rw [List.size_toArray] <;> omega) (by omega) (by rw [hj]; simpa using ew) ⟨rfl, fin⟩) hs
theorem DF : IxR X (EQ X.K) := by
  intro value slice pins s σ H x y v u Q I rx ry h hs
  obtain ⟨p, xs, i, z, rfl, rfl, hq, he, q⟩ := h
  cases rx
  obtain ⟨t, rfl⟩ := ry
  obtain ⟨its, r, pl, hz⟩ := I.tuple hq
  obtain ⟨j, h1, h2, h3, h4, h5⟩ := sx he
  obtain ⟨w, ew, rw'⟩ := r.get h2
  have hl := r.length
  have hn := lR
  have fin : EP X pins σ Q w s := ⟨z, H, I, rw', q⟩
  exact subscriptTail_builtinR (x := w) pl.typeIs slot_tuple_getitem.lookup
    (getItem_tuple (j := j) (Q := fun r s' => r = w /\ EP X pins σ Q r s') pl (by omega) (by omega) (by rw [List.size_toArray, <- hl]; exact h1) (by simpa using ew) ⟨rfl, fin⟩) hs
theorem Et : IxR X EK := by
  intro value slice pins s σ H x y v u Q I rx ry h hs
  obtain ⟨z, i, c, rfl, rfl, hz, he, q⟩ := h
  obtain ⟨t, rfl⟩ := rx
  obtain ⟨t', rfl⟩ := ry
  obtain ⟨j, h1, h2, h3, h4, h5⟩ := sx he
  have hl : z.cps.toList.length = z.length := by simp [Str.length]
  rw [hl] at h1 h4 h5
  have hn := lR
  exact tail_any (typeIs_str s z t) slot_str_getitem.lookup (getItem_str (c := c) (by
    have e1 : decide (i < -(2 ^ 63 : Int)) = false := decide_eq_false (by omega)
    have e2 : decide (i ≥ 2 ^ 63) = false := decide_eq_false (by omega)
    rw [e1, e2, Bool.or_false]) (by rw [h1]; simpa using h2) ⟨.str ⟨#[c]⟩, H, I.tok _, ⟨_, rfl⟩, q⟩) hs
def rIx (K : PySem.W.Frag) : R2 := fun x y H Q => ET K x y H Q \/ EQ K x y H Q \/ EK x y H Q
theorem Du : IxR X (rIx X.K) := wE.or (DF.or Et)
theorem kW (lo hi : Option Int) (n : Nat) : (sliceBounds lo hi none n).1 = ((HT.sIx n 0 lo : Nat) : Int) /\ (sliceBounds lo hi none n).2.1 = ((HT.sIx n n hi : Nat) : Int) /\ (sliceBounds lo hi none n).2.2 = 1 := by
  refine ⟨?_, ?_, rfl⟩
  . cases lo with
    | none => simp [sliceBounds, HT.sIx]
    | some i =>
      simp only [sliceBounds, HT.sIx, Option.getD_none, show (1 : Int) > 0 by decide, if_true]
      by_cases h : i < 0
      . simp only [h, if_true] <;> omega
      . simp only [h, if_false] <;> omega
  . cases hi with
    | none => simp [sliceBounds, HT.sIx]
    | some i =>
      simp only [sliceBounds, HT.sIx, Option.getD_none, show (1 : Int) > 0 by decide, if_true]
      by_cases h : i < 0
      . simp only [h, if_true] <;> omega
      . simp only [h, if_false] <;> omega
theorem pY (its : List Value) (lo hi : Option Int) : slicePick its.toArray lo hi none = ((its.drop (HT.sIx its.length 0 lo)).take (HT.sIx its.length its.length hi - HT.sIx its.length 0 lo)).toArray := by
  obtain ⟨h1, h2, h3⟩ := kW lo hi its.toArray.size
  unfold slicePick
  rw [h1, h2, h3]
  simp only [sliceRange_one, pick_run, List.size_toArray] <;> rfl
def Ef (K : PySem.W.Frag) : V -> Option Int -> Option Int -> Hp -> VK -> Prop := fun x lo hi H Q => ∃ a xs, x = .ref a /\ SqL K H a xs /\ ∀ p, H p = none -> Q (.ref p) (upd H p (.lst (nH xs lo hi)))
theorem A5 : SlR X (Ef X.K) := by
  intro pins s σ H x v vl vu lo hi sl Q I rx hs pl pu h
  obtain ⟨a, xs, rfl, hx, q⟩ := h
  cases rx
  obtain ⟨its, r, ht, hz⟩ := I.list hx
  have hlen := r.length
  refine ⟨"list", _, slot_list_getitem.lookup, ht.isList.typeIs, ?_⟩
  refine wpAny_getItem_list_slice ht.isList hs pl pu .none (by simp) ?_ (by rw [List.size_toArray] <;> omega)
  rw [pY, <- hlen]
  refine ⟨.ref s.heap.objs.size, _, I.laid (t' := s.toks) (o := .lst (nH xs lo hi)) (fun b ob q => Heap.get?_push_of_some _ q) (Nat.le_refl _) ?_, rfl, q _ (I.hok.fresh (Nat.le_refl _))⟩
  exact ⟨Nat.le_trans (nh xs lo hi) hz, _, 0, (r.drop (HT.sIx xs.length 0 lo)).take (HT.sIx xs.length xs.length hi - HT.sIx xs.length 0 lo), Heap.get?_push_size _ rfl⟩
def eF : V -> Bool
  | .non => true
  | .bl _ => true
  | .int _ => true
  | .str _ => true
  | _ => false
def eqV : V -> V -> Bool
  | .non, .non => true
  | .bl a, .bl b => a == b
  | .bl a, .int b => (if a then 1 else 0) == b
  | .int a, .bl b => a == (if b then 1 else 0)
  | .int a, .int b => a == b
  | .str a, .str b => a == b
  | _, _ => false
theorem vp {A : Around} {s : Shared} {y x : V} {u v : Value} (ry : RelV y u) (rx : RelV x v) (fy : eF y = true) (fx : eF x = true) : SeqAt.EqAt A s u v (eqV y x) := by
  cases y with
  | non =>
    cases ry
    cases x with
    | non => cases rx; exact SeqAt.EqAt.same _
    | bl b => cases rx; exact SeqAt.EqAt.none_bool b
    | int b => obtain ⟨t, rfl⟩ := rx; exact SeqAt.EqAt.none_int b t
    | str b => obtain ⟨t, rfl⟩ := rx; exact SeqAt.EqAt.none_str b t
    | _ => exact absurd (show false = true from fx) Bool.false_ne_true
  | bl a =>
    cases ry
    cases x with
    | non => cases rx; exact SeqAt.EqAt.bool_none a
    | bl b => cases rx; exact SeqAt.EqAt.bool_bool a b
    | int b => obtain ⟨t, rfl⟩ := rx; exact SeqAt.EqAt.bool_int a b t
    | str b => obtain ⟨t, rfl⟩ := rx; exact SeqAt.EqAt.bool_str a b t
    | _ => exact absurd (show false = true from fx) Bool.false_ne_true
  | int a =>
    obtain ⟨t', rfl⟩ := ry
    cases x with
    | non => cases rx; exact SeqAt.EqAt.int_none a t'
    | bl b => cases rx; exact SeqAt.EqAt.int_bool a t' b
    | int b => obtain ⟨t, rfl⟩ := rx; exact SeqAt.EqAt.int_int a t' b t
    | str b => obtain ⟨t, rfl⟩ := rx; exact SeqAt.EqAt.int_str a t' b t
    | _ => exact absurd (show false = true from fx) Bool.false_ne_true
  | str a =>
    obtain ⟨t', rfl⟩ := ry
    cases x with
    | non => cases rx; exact SeqAt.EqAt.str_none a t'
    | bl b => cases rx; exact SeqAt.EqAt.str_bool a t' b
    | int b => obtain ⟨t, rfl⟩ := rx; exact SeqAt.EqAt.str_int a t' b t
    | str b => obtain ⟨t, rfl⟩ := rx; exact SeqAt.EqAt.str_str a t' b t
    | _ => exact absurd (show false = true from fx) Bool.false_ne_true
  | _ => exact absurd (show false = true from fy) Bool.false_ne_true
def eqU (x : V) (u : Value) : Bool := match u with
  | .none => eqV .non x
  | .bool b => eqV (.bl b) x
  | .int i _ => eqV (.int i) x
  | .str z _ => eqV (.str z) x
  | _ => false
theorem y3 {x y : V} {u : Value} (r : RelV y u) (f : eF y = true) : eqU x u = eqV y x := by
  cases y with
  | non => cases r; rfl
  | bl b => cases r; rfl
  | int i => obtain ⟨t, rfl⟩ := r; rfl
  | str z => obtain ⟨t, rfl⟩ := r; rfl
  | _ => exact absurd (show false = true from f) Bool.false_ne_true
theorem kA {x : V} : ∀ {xs : List V} {us : List Value}, Vals xs us -> xs.all eF = true -> us.any (eqU x) = xs.any fun y => eqV y x
  | _, _, .nil, _ => rfl
  | y :: xs, u :: us, .cons r t, f => by
    rw [List.all_cons, Bool.and_eq_true] at f
    rw [List.any_cons, List.any_cons, y3 r f.1, kA t f.2]
theorem iU {A : Around} {s : Shared} {x : V} {v : Value} (rx : RelV x v) (fx : eF x = true) : ∀ {xs : List V} {us : List Value}, Vals xs us -> xs.all eF = true -> ∀ u ∈ us, SeqAt.EqAt A s u v (eqU x u)
  | _, _, .nil, _ => fun u hu => by cases hu
  | y :: xs, u :: us, .cons r t, f => fun u' hu => by
    rw [List.all_cons, Bool.and_eq_true] at f
    rcases List.mem_cons.mp hu with rfl | hu
    . rw [y3 r f.1]; exact vp r rx f.1 fx
    . exact iU rx fx t f.2 u' hu
def inV (x : V) (xs : List V) : Bool := xs.any fun y => eqV y x
def rIn (K : PySem.W.Frag) (neg : Bool) : R2 := fun x y H Q => ∃ p xs, y = .ref p /\ (SqL K H p xs \/ SqT K H p xs) /\ eF x = true /\ xs.all eF = true /\ Q (.bl (if neg then !inV x xs else inV x xs)) H
theorem yD : OpR X (compareOp .In) (rIn X.K false) := by
  intro pins s σ H x y v u Q I rx ry h
  obtain ⟨p, xs, rfl, hq, fx, fs, q⟩ := h
  cases ry
  rcases hq with hq | hq
  . obtain ⟨its, r, pl, hz⟩ := I.list hq
    refine SeqAt.in_listAt (eqU x) pl.isList (fun w hw => iU rx fx r fs w (by simpa using hw)) ⟨.bl _, H, I, rfl, ?_⟩
    rw [show its.toArray.any (eqU x) = its.any (eqU x) by simp, kA r fs]
    exact q
  . obtain ⟨its, r, pl, hz⟩ := I.tuple hq
    refine SeqAt.in_tupleAt (eqU x) pl (fun w hw => iU rx fx r fs w (by simpa using hw)) ⟨.bl _, H, I, rfl, ?_⟩
    rw [show its.toArray.any (eqU x) = its.any (eqU x) by simp, kA r fs]
    exact q
theorem sA : OpR X (compareOp .NotIn) (rIn X.K true) := by
  intro pins s σ H x y v u Q I rx ry h
  obtain ⟨p, xs, rfl, hq, fx, fs, q⟩ := h
  cases ry
  rcases hq with hq | hq
  . obtain ⟨its, r, pl, hz⟩ := I.list hq
    refine SeqAt.notIn_listAt (eqU x) pl.isList (fun w hw => iU rx fx r fs w (by simpa using hw)) ⟨.bl _, H, I, rfl, ?_⟩
    rw [show its.toArray.any (eqU x) = its.any (eqU x) by simp, kA r fs]
    exact q
  . obtain ⟨its, r, pl, hz⟩ := I.tuple hq
    refine SeqAt.notIn_tupleAt (eqU x) pl (fun w hw => iU rx fx r fs w (by simpa using hw)) ⟨.bl _, H, I, rfl, ?_⟩
    rw [show its.toArray.any (eqU x) = its.any (eqU x) by simp, kA r fs]
    exact q
theorem CallR.or {f : Value} {r r' : List V -> Hp -> VK -> Prop} (h : CallR X f r) (h' : CallR X f r') : CallR X f (fun xs H Q => r xs H Q \/ r' xs H Q) := by
  intro pins s σ H xs us Q I rs q
  rcases q with q | q
  . exact h pins s σ H xs us Q I rs q
  . exact h' pins s σ H xs us Q I rs q
theorem sq : CallR X (.type "list") (fun xs H Q => ∃ p ys, xs = [.ref p] /\ (SqL X.K H p ys \/ SqT X.K H p ys) /\ ∀ l, H l = none -> Q (.ref l) (upd H l (.lst ys))) := by
  intro pins s σ H xs us Q I r h
  obtain ⟨p, ys, rfl, hq, q⟩ := h
  obtain ⟨u, rfl, rx⟩ := eU r
  cases rx
  have fin : ∀ (its : List Value), Vals ys its -> ys.length <= sizeLine -> ∀ (h' : Heap) (c' : Nat), (∀ b o', s.heap.get? b = some o' -> h'.get? b = some o') ->
      h'.get? s.heap.objs.size = some { cls := .type "list", dict := none, data := .seq its.toArray c', slots := #[] } -> EP X pins σ Q (.ref s.heap.objs.size) { s with heap := h' } := fun its r' hz h' c' kp e =>
    ⟨.ref s.heap.objs.size, _, I.laid (t' := s.toks) kp (Nat.le_refl _) (show ObjOk X.prog X.w _ h' _ (.lst ys) from ⟨hz, its, c', r', e⟩), rfl, q _ (I.hok.fresh (Nat.le_refl _))⟩
  rcases hq with hq | hq
  . obtain ⟨its, r', pl, hz⟩ := I.list hq
    have hlen := r'.length
    obtain ⟨o, ho, hc, n, hd⟩ := pl.isList
    exact call_list_seq p (.inl rfl) ho hc hd (fun h' c' kp e => fin its r' hz h' c' kp e) (by simp only [List.size_toArray] <;> omega)
  . obtain ⟨its, r', pl, hz⟩ := I.tuple hq
    have hlen := r'.length
    obtain ⟨o, ho, hc, n, hd⟩ := pl
    exact call_list_seq p (.inr rfl) ho hc hd (fun h' c' kp e => fin its r' hz h' c' kp e) (by simp only [List.size_toArray] <;> omega)
theorem pV : CallR X (.type "tuple") (fun xs H Q => ∃ p ys, xs = [.ref p] /\ ((SqL X.K H p ys /\ ∀ l, H l = none -> Q (.ref l) (upd H l (.tup ys))) \/ (SqT X.K H p ys /\ Q (.ref p) H))) := by
  intro pins s σ H xs us Q I r h
  obtain ⟨p, ys, rfl, h⟩ := h
  obtain ⟨u, rfl, rx⟩ := eU r
  cases rx
  rcases h with ⟨hq, q⟩ | ⟨hq, q⟩
  . obtain ⟨its, r', pl, hz⟩ := I.list hq
    have hlen := r'.length
    refine call_tuple_list pl.isList (fun h' kp => ?_) (by simp only [List.size_toArray] <;> omega)
    have I1 : Inv X pins σ H { s with heap := h' } := I.kept (t' := s.toks) kp
    have I2 : Inv X pins σ (upd H h'.objs.size (.tup ys)) { s with heap := h'.push { cls := .type "tuple", data := .seq its.toArray } } :=
      I1.laid (t' := s.toks) (fun b o e => Heap.get?_push_of_some _ e) (Nat.le_refl _) (show ObjOk X.prog X.w _ _ _ (.tup ys) from ⟨hz, its, r', IsTup.new _ _⟩)
    exact ⟨.ref h'.objs.size, _, I2, rfl, q _ (I1.hok.fresh (Nat.le_refl _))⟩
  . obtain ⟨its, r', pl, hz⟩ := I.tuple hq
    exact call_tuple_same pl ⟨.ref p, H, I, rfl, q⟩
def tyV (K : PySem.W.Frag) (T : String) (x : V) (H : Hp) : Prop := match x with
  | .str _ => T = "str"
  | .int _ => T = "int"
  | .ref p => (T = "list" /\ ∃ xs, SqL K H p xs) \/ (T = "tuple" /\ ∃ o, K.lookup p = some o /\ o.cls = .type "tuple" /\ o.dict = none) \/
      (T = "dict" /\ ((∃ kvs, H p = some (.dK kvs)) \/ ∃ kvs, H p = some (.dT kvs))) \/ (T = "set" /\ ∃ S n, H p = some (.set S n))
  | _ => False
theorem Dy {pins : List (Addr × Obj)} {σ : St} {H : Hp} {s : Shared} {T : String} {x : V} {v : Value} (I : Inv X pins σ H s) (r : RelV x v) (ty : tyV X.K T x H) :
    s.TypeIs v T /\ ∀ a, v = .ref a -> ∃ ob, s.heap.get? a = some ob /\ ob.dict = none := by
  cases x with
  | str z =>
    obtain ⟨t, rfl⟩ := r
    cases (show T = "str" from ty)
    exact ⟨typeIs_str s z t, fun _ e => nomatch e⟩
  | int i =>
    obtain ⟨t, rfl⟩ := r
    cases (show T = "int" from ty)
    exact ⟨typeIs_int s i t, fun _ e => nomatch e⟩
  | ref p =>
    cases r
    rcases ty with ⟨rfl, xs, hq⟩ | ⟨rfl, o, hk, hc, hd⟩ | ⟨rfl, hk⟩ | ⟨rfl, S, n, hk⟩
    . obtain ⟨its, _, pl, _⟩ := I.list hq
      refine ⟨pl.isList.typeIs, fun a e => ?_⟩
      cases e
      obtain ⟨o, n, e, c, hd, _⟩ := pl
      exact ⟨o, e, hd⟩
    . refine ⟨⟨o, I.kIn p o hk, hc⟩, fun a e => ?_⟩
      cases e
      exact ⟨o, I.kIn _ o hk, hd⟩
    . have z : ∃ o, s.heap.get? p = some o /\ o.ExactDict := by
        rcases hk with ⟨kvs, hk⟩ | ⟨kvs, hk⟩
        . obtain ⟨_, _, _, _, o, _, _, e, ex, _⟩ := I.hok p _ hk
          exact ⟨o, e, ex⟩
        . obtain ⟨_, _, _, _, o, _, _, e, ex, _⟩ := I.hok p _ hk
          exact ⟨o, e, ex⟩
      obtain ⟨o, e, ex⟩ := z
      refine ⟨⟨o, e, ex.1⟩, fun a e2 => ?_⟩
      cases e2
      exact ⟨o, e, ex.2.1⟩
    . obtain ⟨o, _, _, _, e, ex, _⟩ := I.hok p _ hk
      refine ⟨⟨o, e, ex.1⟩, fun a e2 => ?_⟩
      cases e2
      exact ⟨o, e, ex.2.1⟩
  | _ => exact False.elim ty
def tBM (K : PySem.W.Frag) (T : String) (r : V -> List V -> Hp -> VK -> Prop) (to : TE) (t : TA) : TE := fun σ H Q => to σ H fun x H1 => tyV K T x H1 /\ t σ H1 fun xs H2 => r x xs H2 Q
variable {o e : Expr} {es : List Expr} {to : TE} {t : TA} {name : Str} {apos cpos : Pos} {T id : String} {r : V -> List V -> Hp -> VK -> Prop}
theorem E5 (pa : PlainAttrs T) (slot : Slot T name id) (hty : typeOf (.builtin id) = pure (.type "method_descriptor")) (hm : MtR X id r) (ho : PE X o to) (ha : PA X (e :: es) t)
    (hbase : attributeBase o name X.env (eval o X.env) = eval o X.env := by rfl)
    (hfew : ((backTo cpos (starEach (e :: es) X.env)).all (fun x => !x.1) && (backToKw cpos (keywordEach [] X.env)).all (fun x => x.1.isSome)
      && decide ((e :: es).length + ([] : List Keyword).length + (if ([] : List Keyword).isEmpty then 0 else 1) < 30)) = true := by rfl)
    (hline : (apos.endLine == cpos.line) = true := by rfl) (hs : starEach (e :: es) X.env = (false, eval e X.env) :: starEach es X.env := by rfl) (hplain : (backTo cpos (starEach es X.env)).any (·.1) = false := by rfl) :
    PE X (.Call (.Attribute o name apos) (e :: es) [] cpos) (tBM X.K T r to t) := by
  intro pins s σ H Q I h
  refine wpAny_Call_method_late hbase hfew hline rfl (thn (ho pins s σ H _ I h) fun v s1 ⟨x, H1, I1, r1, ty, q1⟩ => ?_)
  obtain ⟨h1, h2⟩ := Dy I1 r1 ty
  refine ⟨T, id, pa, slot, hty, h1, h2, ?_⟩
  have hA := ha cpos pins s1 σ H1 _ I1 q1
  rw [hs] at hA ⊢
  refine Calls.callWith_builtin (by show (false || (backTo cpos (starEach es X.env)).any (·.1)) = false; rw [hplain] <;> rfl) (Calls.evalArgs_plain ?_)
  exact thn hA fun us s2 ⟨vs, H2, I2, r2, q2⟩ => hm pins s2 σ H2 x vs v us Q I2 r1 r2 q2
end
end L2
namespace L2
open PySem PySem.Spec PyProof.Rows
def MtM (X : Cx) (id : String) (r : V -> List V -> Hp -> VK -> Prop) : Prop :=
  ∀ (pins : List (Addr × Obj)) (s : Shared) (σ : St) (H : Hp) (x : V) (xs : List V) (v : Value) (us : List Value) (Q : VK), Inv X pins σ H s -> RelV x v -> Vals xs us -> r x xs H Q ->
    wpAny (model X.prog X.w) X.A (call (.builtin id) (v :: us)) (EP X pins σ Q) X.xe s
theorem Vals.one : ∀ {x : V} {us : List Value}, Vals [x] us -> ∃ u, us = [u] /\ RelV x u
  | _, _, .cons r .nil => ⟨_, rfl, r⟩
section
variable {X : Cx} {pins : List (Addr × Obj)} {σ : St} {H : Hp} {s : Shared} {l b : Addr} {xs ys zs : List V}
theorem Inv.lset {its its' : List Value} {n : Nat} {f : Array Value -> Array Value} {t' : Nat} (I : Inv X pins σ H s) (hH : H l = some (.lst xs))
    (e : s.heap.get? l = some { cls := .type "list", data := .seq its.toArray n }) (hf : f its.toArray = its'.toArray) (hv : Vals ys its') (hz : ys.length <= sizeLine) :
    Inv X pins σ (upd H l (.lst ys)) { s with heap := s.heap.update l (Obj.mapSeq f), toks := t' } := by
  have q := PySem.IsL.update e f
  rw [hf] at q
  refine I.write (x := l) (e := l) (by rw [hH]; exact trivial) (.inl rfl) (fun b' u hb hu => (Heap.get?_update_other s.heap (Obj.mapSeq f) (Ne.symm hb)).trans hu) ⟨_, q⟩ ?_
  exact ⟨hz, its', _, hv, q⟩
theorem Inv.lnew {its : List Value} {t' : Nat} (I : Inv X pins σ H s) (hv : Vals ys its) (hz : ys.length <= sizeLine) :
    Inv X pins σ (upd H s.heap.objs.size (.lst ys)) { s with heap := s.heap.push { cls := .type "list", data := .seq its.toArray }, toks := t' } :=
  I.laid (fun _ _ q => Heap.get?_push_of_some _ q) (Nat.le_refl _) ⟨hz, its, 0, hv, Heap.get?_push_size _ rfl⟩
theorem Inv.fresh (I : Inv X pins σ H s) : H s.heap.objs.size = none := I.hok.fresh (Nat.le_refl _)
theorem Inv.lstM (I : Inv X pins σ H s) (hH : H l = some (.lst xs)) : xs.length <= sizeLine /\ ∃ (its : List Value) (n : Nat), Vals xs its /\ xs.length = its.length /\ s.heap.get? l = some { cls := .type "list", data := .seq its.toArray n } := by
  obtain ⟨z, its, n, r, e⟩ := I.hok l _ hH
  exact ⟨z, its, n, r, r.length, e⟩
theorem vg {n : Nat} (h : n <= sizeLine) : Builtin.List.listTooLong n = false := by
  unfold Builtin.List.listTooLong
  exact decide_eq_false (by omega)
end
section
variable {X : Cx}
def wL : V -> List V -> Hp -> VK -> Prop := fun x vs H Q => ∃ l xs y, x = .ref l /\ vs = [y] /\ H l = some (.lst xs) /\ xs.length < sizeLine /\ Q .non (upd H l (.lst (xs ++ [y])))
theorem d4 : MtM X "list.append" wL := by
  intro pins s σ H x vs v us Q I rx rv h
  obtain ⟨l, xs, y, rfl, rfl, hH, hz, q⟩ := h
  cases rx
  obtain ⟨u, rfl, ru⟩ := rv.one
  obtain ⟨z, its, n, r, hl, e⟩ := I.lstM hH
  refine call_meets F.slot_list_append ⟨_, e, rfl⟩ F.entry_list_append (F.args_list_append_2 _ _) (PySem.list_append l its.toArray n u (by rw [List.size_toArray]; omega)) ⟨e, ?_⟩
  refine ⟨.non, _, I.lset (its' := its ++ [u]) hH e (by simp) (r.append (.cons ru .nil)) ?_, rfl, q⟩
  rw [List.length_append, List.length_singleton]
  omega
def BX : V -> List V -> Hp -> VK -> Prop := fun x vs H Q => ∃ l b xs zs, x = .ref l /\ vs = [.ref b] /\ H l = some (.lst xs) /\ H b = some (.lst zs) /\ xs.length + zs.length <= sizeLine /\ Q .non (upd H l (.lst (xs ++ zs)))
theorem ED : MtM X "list.extend" BX := by
  intro pins s σ H x vs v us Q I rx rv h
  obtain ⟨l, b, xs, zs, rfl, rfl, hH, hB, hz, q⟩ := h
  cases rx
  obtain ⟨u, rfl, ru⟩ := rv.one
  cases ru
  obtain ⟨z, its, n, r, hl, e⟩ := I.lstM hH
  obtain ⟨z2, its2, n2, r2, hl2, e2⟩ := I.lstM hB
  have hsz : its.toArray.size + its2.toArray.size <= sizeLine := by rw [List.size_toArray, List.size_toArray]; omega
  have hlong : ¬ (!its.toArray.isEmpty && Builtin.List.listTooLong (its.toArray.size + its2.toArray.size)) = true := by
    rw [vg hsz, Bool.and_false]
    exact Bool.false_ne_true
  refine call_meets F.slot_list_extend ⟨_, e, rfl⟩ F.entry_list_extend (F.args_list_extend_2 _ _)
    (AutoSeq1.list_extend_list_list_0 l its.toArray n b its2.toArray n2 hlong (by rw [List.size_toArray]; omega) (by omega)) ⟨e, e2, ?_⟩
  refine ⟨.non, _, I.lset (its' := its ++ its2) hH e (by simp) (r.append r2) ?_, rfl, q⟩
  rw [List.length_append]
  omega
def FI : R2 := fun x y H Q => ∃ l b xs zs, x = .ref l /\ y = .ref b /\ H l = some (.lst xs) /\ H b = some (.lst zs) /\ xs.length + zs.length <= sizeLine /\ ∀ p, H p = none -> Q (.ref p) (upd H p (.lst (xs ++ zs)))
theorem DK : OpR X (binaryOp .Add) FI := by
  intro pins s σ H x y v u Q I rx ry h
  obtain ⟨l, b, xs, zs, rfl, rfl, hH, hB, hz, q⟩ := h
  cases rx
  cases ry
  obtain ⟨z, its, n, r, hl, e⟩ := I.lstM hH
  obtain ⟨z2, its2, n2, r2, hl2, e2⟩ := I.lstM hB
  refine PySem.P.add_list e e2 ?_ (by rw [List.size_toArray, List.size_toArray]; omega)
  have ea : its.toArray ++ its2.toArray = (its ++ its2).toArray := by simp
  rw [ea]
  exact ⟨.ref _, _, I.lnew (t' := s.toks) (r.append r2) (by rw [List.length_append]; omega), rfl, q _ I.fresh⟩
end
section
variable {prog : Program} {w : World} {A : Around} {E : Value -> Shared -> Prop} {s : Shared}
end
section
variable {X : Cx}
end
end L2
namespace Att
open PySem PySem.W PySem.Calls PyProof.Rows
theorem nB {P : Params} {h : Heap} : ∀ (ns : List Int) (vs : List Value), WellAll P h vs (ns.map WData.int) -> IntsAre vs ns := by
  intro ns
  induction ns with
  | nil =>
    intro vs w
    rw [List.map_nil] at w
    cases w
    exact .nil
  | cons n ns ih =>
    intro vs w
    rw [List.map_cons] at w
    cases w with
    | cons a b =>
      cases a
      exact .cons _ _ (ih _ b)
theorem ya {l : OpenLaw} {n : Nat} (hn : l.most = some n) {P : Params} {h : Heap} {args : List WData} {vals : List Value}
    (hpre : l.row.toRowW.claim.pre args = true) (hwl : WellAll P h vals args) :
    ∃ a vs ns, vals = [Value.ref a] /\ args = [WData.list (ns.map WData.int)] /\ h.get? a = some { cls := .type "list", data := .seq vs.toArray } /\ IntsAre vs ns /\ ns.length <= n := by
  have hsh : WShape.hasAll [] args [.list .int] = true := (pre_splitW hpre).1
  have hc : l.pre.holds [] { args := args } = true := (pre_splitW hpre).2
  obtain ⟨d, r, rfl, h1, h2⟩ := hasAllW_cons hsh
  obtain rfl := hasAllW_nil h2
  obtain ⟨xs, rfl, h3⟩ := hasW_list h1
  obtain ⟨ns, rfl⟩ := items_int h3
  have hlen : ns.length <= n := by
    unfold OpenLaw.pre at hc
    have h4 : (WTm.not (.lt (.lit (.int (n : Int))) (.len (.arg 0)))).holds [] { args := [.list (ns.map .int)] } = true := by
      have h4 := (holds_andW hc).1
      rw [hn] at h4
      exact h4
    have h5 := condW_of h4 (w_not (w_lt w_lit (w_len_list (w_arg rfl))))
    rw [List.length_map] at h5
    refine Nat.le_of_not_lt fun q => ?_
    have q' : (n : Int) < ((ns.length : Nat) : Int) := by omega
    first
      | (rw [decide_eq_true q'] at h5; exact absurd h5 (by decide))
      | (simp at h5; omega)
  cases hwl with
  | cons w1 w2 =>
    cases w2
    cases w1 with
    | list ho hall => exact ⟨_, _, ns, rfl, rfl, ho, nB ns _ hall, hlen⟩
theorem xS (l : OpenLaw) (args : List WData) : l.row.toRowW.claim.post args (.bool true) args = true :=
  postW_of (r := l.row.toRowW) (X := (true == true))
    (show WShape.has [] (.bool true) .bool = true by first | rfl | decide | simp [WShape.has, WShape.arms, WShape.armsAll])
    (show (WTm.eq .res (.lit (.bool true))).value [] { args := args, res := some (.bool true), after := args } = some (.bool (true == true)) from w_eq_bool (w_res rfl) w_lit) rfl
theorem attach_call {l : OpenLaw} {n : Nat} {q : Program} {loose : List Str} {XP : (Str -> Option Value) -> Heap -> Prop} {YP : World -> Heap -> Prop} {d : DefRec}
    (hn : l.most = some n) (hdf : d.params.defaults = [])
    (call : ∀ (w : World) (s₀ s₁ : Shared) (mg mb : Str -> Option Value) (fa : Addr) (o : Obj) (pm cd doc : Value) (a : Addr) (vs : List Value) (ns : List Int),
      Ground q loose [] XP w s₀ mg mb s₁.heap -> YP w s₁.heap ->
      s₁.heap.get? fa = some o -> o.data = .func (docDef d.name d.params d.body d.scope pm cd doc) -> s₁.heap.CodeRec cd d.name -> mg d.name = some (.ref fa) ->
      s₁.heap.get? a = some { cls := .type "list", data := .seq vs.toArray } -> IntsAre vs ns -> ns.length <= n -> s₁.gens = #[] ->
      codeAny (model l.prog w) callerA (.call (.ref fa) ⟨[.ref a], []⟩) (fun r s' => r = .ok (.ret (.bool true)) /\ OldK s₁.heap s'.heap /\ s'.os = s₁.os /\ AllBare s'.gens) s₁) :
    WalkO q loose XP YP l.row.toRowW d [] (fun f vs => PySem.call f vs) := by
  intro w s₀ s₁ mg mb G Y fa o pm cd doc dV kV ho hd hcd hD hmg hg args vals as hpre hlay hrd hwl hlo
  obtain rfl : dV = .none := Dflts.none hD hdf
  obtain rfl : kV = .none := Dflts.noKw hD
  obtain ⟨a, vs, ns, rfl, rfl, hobj, hints, hlen⟩ := ya hn hpre hwl
  refine enter_call (codeAny_mono (call w s₀ s₁ mg mb fa o pm cd doc a vs ns G Y ho (fd_plain hd) hcd hmg hobj hints hlen hg) fun r s' hq => ?_)
  obtain ⟨rfl, h2, h3, h4⟩ := hq
  exact ⟨.inl ⟨.bool true, .bool true, [], rfl, fun _ => rfl, .bool true, xS l _, fun _ => ⟨List.Pairwise.nil, fun _ hm => (nomatch hm)⟩⟩, h2, h3, h4⟩
section
variable {prog : Program} {w : World} {A : Around} {E : Value -> Shared -> Prop} {s : Shared} {K : Frag}
end
end Att
namespace L2
open PySem PySem.Spec PyProof.Rows
theorem qB : ∀ {vs : List Value} {ns : List Int}, IntsAre vs ns -> Vals (ns.map V.int) vs
  | _, _, .nil => .nil
  | _, _, .cons n t h => .cons ⟨t, rfl⟩ (qB h)
def yF (H : Hp) : Prop := ∀ b, H b = none \/ ∃ o xs, H b = some (.frz o (.lst xs))
theorem As {P : Program} {w : World} {K : PySem.W.Frag} {mg mb : Str -> Option Value} {CX : CXT} {k : Nat} {fa a : Addr} {fd : FuncData} {x : Str} {sp : Sp} {s₁ : Shared} {vs : List Value} {ns : List Int}
    (KX : K.In s₁.heap) (hns : s₁.heap.Ns mainGlobals mg) (hb : s₁.heap.Ns builtinsNs mb) (hbb : ∀ x : Str, x ≠ "__name__" -> mb x = bootBuiltins x) (hlim : s₁.heap.NoLimit) (hg : s₁.gens = #[])
    (ha : s₁.heap.get? a = some { cls := .type "list", data := .seq vs.toArray }) (hi : IntsAre vs ns) (hl : ns.length <= sizeLine) (hr : Room k callerA)
    (F : ∀ base : Heap, K.In base -> base.Ns mainGlobals mg -> bw P w K mg base CX k fa fd [x] sp) (hbind : ∀ (s : Shared) (u : Value), BindsTo s fd ⟨[u], []⟩ [(x, u)])
    (hsp : ∀ H : Hp, yF H -> SqL K H a (ns.map V.int) -> sp [.ref a] H (fun v _ => v = .bl true) fun _ _ _ => False)
    (hCX : ∀ H e s', CX [] H s₁ (fun _ _ _ => False) e s' -> False) :
    codeAny (model P w) callerA (.call (.ref fa) ⟨[.ref a], []⟩) (fun r s' => r = .ok (.ret (.bool true)) /\ OldK s₁.heap s'.heap /\ s'.os = s₁.os /\ AllBare s'.gens) s₁ := by
  have rv := qB hi
  have lenV := hi.length
  have core : ∀ H : Hp, yF H -> SqL K H a (ns.map V.int) -> HOk P w H s₁.heap -> (∀ b, H b ≠ none -> b = a) -> (H a ≠ none -> K.lookup a = none) ->
      codeAny (model P w) callerA (.call (.ref fa) ⟨[.ref a], []⟩) (fun r s' => r = .ok (.ret (.bool true)) /\ OldK s₁.heap s'.heap /\ s'.os = s₁.os /\ AllBare s'.gens) s₁ := by
    intro H hO hS hok hA hK
    have base_of : ∀ {b : Addr} {o : Obj}, s₁.heap.get? b = some o -> H b = none -> (sy s₁.heap H).get? b = some o := fun e n => yN e n
    have noA : ∀ {b : Addr} {o : Obj} {es : Array DictEntry} {ep : Nat}, s₁.heap.get? b = some o -> o.data = .dict es ep -> H b = none := fun {b o es ep} e d => by
      cases q : H b with
      | none => rfl
      | some u =>
        have e' : b = a := hA b (by rw [q]; simp)
        subst e'
        rw [ha] at e; cases e
        have d' : Data.seq vs.toArray _ = Data.dict es ep := d
        cases d'
    have nsK : ∀ {b : Addr} {m : Str -> Option Value}, s₁.heap.Ns b m -> (sy s₁.heap H).Ns b m := fun {b m} ⟨o, es, ep, e, d, r⟩ => ⟨o, es, ep, base_of e (noA e d), d, r⟩
    have hKb : K.In (sy s₁.heap H) := fun b o e => base_of (KX b o e) (by
      cases q : H b with
      | none => rfl
      | some u =>
        have e' : b = a := hA b (by rw [q]; simp)
        subst e'
        rw [hK (by rw [q]; simp)] at e; cases e)
    have hM : Mod K mg (sy s₁.heap H) := ⟨hKb, nsK hns, ⟨mb, nsK hb, hbb⟩, let ⟨mc, h1, h2⟩ := hlim; ⟨mc, nsK h1, h2⟩⟩
    have e0 : Env0 P w K mg (sy s₁.heap H) callerA [] s₁ H := ⟨rfl, hM, fun b o e => Bh e, Nat.le_of_eq (yC _ _), trivial, fun b hb => absurd (show b ∈ ([] : List Addr) from hb) (by simp), hok, .of_eq hg⟩
    refine codeAny_mono ((F _ hKb (nsK hns)).run callerA [] s₁ H ⟨[.ref a], []⟩ [.ref a] [.ref a] _ _ hr e0 (hbind s₁ (.ref a)) (.cons rfl .nil) (hsp H hO hS)) fun r s' h => ?_
    cases r with
    | error e => exact (hCX H e s' h).elim
    | ok fl =>
      cases fl with
      | next => exact False.elim h
      | brk => exact False.elim h
      | cont => exact False.elim h
      | ret u =>
        obtain ⟨v, H', os, bare, un, hok', r', q⟩ := h
        have q' : v = .bl true := q
        subst q'
        obtain rfl : u = Value.bool true := r'
        refine ⟨rfl, OldK.of_keep fun b o e => ?_, os, bare⟩
        cases q : H b with
        | none => exact un.keep b o e q (by intro z; exact absurd (show b ∈ ([] : List Addr) from z) (by simp)) (by simp)
        | some u =>
          rcases hO b with z | ⟨ob, xs, z⟩
          . rw [q] at z; cases z
          . have z2 := un.frzs b ob _ z
            obtain ⟨e1, _⟩ := hok b _ z
            obtain ⟨e2, _⟩ := hok' b _ z2
            rw [e] at e1; cases e1
            exact e2
  cases hk : K.lookup a with
  | some o =>
    have e := KX a o hk
    rw [ha] at e
    cases e
    refine core (fun _ => none) (fun _ => .inl rfl) (.inr ⟨_, vs.toArray, _, hk, rfl, rfl, rfl, by rw [List.size_toArray, lenV]; exact hl, by simpa using rv⟩) (fun b u z => by have z' : (none : Option HO) = some u := z; cases z') (fun b z => absurd rfl z) fun z => absurd rfl z
  | none =>
    refine core (fun b => if b = a then some (.frz { cls := .type "list", data := .seq vs.toArray } (.lst (ns.map V.int))) else none) (fun b => ?_) (.inl (.inr ⟨{ cls := .type "list", data := .seq vs.toArray }, if_pos rfl⟩)) (fun b u z => ?_) (fun b z => ?_) fun _ => hk
    . by_cases hb : b = a
      . exact .inr ⟨_, _, if_pos hb⟩
      . exact .inl (if_neg hb)
    . by_cases hb : b = a
      . have z' := (if_pos hb).symm.trans z
        cases z'
        subst hb
        exact ⟨ha, by rw [List.length_map]; exact hl, vs, _, rv, ha⟩
      . have z' := (if_neg hb).symm.trans z
        cases z'
    . by_cases hb : b = a
      . exact hb
      . exact absurd (if_neg hb) z
end L2
namespace L2
open PySem PySem.Spec PyProof.Rows
theorem Bw {l : PySem.W.OpenLaw} {n k : Nat} {q : Program} {loose : List Str} {XP : (Str -> Option Value) -> Heap -> Prop} {YP : World -> Heap -> Prop} {d : DefRec} {K : Params -> PySem.W.Frag} {CX : World -> CXT} {sp : World -> Sp} {x : Str}
    (hn : l.most = some n) (hn2 : n <= sizeLine) (hdf : d.params.defaults = []) (hr : Room k callerA)
    (hY : ∀ (w : World) (h : Heap), YP w h -> (K w.params).In h)
    (F : ∀ (w : World) (mg : Str -> Option Value) (fa : Addr) (h : Heap), (K w.params).In h -> h.Ns mainGlobals mg -> mg d.name = some (.ref fa) ->
      ∃ fd : FuncData, (∀ (s : Shared) (u : Value), BindsTo s fd ⟨[u], []⟩ [(x, u)]) /\
        ∀ base : Heap, (K w.params).In base -> base.Ns mainGlobals mg -> bw l.prog w (K w.params) mg base (CX w) k fa fd [x] (sp w))
    (hsp : ∀ (w : World) (H : Hp) (a : Addr) (ns : List Int), ns.length <= n -> yF H -> SqL (K w.params) H a (ns.map V.int) -> sp w [.ref a] H (fun v _ => v = .bl true) fun _ _ _ => False)
    (hCX : ∀ (w : World) (H : Hp) (s : Shared) (e : Value) (s' : Shared), CX w [] H s (fun _ _ _ => False) e s' -> False) :
    PySem.W.WalkO q loose XP YP l.row.toRowW d [] (fun f vs => PySem.call f vs) := by
  refine Att.attach_call hn hdf fun w s₀ s₁ mg mb fa o pm cd doc a vs ns G Y ho hd hcd hmg hobj hints hlen hg => ?_
  have KX := hY w _ Y
  obtain ⟨fd, hb, hF⟩ := F w mg fa _ KX G.T.g hmg
  exact As KX G.T.g G.T.b G.T.builtins G.T.nolimit hg hobj hints (Nat.le_trans hlen hn2) hr hF hb (fun H hO hS => hsp w H a ns hlen hO hS) fun H e s' => hCX w H s₁ e s'
end L2
namespace L2
open PySem PySem.Spec PyProof.Rows
abbrev CX0 : CXT := fun _ _ _ _ _ _ => False
structure Fun (K : PySem.W.Frag) (x qual : Str) (st : Stmt) (f : Addr) (fd : FuncData) : Prop where
  ex : ∃ (oc : Value) (od : Option Addr) (kV doc pm : Value) (an : Option Addr) (cdv ct : Value) (osl : Array (Option Value)),
    fd = PySem.W.fnOf x qual (aB st) (aA st) (ag st) .none kV doc pm an cdv ct /\ K.lookup f = some ⟨oc, od, .func fd, osl⟩ /\ PySem.W.codeIn K cdv qual = true
  kp : PySem.W.keepIn K (.ref f) = true
section
variable {P : Program} {w : World} {K : PySem.W.Frag} {mg : Str -> Option Value} {base : Heap}
theorem Fun.binds {x qual : Str} {st : Stmt} {f : Addr} {fd : FuncData} {ps : List Str} (F : Fun K x qual st f fd)
    (h : ∀ (kV doc pm : Value) (an : Option Addr) (cdv ct : Value) (us : List Value), us.length = ps.length -> bindArgs (PySem.W.fnOf x qual (aB st) (aA st) (ag st) .none kV doc pm an cdv ct) ⟨us, []⟩ = pure (ps.zip us)) : Binds K fd ps [] := by
  obtain ⟨oc, od, kV, doc, pm, an, cdv, ct, osl, rfl, lk, hcd⟩ := F.ex
  exact .all (h kV doc pm an cdv ct)
theorem aR {x qual : Str} {st : Stmt} {f : Addr} {oc : Value} {od an : Option Addr} {osl : Array (Option Value)} {kV doc pm cdv ct : Value} (l : K.lookup f = some ⟨oc, od, .func (PySem.W.fnOf x qual (aB st) (aA st) (ag st) .none kV doc pm an cdv ct), osl⟩)
    (c : PySem.W.codeIn K cdv qual = true) (k : PySem.W.keepIn K (.ref f) = true) : Fun K x qual st f (PySem.W.fnOf x qual (aB st) (aA st) (ag st) .none kV doc pm an cdv ct) := ⟨⟨oc, od, kV, doc, pm, an, cdv, ct, osl, rfl, l, c⟩, k⟩
end
section
variable {X : Cx}
end
def Same (H H' : Hp) : Prop := ∀ b o, H b = some o -> H' b = some o
theorem Same.refl (H : Hp) : Same H H := fun _ _ h => h
theorem Same.trans {H H1 H2 : Hp} (a : Same H H1) (b : Same H1 H2) : Same H H2 := fun c o h => b c o (a c o h)
theorem Same.free {H H' : Hp} (e : Same H H') {l : Addr} (h : H' l = Option.none) : H l = Option.none := by
  cases q : H l with
  | none => rfl
  | some o =>
    rw [e l o q] at h
    cases h
end L2
set_option Elab.async false
set_option linter.all false
set_option maxRecDepth 100000
namespace L2
open PySem PySem.Spec PyProof.Rows
def jI : HO -> Bool
  | .dT _ => false
  | .frz _ u => jI u
  | _ => true
def NoT (H : Hp) : Prop := ∀ a o, H a = some o -> jI o = true
def jS : HO -> Bool
  | .lst _ => true
  | .tup _ => true
  | .dK _ => true
  | .rng _ _ => true
  | _ => false
structure Gc (H G H' : Hp) : Prop where
  a : Same H G
  b : Same G H'
  c : ∀ p o, G p = some o -> H p = some o \/ jS o = true
section
variable {P : Program} {w : World} {H G H' : Hp} {h h' : Heap} {a : Addr} {o : HO}
theorem ObjOk.gc (n : jI o = true) (x0 : ObjOk P w H h a o) (x : ObjOk P w H' h' a o) : ObjOk P w H h' a o := by
  induction o with
  | ins C dx fs => exact ⟨x0.1, x.2⟩
  | dT kvs => cases n
  | frz ob u ih => exact ⟨x.1, ih n x0.2 x.2⟩
  | _ => exact x
theorem ObjOk.plain (n : jS o = true) (x : ObjOk P w H' h' a o) : ObjOk P w H h' a o := by
  cases o with
  | lst xs => exact x
  | tup xs => exact x
  | dK kvs => exact x
  | rng lo hi => exact x
  | _ => cases n
theorem HOk.gc (n : NoT H) (x0 : HOk P w H h) (x : HOk P w H' h') (g : Gc H G H') : HOk P w G h' := fun a o e => by
  rcases g.c a o e with q | q
  . refine (((x0 a o q).gc (n a o q) (x a o (g.b a o e)))).stay (fun _ _ _ z => z) (fun b z => g.a _ _ z) fun b xs z => g.a _ _ z
  . exact (x a o (g.b a o e)).plain q
theorem Un.gc {fs ex : List Addr} (u : Un fs ex H H' h h') (g : Gc H G H') : Un fs ex H G h h' :=
  ⟨u.keep, u.slot, fun b o q n hx => g.b.free (u.free b o q n hx), u.there, fun b xs q => g.a _ _ q, fun b o x q => g.a _ _ q, fun b ps q => ⟨#[], by rw [Array.append_empty]; exact g.a _ _ q⟩⟩
theorem Gc.refl : Gc H H H := ⟨Same.refl H, Same.refl H, fun _ _ e => .inl e⟩
theorem Gc.none (s : Same H H') : Gc H H H' := ⟨Same.refl H, s, fun _ _ e => .inl e⟩
theorem aq {p : Addr} (o : HO) (hp : H p = Option.none) : Same H (upd H p o) := fun b u e => by rw [aj (av e hp)]; exact e
theorem Gc.one {p : Addr} (s : Same H H') (hp : H p = Option.none) (e : H' p = some o) (n : jS o = true) : Gc H (upd H p o) H' :=
  ⟨aq o hp, fun b u z => by
    by_cases hb : b = p
    . subst hb; rw [ad] at z; cases z; exact e
    . rw [aj hb] at z; exact s b u z, fun b u z => by
    by_cases hb : b = p
    . subst hb; rw [ad] at z; cases z; exact .inr n
    . rw [aj hb] at z; exact .inl z⟩
theorem NoT.upd {p : Addr} (n : NoT H) (d : jI o = true) : NoT (upd H p o) := fun b u z => by
  by_cases hb : b = p
  . subst hb; rw [ad] at z; cases z; exact d
  . rw [aj hb] at z; exact n b u z
end
theorem Inv.gc {X : Cx} {pins pins' : List (Addr × Obj)} {σ σ' : St} {H G H' : Hp} {s s' : Shared} (n : NoT H) (I : Inv X pins σ H s) (J : Inv X pins' σ' H' s') (g : Gc H G H') : Inv X pins' σ' G s' :=
  ⟨J.ok, J.os, J.bare, ⟨J.base.keep, J.base.slot, fun b o q z hx => g.b.free (J.base.free b o q z hx), J.base.there, fun b xs q => g.a _ _ (I.base.tups b xs q), fun b o x q => g.a _ _ (I.base.frzs b o x q), fun b ps q => let ⟨m, e⟩ := I.base.tbls b ps q; ⟨m, g.a _ _ e⟩⟩,
   J.loc, J.cell, g.b.free J.free, fun x c e => g.b.free (J.freeC x c e), fun p hp => let ⟨e, z, r⟩ := J.pin p hp; ⟨e, g.b.free z, r⟩, HOk.gc n I.hok J.hok g, J.len⟩
def tGc (t : TE) : TE := fun σ H Q => NoT H /\ t σ H fun v H' => ∃ G, Gc H G H' /\ Q v G
theorem Cd {X : Cx} {e : Expr} {t : TE} (h : PE X e t) : PE X e (tGc t) := fun pins s σ H Q I ⟨n, q⟩ =>
  thn (h pins s σ H _ I q) fun u s1 ⟨v, H1, I1, r, G, g, q1⟩ => ⟨v, G, I.gc n I1 g, r, q1⟩
def E8 (t : TT) : TT := fun σ H Q => NoT H /\ t σ H fun v H' => ∃ G, Gc H G H' /\ Q v G
theorem uK {X : Cx} {e : Expr} {t : TT} (h : PT X e t) : PT X e (E8 t) := fun pins s σ H Q I ⟨n, q⟩ =>
  thn (h pins s σ H _ I q) fun u s1 ⟨H1, I1, G, g, q1⟩ => ⟨G, I.gc n I1 g, q1⟩
end L2
set_option Elab.async false
set_option linter.all false
set_option maxRecDepth 100000
namespace L2
open PySem PySem.Spec PyProof.Rows
theorem ObjOk.at_ {P : Program} {w : World} {H : Hp} {h : Heap} {a : Addr} {o : HO} (x : ObjOk P w H h a o) : ∃ ob, h.get? a = some ob := by
  cases o with
  | lst xs => obtain ⟨_, _, _, _, e⟩ := x; exact ⟨_, e⟩
  | tup xs => obtain ⟨_, _, _, ob, e, _⟩ := x; exact ⟨_, e⟩
  | dK kvs => obtain ⟨_, _, _, _, o, _, _, e, _⟩ := x; exact ⟨_, e⟩
  | dT kvs => obtain ⟨_, _, _, _, o, _, _, e, _⟩ := x; exact ⟨_, e⟩
  | set S n => obtain ⟨o, _, _, _, e, _⟩ := x; exact ⟨_, e⟩
  | ins C dx fs => obtain ⟨_, _, _, e, _⟩ := x; exact ⟨_, e⟩
  | own y => obtain ⟨_, e⟩ := x; exact ⟨_, e⟩
  | xd fs => obtain ⟨_, ⟨_, _, _, e, _⟩, _⟩ := x; exact ⟨_, e⟩
  | rng lo hi => obtain ⟨_, _, _, e⟩ := x; exact ⟨_, e⟩
  | frz ob u => obtain ⟨e, _⟩ := x; exact ⟨_, e⟩
  | tbl ps => exact ⟨_, (show h.get? a = some _ from x)⟩
  | met f y => exact ⟨_, (show h.get? a = some _ from x)⟩
  | ext φ => obtain ⟨_, ⟨_, e⟩, _⟩ := x; exact ⟨_, e⟩
theorem HOk.none_of {P : Program} {w : World} {H : Hp} {h : Heap} {a : Addr} (x : HOk P w H h) (e : h.get? a = none) : H a = none := by
  cases q : H a with
  | none => rfl
  | some u =>
    obtain ⟨ob, z⟩ := (x a u q).at_
    rw [e] at z; cases z
def hid (h : Heap) (l : List Env) (rs : List Addr) : Heap := PySem.W.hideAll h (frs l ++ rs)
theorem rA {h : Heap} {l : List Env} {rs : List Addr} {b : Addr} {o : Obj} (e : h.get? b = some o) (h1 : b ∉ frs l) (h2 : b ∉ rs) : (hid h l rs).get? b = some o :=
  PySem.W.hideAll_get _ e fun z => (List.mem_append.mp z).elim h1 h2
theorem vR {h : Heap} {l : List Env} {rs : List Addr} {b : Addr} {o : Obj} (e : (hid h l rs).get? b = some o) : h.get? b = some o := PySem.W.of_hideAll _ e
theorem rF {h : Heap} {l : List Env} {rs : List Addr} {b : Addr} (e : b ∈ rs) : (hid h l rs).get? b = none := PySem.W.hideAll_none _ (List.mem_append_right _ e)
theorem j6 {h base : Heap} {l : List Env} {rs : List Addr} (e : h.FunFrames base l) : h.FunFrames (hid h l rs) l :=
  PySem.W.funFrames_hide e fun _ he _ ha => List.mem_append_left _ (List.mem_filterMap.mpr ⟨_, he, ha⟩)
def Fly (l : List Env) (rs : List Addr) (e : Addr) (cls : Value) (h : Heap) : Prop := e ∈ rs /\ ∃ a0, Heap.FlyingW (hid h l rs) l e cls a0 h
def XE (P : Program) (w : World) : CXT := fun outer H s E ev s' => ∃ (e : Addr) (C : Value) (rs : List Addr) (H' : Hp), ev = .ref e /\ s'.os = s.os /\ AllBare s'.gens /\ Un (frs outer) [] H H' s.heap s'.heap /\
  HOk P w H' s'.heap /\ (∀ b ∈ rs, s.heap.get? b = none /\ H' b = none) /\ Fly outer rs e C s'.heap /\ E C none H'
section
variable {X : Cx} {pins : List (Addr × Obj)} {σ : St} {H : Hp} {s : Shared} {h' : Heap} {rs : List Addr}
theorem Inv.s0_none (I : Inv X pins σ H s) (hex : X.ex = []) {b : Addr} (e : s.heap.get? b = none) : X.s₀.heap.get? b = none := by
  cases q : X.s₀.heap.get? b with
  | none => rfl
  | some o =>
    obtain ⟨o', z⟩ := I.base.there b o q (by rw [hex]; simp)
    rw [e] at z; cases z
theorem Inv.noteUn (I : Inv X pins σ H s) (hex : X.ex = []) (hrs : ∀ b ∈ rs, X.s₀.heap.get? b = none)
    (stay : ∀ b o, s.heap.get? b = some o -> b ∉ frs X.stack -> b ∉ rs -> h'.get? b = some o) (up : s.heap.UpToSlots h') : Un X.fs [] X.H₀ H X.s₀.heap h' := by
  have B := I.base
  rw [hex] at B
  have nrs : ∀ b o, X.s₀.heap.get? b = some o -> b ∉ rs := fun b o e z => by rw [hrs b z] at e; cases e
  have nst : ∀ b o, X.s₀.heap.get? b = some o -> b ∉ X.fs -> b ∉ frs X.stack := fun b o e hb z => by
    rcases List.mem_cons.mp (I.stkSub b z) with q | q
    . exact absurd (Nat.lt_of_lt_of_le (Heap.lt_size e) I.ok.above) (by rw [q]; exact Nat.lt_irrefl _)
    . exact hb q
  refine ⟨fun b o q n hb hx => stay b o (B.keep b o q n hb hx) (nst b o q hb) (nrs b o q), fun b o q n hb hx => ?_, fun b o q n hx => B.free b o q n hx, fun b o q hx => ?_, B.tups, B.frzs, B.tbls⟩
  . obtain ⟨sl, e1⟩ := B.slot b o q n hb hx
    obtain ⟨_, o', ho', hd⟩ := I.funs.mem hb
    rw [e1] at ho'; cases ho'
    obtain ⟨sl', e2⟩ := up b _ e1 hd
    exact ⟨sl', e2⟩
  . obtain ⟨o', e1⟩ := B.there b o q hx
    by_cases hb : b ∈ frs X.stack
    . obtain ⟨_, o2, ho2, hd⟩ := I.stack.mem hb
      obtain ⟨sl', e2⟩ := up b _ ho2 hd
      exact ⟨_, e2⟩
    . exact ⟨o', stay b o' e1 hb (nrs b o q)⟩
theorem Inv.noteOk (I : Inv X pins σ H s) (hrs : ∀ b ∈ rs, H b = none) (stay : ∀ b o, s.heap.get? b = some o -> b ∉ frs X.stack -> b ∉ rs -> h'.get? b = some o) : HOk X.prog X.w H h' := fun a o e =>
  (I.hok a o e).stay (fun b u hb q => stay b u q (fun z => by
      have n := I.stkFree b z
      rcases hb with r | r
      . rw [r, e] at n; cases n
      . rw [r] at n; cases n) fun z => by
      have n := hrs b z
      rcases hb with r | r
      . rw [r, e] at n; cases n
      . rw [r] at n; cases n) (fun _ q => q) fun _ _ q => q
theorem xp {base : Heap} {l : List Env} {h h1 : Heap} {T : Addr} {oT : Obj} {ts : Array Value} (hl : h.FunFrames base l) (up : h.UpToSlots h1) (e : (hid h l rs).get? T = none) (hT : h1.get? T = some oT) (hd : oT.data = .fields ts) : h.get? T = none \/ T ∈ rs := by
  by_cases hr : T ∈ rs
  . exact .inr hr
  . refine .inl ?_
    cases q : h.get? T with
    | none => rfl
    | some o =>
      by_cases hf : T ∈ frs l
      . obtain ⟨_, o2, ho2, hnf⟩ := hl.mem hf
        rw [q] at ho2; cases ho2
        obtain ⟨sl, e2⟩ := up T o q hnf
        rw [hT] at e2; cases e2
        exact absurd hd (hnf ts)
      . rw [rA q hf hr] at e; cases e
end
section
variable {P : Program} {w : World} {K : PySem.W.Frag} {mg : Str -> Option Value} {base : Heap} {N : List Str} {qual : Str} {scope : Scope} {f : Addr} {cd : Value} {A : Around} {outer : List Env} {s₀ : Shared} {H₀ : Hp} {E : XK}
theorem vT {pins : List (Addr × Obj)} {σ : St} {H : Hp} {s : Shared} {h' : Heap} {e : Addr} {cls : Value} {args : List Value}
    (I : Inv (eL (XE P w) P w K mg base N qual scope f cd A outer s₀ H₀ E) pins σ H s) (hx : Heap.MadeExcOf s.heap h' e cls args) (q : E cls none H) :
    (eL (XE P w) P w K mg base N qual scope f cd A outer s₀ H₀ E).xe (.ref e) { s with heap := h' } := by
  show wpAny (model P w) (A.deeper (envOfC qual scope s₀.heap.objs.size f cd)) (leaving (envOfC qual scope s₀.heap.objs.size f cd) (.ref e)) (fun _ s'' => XE P w outer H₀ s₀ E (.ref e) s'') (fun e' s'' => XE P w outer H₀ s₀ E e' s'') { s with heap := h' }
  have hst : s.heap.FunFrames base (envOfC qual scope s₀.heap.objs.size f cd :: outer) := I.stack
  refine wpAny_leaves_madeW (base := hid s.heap (envOfC qual scope s₀.heap.objs.size f cd :: outer) []) (h := s.heap) I.ok.frames rfl (fun b o z => vR z) (j6 hst) hx fun h'' t fl tup tn up => ?_
  obtain ⟨f1, f2, f3, oe, vs, T, oT, ts, he, hc, hd, h1, hnT, hTe, hT, hdT, h3⟩ := fl
  have up' : s.heap.UpToSlots h'' := (Heap.UpToSlots.of_keeps hx.keeps).trans up
  have nT : s.heap.get? T = none := (xp hst up' hnT hT hdT).elim id fun z => nomatch z
  have stay : ∀ b o, s.heap.get? b = some o -> b ∉ frs (envOfC qual scope s₀.heap.objs.size f cd :: outer) -> b ∉ [e, T] -> h''.get? b = some o := fun b o z hb _ => f1 b o (rA z hb fun y => nomatch y)
  have n0 : ∀ b ∈ [e, T], s.heap.get? b = none := fun b hb => by
    rcases List.mem_cons.mp hb with r | r
    . rw [r]; exact hx.new
    . rw [List.mem_singleton.mp r]; exact nT
  have n1 : ∀ b ∈ [e, T], s₀.heap.get? b = none := fun b hb => I.s0_none rfl (n0 b hb)
  have n2 : ∀ b ∈ [e, T], H b = none := fun b hb => I.hok.none_of (n0 b hb)
  refine ⟨e, cls, [e, T], H, rfl, I.os, I.bare, I.noteUn rfl n1 stay up', I.noteOk n2 stay, fun b hb => ⟨n1 b hb, n2 b hb⟩, ⟨.head _, .ref t, ?_⟩, q⟩
  exact ⟨fun b o z => vR z, rF (.head _), j6 f3, oe, vs, T, oT, ts, he, hc, hd, h1, rF (.tail _ (.head _)), hTe, hT, hdT, h3⟩
abbrev XKs := St -> XK
def ft (CX : CXT) (X : Cx) (E : XKs) : Prop := ∀ (pins : List (Addr × Obj)) (σ : St) (H : Hp) (s : Shared) (e : Value) (s' : Shared), Inv X pins σ H s -> CX X.stack H s (E σ) e s' -> X.xe e s'
def yM (X : Cx) (E : XKs) : Prop := ∀ (pins : List (Addr × Obj)) (σ : St) (H : Hp) (s : Shared) (h' : Heap) (e : Addr) (cls : Value) (args : List Value), Inv X pins σ H s -> Heap.MadeExcOf s.heap h' e cls args -> E σ cls none H -> X.xe (.ref e) { s with heap := h' }
theorem c_ : yM (eL (XE P w) P w K mg base N qual scope f cd A outer s₀ H₀ E) (fun _ => E) := fun _ _ _ _ _ _ _ _ I hx q => vT I hx q
theorem aK : ft (XE P w) (eL (XE P w) P w K mg base N qual scope f cd A outer s₀ H₀ E) (fun _ => E) := by
  intro pins σ H s ev s' I hq
  obtain ⟨e, C, rs, H', rfl, os, bare, un, hok, hrs, ⟨her, a0, fl⟩, q⟩ := hq
  have J : Inv (eL (XE P w) P w K mg base N qual scope f cd A outer s₀ H₀ E) pins σ H' s' := I.call' os un hok bare (fun b z => nomatch z)
  show wpAny (model P w) (A.deeper (envOfC qual scope s₀.heap.objs.size f cd)) (leaving (envOfC qual scope s₀.heap.objs.size f cd) (.ref e)) (fun _ s'' => XE P w outer H₀ s₀ E (.ref e) s'') (fun e' s'' => XE P w outer H₀ s₀ E e' s'') s'
  have hst : s'.heap.FunFrames base (envOfC qual scope s₀.heap.objs.size f cd :: outer) := J.stack
  refine wpAny_leaves_onW (base := hid s'.heap (envOfC qual scope s₀.heap.objs.size f cd :: outer) rs) I.ok.frames rfl fl fun h'' fl' up => ?_
  obtain ⟨f1, f2, f3, oe, vs, T, oT, ts, he, hc, hd, h1, hnT, hTe, hT, hdT, h3⟩ := fl'
  have nT := xp hst up hnT hT hdT
  have stay : ∀ b o, s'.heap.get? b = some o -> b ∉ frs (envOfC qual scope s₀.heap.objs.size f cd :: outer) -> b ∉ T :: rs -> h''.get? b = some o := fun b o z hb hr => f1 b o (rA z hb fun y => hr (.tail _ y))
  have n1 : ∀ b ∈ T :: rs, s₀.heap.get? b = none := fun b hb => by
    rcases List.mem_cons.mp hb with r | r
    . rw [r]
      rcases nT with z | z
      . exact J.s0_none rfl z
      . exact I.s0_none rfl (hrs T z).1
    . exact I.s0_none rfl (hrs b r).1
  have n2 : ∀ b ∈ T :: rs, H' b = none := fun b hb => by
    rcases List.mem_cons.mp hb with r | r
    . rw [r]
      rcases nT with z | z
      . exact hok.none_of z
      . exact (hrs T z).2
    . exact (hrs b r).2
  refine ⟨e, C, T :: rs, H', rfl, J.os, J.bare, J.noteUn rfl n1 stay up, J.noteOk n2 stay, fun b hb => ⟨n1 b hb, n2 b hb⟩, ⟨.tail _ her, a0, ?_⟩, q⟩
  exact ⟨fun b o z => vR z, rF (.tail _ her), j6 f3, oe, vs, T, oT, ts, he, hc, hd, h1, rF (.head _), hTe, hT, hdT, h3⟩
end
def zw (sp : Sp) (dvs : List V) (E : XKs) (t : TA) : TE := fun σ H Q => t σ H fun vs H1 => sp (vs ++ dvs) H1 Q (E σ)
section
variable {X : Cx} {CX : CXT} {k : Nat} {f C : Addr} {fd : FuncData} {ps : List Str} {sp : Sp} {dvs : List V} {ds : List Value} {E : XKs} {x m : Str} {p pos apos : Pos} {e o : Expr} {es : List Expr} {ta : TE} {t : TA}
theorem rT {pins : List (Addr × Obj)} {σ : St} {H : Hp} {s : Shared} {Q : VK} {us : List Value} {vs : List V} (F : bw X.prog X.w X.K X.mg X.base CX k f fd ps sp) (hr : Room k X.A) (hb : Binds X.K fd ps ds) (hd : Vals dvs ds) (hx : ft CX X E)
    (I : Inv X pins σ H s) (r : Vals vs us) (h : sp (vs ++ dvs) H Q (E σ)) : wpAny (model X.prog X.w) X.A (call (.ref f) us) (EP X pins σ Q) X.xe s := by
  have r2 : Vals (vs ++ dvs) (us ++ ds) := r.append hd
  have hl : (us ++ ds).length = ps.length := by rw [<- r2.length]; exact F.len _ _ _ _ h
  refine wpAny_call (codeAny_mono (F.run X.A X.stack s H ⟨us, []⟩ (us ++ ds) (vs ++ dvs) Q (E σ) hr I.env0 (hb s us I.kIn hl) r2 h) fun r s' hq => ?_)
  cases r with
  | error e => exact hx pins σ H s e s' I hq
  | ok fl =>
    cases fl with
    | ret u => exact I.after hq
    | next => exact False.elim hq
    | brk => exact False.elim hq
    | cont => exact False.elim hq
theorem au (F : bw X.prog X.w X.K X.mg X.base CX k f fd ps sp) (hr : Room k X.A) (hg : Gl X x) (hm : X.mg x = some (.ref f)) (hk : PySem.W.keepIn X.K (.ref f) = true) (hb : Binds X.K fd ps ds) (hd : Vals dvs ds) (hx : ft CX X E)
    (ha : PA X (e :: es) t) (hdb : (x == ("__debug__" : Str)) = false := by decide) (he : starEach (e :: es) X.env = (false, eval e X.env) :: starEach es X.env := by rfl) (hpl : (backTo pos (starEach es X.env)).any (·.1) = false := by rfl) :
    PE X (.Call (.Name x p) (e :: es) [] pos) (zw sp dvs E t) := by
  intro pins s σ H Q I h
  refine wpAny_Call_Name_kw (kM I hg hm ?_ hdb)
  refine PySem.W.callWith_K (h₀ := X.base) I.ok.mod.kin hk (thn (ha pos pins s σ H _ I h) fun us s1 ⟨vs, H1, I1, r, q⟩ => ⟨I1.kIn, ?_⟩) he hpl
  exact rT F hr hb hd hx I1 r q
end
section
variable {P : Program} {w : World} {K : PySem.W.Frag} {mg : Str -> Option Value} {base : Heap}
theorem Fun.okX {x qual : Str} {st : Stmt} {f : Addr} {fd : FuncData} {N ps : List Str} {k : Nat} {sp : Sp} (F : Fun K x qual st f fd) (S : aH N ps (ag st)) (len : ∀ vs H Q E, sp vs H Q E -> vs.length = ps.length)
    (hbody : ∀ (cdv : Value) (A : Around) (outer : List Env) (s : Shared) (H : Hp) (vs : List V) (Q : VK) (E : XK), Room k (A.deeper (envOfC qual (ag st) s.heap.objs.size f cdv)) -> sp vs H Q E ->
      ∃ t, PSs (eL (XE P w) P w K mg base N qual (ag st) f cdv A outer s H E) (aA st) t /\ t { nx := fun _ H' => Q .non H', rt := Q } (iz N vs) H) : bw P w K mg base (XE P w) (k + 1) f fd ps sp := by
  obtain ⟨oc, od, kV, doc, pm, an, cdv, ct, osl, rfl, lk, hcd⟩ := F.ex
  exact E6 lk hcd S len fun A outer s H vs Q E hr hsp => hbody cdv A outer s H vs Q E hr hsp
end
theorem Bu {K : PySem.W.Frag} {h : Heap} {C : Addr} {bmB : List Value} {newId : String} (X : K.In h) (q : PySem.W.excIn K C bmB newId = true) :
    ∃ bm N nm qn bs hdct sn sub ab col dd k0 k1 k2 k3 k5 mN, h.get? C = some (excClassObj nm qn C N bs bm hdct sn sub ab col dd k0 k1 k2 k3 k5 newId) /\ h.Ns N mN /\ mN "__init__" = none /\ OwnTail h bmB bm := by
  unfold PySem.W.excIn at q
  split at q
  . rename_i dd cd sl ho
    split at q
    . rename_i C' bm k0 k1 k2 k3 n k5 hm hs
      simp only [Bool.and_eq_true, beq_iff_eq, Bool.not_eq_true'] at q
      obtain ⟨⟨⟨⟨⟨rfl, rfl⟩, hdel⟩, ht⟩, hok⟩, hni⟩ := q
      obtain ⟨nm, bs, mro, ns, qn, hd, sn, sub, ab, col, del⟩ := cd
      dsimp only at hm hdel hok hni
      subst hm hdel
      have hsl : sl = #[k0, k1, k2, k3, some (.builtin n), k5] := by
        obtain ⟨l⟩ := sl
        simp only at hs
        rw [hs]
      subst hsl
      exact ⟨bm, ns, nm, qn, bs, hd, sn, sub, ab, col, dd, k0, k1, k2, k3, k5, _, X _ _ ho, .of_isNs (PySem.W.isNs_of_in X hok), PySem.W.nsMap_none_of_in X hok hni, PySem.W.tail_of_in X ht⟩
    . cases q
  . cases q
def zi (C : Addr) (E : XKs) (t : TA) : TS := fun _ σ H => t σ H fun vs H1 => vs.length <= sizeLine /\ E σ (.ref C) none H1
theorem cm {X : Cx} {x : Str} {C : Addr} {bmB : List Value} {B newId initId : String} {E : XKs} {e : Expr} {es : List Expr} {t : TA} {np cpos pos : Pos} (O : PySem.W.excIn X.K C bmB newId = true) (FB : ExcBaseFacts B newId initId bmB)
    (hc : X.calm = true) (hg : Gl X x) (hm : X.mg x = some (.ref C)) (hx : yM X E) (ha : PA X (e :: es) t) (hdb : (x == ("__debug__" : Str)) = false := by decide)
    (he : starEach (e :: es) X.env = (false, eval e X.env) :: starEach es X.env := by rfl) (hpl : (backTo cpos (starEach es X.env)).any (·.1) = false := by rfl) :
    PS X (.Raise (some (.Call (.Name x np) (e :: es) [] cpos)) none pos) (zi C E t) := by
  intro pins s σ H D I h
  obtain ⟨tl, N, nm, q, bs, hdct, sn, sub, ab, col, dd, k0, k1, k2, k3, k5, mN, hC, hN, hni, T⟩ := Bu I.mod.kin O
  refine wpAny_Raise_call_subT (C := C) (nm := nm) (q := q) (N := N) (bs := bs) (bm := tl) (hdct := hdct) (sn := sn) (sub := sub) (ab := ab) (col := col) (dd := dd) (k0 := k0) (k1 := k1) (k2 := k2) (k3 := k3) (k5 := k5)
    FB (mN := mN) (T.hasType FB.hasBase) (I.ok.hd hc) (by rw [he]; show (false || (backTo cpos (starEach es X.env)).any (·.1)) = false; rw [hpl]; rfl) hni (kM I hg hm ⟨rfl, ?_⟩ hdb)
  have hA := ha cpos pins s σ H _ I h
  rw [he] at hA ⊢
  refine Calls.evalArgs_plain (thn hA fun us s1 ⟨vs, H1, I1, r, hz, q1⟩ => ⟨rfl, by rw [<- r.length]; exact hz, I1.bk _ _ hC, hN.keeps I1.bk, T.keeps I1.bk, fun h' e' hm' => ?_⟩)
  exact hx pins σ H1 s1 h' e' (.ref C) us I1 hm' q1
end L2
set_option Elab.async false
set_option linter.all false
set_option maxRecDepth 100000
namespace L2
open PySem PySem.Spec PyProof.Rows
section
variable {X : Cx} {pins : List (Addr × Obj)} {σ : St} {H : Hp} {s : Shared} {h' : Heap} {rs : List Addr}
end
def uU (C : Value) (e : Addr) : HO := HO.ext fun h => ∃ o vs, h.get? e = some o /\ o.cls = C /\ o.data = .fields vs
end L2
set_option Elab.async false
set_option linter.all false
set_option maxRecDepth 100000
namespace L2
open PySem PySem.Spec PyProof.Rows PySem.W
inductive xR : V -> Value -> Prop where
  | ty (n : String) : xR (.ty n) (.type n)
  | own (a : Addr) : xR (.ref a) (.ref a)
section
variable {X : Cx}
theorem tS : CallR X (.builtin "isinstance") (fun xs H Q => ∃ x c t u b, xs = [x, c] /\ xR c u /\ jW X.K H x t /\ PySem.W.kitOne X.K t u = some b /\ Q (.bl b) H) := by
  intro pins s σ H xs us Q I r h
  obtain ⟨x, c, t, u, b, rfl, rc, ty, e, q⟩ := h
  obtain ⟨ux, uc, rfl, rx, rc'⟩ := wq r
  have ec : uc = u := by
    cases rc with
    | ty n => exact rc'
    | own a => exact rc'
  subst ec
  exact yH I rx ty e fun tk => ⟨.bl b, H, I.tok _, rfl, q⟩
end
structure ik (K : Frag) (C : Addr) : Prop where
  l1 : findIn K (.ref C) "__getattribute__" = some (some (.builtin "BaseException.__getattribute__"))
  l2 : findIn K (.ref C) "__getattr__" = some none
  l3 : findIn K (.ref C) "__class__" = some (some (.builtin "object.__class__"))
  c1 : (clsIn K C).isSome = true
  m1 : mroIn K C (.type "object") = some true
  m2 : mroIn K C (.type "BaseException") = some true
section
variable {prog : Program} {w : World} {A : Around} {E : Value -> Shared -> Prop} {K : Frag} {e C : Addr} {o : Obj} {s : Shared}
open Builtin Builtin.ObjectAttr Builtin.Getset_descriptor PySem.Calls in
theorem pG {R : Result -> Shared -> Prop} {tp : Value} (X : K.In s.heap) (Z : ik K C) (hx : s.heap.get? e = some o) (hc : o.cls = .ref C)
    (h : R (.ok (.ret (.ref C))) s) : codeAny (model prog w) A (.call (.builtin "getset_descriptor.__get__") ⟨[.builtin "object.__class__", .ref e, tp], []⟩) R s := by
  obtain ⟨hh, g, dr, t, os⟩ := s
  have L0 : Looks (model prog w) hh (typeOf (.ref e)) (.ref C) := hc ▸ (Looks.ld hx).andThen .now
  have L1 := looks_mroIn (M := model prog w) X Z.m1
  refine codeAny_call_builtin KF.slot_gs.plain KF.entry_gs (KF.slot_gs.check _ _ _ _ _ _ _ _ KF.type_class (KF.args_gs _ _ _) ?_)
  unfold Builtin.«getset_descriptor.__get__» descrGet
  rw [dga_obj]
  refine wpAny_bind (wpAny_pure ?_)
  unfold descrGetter descrCheckInstance descrNameAndClass isInstance
  simp only [KF.owner_class]
  repeat lk
  refine ⟨Code.quiet_builtin _ (by decide +kernel), codeAny_builtin KF.entry_class ?_⟩
  unfold Builtin.«object.__class__» shownTypeOf
  repeat lk
  exact h
theorem rq {M : Model} {nameV : Value} {Q : Unit -> Shared -> Prop} (X : K.In s.heap) (Z : ik K C) (hx : s.heap.get? e = some o) (hc : o.cls = .ref C) (hq : Q () s) :
    wpAny M A (checkBuiltinCall "BaseException.__getattribute__" ⟨[.ref e, nameV], []⟩) Q E s := by
  have hk : builtinKind "BaseException.__getattribute__" = some .slot := by decide +kernel
  have hsplit : splitId "BaseException.__getattribute__" = some ("BaseException", "__getattribute__") := by decide +kernel
  have ha := F.args_bexc_ga (.ref e) nameV
  obtain ⟨hh, g, dr, t, os⟩ := s
  have L0 : Looks M hh (typeOf (.ref e)) (.ref C) := hc ▸ (Looks.ld hx).andThen .now
  have L1 := looks_mroIn (M := M) X Z.m2
  have LI : Looks M hh (isInstance (.ref e) (.type "BaseException")) true := L0.andThen L1
  simp only [checkBuiltinCall, hk, hsplit]
  refine wpAny_bind (LI.at ?_)
  repeat (first | assumption | wp_step)
theorem rB {tk : Tok} {Q : Fin -> Shared -> Prop} (X : K.In s.heap) (Z : ik K C) (hx : s.heap.get? e = some o) (hc : o.cls = .ref C) (hq : Q (.done (.ret (.ref C))) s) :
    wpAny (model prog w) A (Builtin.«object.__getattribute__» ⟨[.ref e, .str "__class__" tk], []⟩) Q E s := by
  obtain ⟨hh, g, dr, t, os⟩ := s
  have L0 : Looks (model prog w) hh (typeOf (.ref e)) (.ref C) := hc ▸ (Looks.ld hx).andThen .now
  have L3 := looks_findIn (M := model prog w) X Z.l3
  have f5 := KF.type_class
  have f6 := F.slot_gs_get.lookup
  have f7 := F.slot_gs_set.lookup
  repeat (any_goals (first | assumption | with_reducible refine L0.at ?_ | with_reducible refine L3.at ?_ | wp_step))
  refine pG X Z hx hc ?_
  repeat (any_goals (first | assumption | wp_step))
theorem oV {Q : Option Value -> Shared -> Prop} (X : K.In s.heap) (Z : ik K C) (hx : s.heap.get? e = some o) (hc : o.cls = .ref C) (h : Q (some (.ref C)) { s with toks := s.toks + 1 }) :
    wpAny (model prog w) A (getAttr? (.ref e) "__class__") Q E s := by
  obtain ⟨hh, g, dr, t, os⟩ := s
  have L0 : Looks (model prog w) hh (typeOf (.ref e)) (.ref C) := hc ▸ (Looks.ld hx).andThen .now
  have L1 := looks_findIn (M := model prog w) X Z.l1
  have L2 := looks_findIn (M := model prog w) X Z.l2
  have f3 := F.excAttr_ValueError.ga.bind (.ref e)
  have hx2 : (Value.builtin "BaseException.__getattribute__" == Value.builtin "object.__getattribute__") = false := by decide +kernel
  have hx0 : ∀ ex : Bool, (ex && onTheHeap (Value.builtin "BaseException.__getattribute__")) = false := fun ex => by cases ex <;> rfl
  have hx1 : (onTheHeap (Value.ref C) && Value.builtin "BaseException.__getattribute__" == Value.builtin "object.__getattribute__") = false := by rw [hx2]; rfl
  unfold getAttr?
  repeat (any_goals (first | assumption | with_reducible refine L0.at ?_ | with_reducible refine L1.at ?_ | with_reducible refine L2.at ?_ | wp_step))
  refine codeAny_call_builtin F.excAttr_ValueError.ga.plain F.entry_bexc_ga (rq X Z hx hc (rB X Z hx hc ?_))
  repeat (any_goals (first | assumption | wp_step))
theorem zX (Z : ik K C) : KitX K (.ref e) (.ref C) (fun h => ∃ o, h.get? e = some o /\ o.cls = .ref C) where
  ty := fun M h _ ⟨o, h1, h2⟩ => h2 ▸ (Looks.ld h1).andThen .now
  it := fun M h X _ => by
    have c1 := Z.c1
    unfold clsIn at c1
    split at c1
    . rename_i c' d' cd' sl' ho
      intro A' Q' E' s' k q
      unfold isType loadHead
      exact wpAny_bind (wpAny_loadPart (k _ _ (X _ _ ho)) (wpAny_pure q))
    . cases c1
  ne := fun h tp dd its n sl X htp => by
    refine Bool.eq_false_iff.mpr fun q => ?_
    have e' : C = tp := Value.ref.inj (beq_iff_eq.mp q)
    subst e'
    have c1 := Z.c1
    unfold clsIn at c1
    split at c1
    . rename_i c' d' cd' sl' ho
      have z := (X _ _ ho).symm.trans htp
      cases z
    . cases c1
  ca := fun X ⟨o, h1, h2⟩ k => oV X Z h1 h2 k
end
section
variable {X : Cx}
theorem rM : CallR X (.builtin "isinstance") (fun xs H Q => ∃ e c C u b, xs = [.ref e, c] /\ xR c u /\ H e = some (uU (.ref C) e) /\ ik X.K C /\ PySem.W.kitOne X.K (.ref C) u = some b /\ Q (.bl b) H) := by
  intro pins s σ H xs us Q I r h
  obtain ⟨e, c, C, u, b, rfl, rc, he, Z, k, q⟩ := h
  obtain ⟨ux, uc, rfl, rx, rc'⟩ := wq r
  have ec : uc = u := by
    cases rc with
    | ty n => exact rc'
    | own a => exact rc'
  subst ec
  cases (show ux = Value.ref e from rx)
  obtain ⟨⟨o, vs, h1, h2, _⟩, _, _⟩ := (show ObjOk X.prog X.w H s.heap e (uU (.ref C) e) from I.hok e _ he)
  exact kia_one (zX Z) I.kIn ⟨o, h1, h2⟩ k (fun z => nomatch z) fun tk => ⟨.bl b, H, I.tok _, rfl, q⟩
theorem ro (hc : X.calm = true) : CallR X (.builtin "sum") (fun xs H Q => ∃ (p : Addr) (ns : List Int), xs = [.ref p] /\ SqT X.K H p (ns.map V.int) /\ Q (.int ns.sum) H) := by
  intro pins s σ H xs us Q I r h
  obtain ⟨p, ns, rfl, hq, q⟩ := h
  obtain ⟨u, rfl, rx⟩ := eU r
  cases (show u = Value.ref p from rx)
  obtain ⟨its, r', pl, hz⟩ := I.tuple hq
  have hi := n8 r'
  obtain ⟨ys, hy⟩ := hi.allInts.items
  have hn : numsOf its.toArray.toList = ns := by rw [show its.toArray.toList = its from rfl, hi.numsOf]
  rw [hy] at pl hn
  rw [nums_intItems] at hn
  refine ktm_sumG (I.ok.hd hc) pl fun h' tk t' hk => ?_
  rw [preSum_eq, List.take_of_length_le (by simp), hn]
  exact ⟨.int ns.sum, H, I.kept hk, ⟨_, rfl⟩, q⟩
end
end L2
namespace L2
open PySem PySem.Spec PyProof.Rows
section
variable {X : Cx} {a b : Expr} {ta : TE}
def Er (xs ys : List V) : Bool := (List.range (min xs.length ys.length)).all (fun j => eqV (xs.getD j .non) (ys.getD j .non)) && xs.length == ys.length
def BQ (K : PySem.W.Frag) (neg : Bool) : R2 := fun x y H Q => ∃ p p' xs ys, x = .ref p /\ y = .ref p' /\ SqT K H p xs /\ SqT K H p' ys /\ xs.all eF = true /\ ys.all eF = true /\ Q (.bl (neg ^^ Er xs ys)) H
theorem oy {A : Around} {s : Shared} {xs ys : List V} {us vs : List Value} (r : Vals xs us) (r' : Vals ys vs) (fx : xs.all eF = true) (fy : ys.all eF = true) (j : Nat) (h1 : j < us.toArray.size) (h2 : j < vs.toArray.size) :
    SeqAt.EqAt A s us.toArray[j] vs.toArray[j] (eqV (xs.getD j .non) (ys.getD j .non)) := by
  have e1 : us[j]? = some us.toArray[j] := by simp at h1; simp [h1]
  have e2 : vs[j]? = some vs.toArray[j] := by simp at h2; simp [h2]
  have l1 : j < xs.length := by rw [r.length]; simpa using h1
  have l2 : j < ys.length := by rw [r'.length]; simpa using h2
  have g1 : xs[j]? = some (xs.getD j .non) := by simp [List.getD, l1]
  have g2 : ys[j]? = some (ys.getD j .non) := by simp [List.getD, l2]
  obtain ⟨u, hu, ru⟩ := r.get g1
  obtain ⟨v, hv, rv⟩ := r'.get g2
  rw [e1] at hu
  rw [e2] at hv
  rw [Option.some.inj hu, Option.some.inj hv]
  exact vp ru rv (List.all_eq_true.mp fx _ (List.mem_of_getElem? g1)) (List.all_eq_true.mp fy _ (List.mem_of_getElem? g2))
theorem Ec (hu : X.A.units < cLine) : OpR X (compareOp .Eq) (BQ X.K false) := by
  intro pins s σ H x y v u Q I rx ry h
  obtain ⟨p, p', xs, ys, rfl, rfl, hx, hy, fx, fy, q⟩ := h
  cases (show v = Value.ref p from rx)
  cases (show u = Value.ref p' from ry)
  obtain ⟨its, r, pl, hz⟩ := I.tuple hx
  obtain ⟨its', r', pl', hz'⟩ := I.tuple hy
  refine SeqAt.eq_tupleAt pl pl' hu (fun j h1 h2 => oy r r' fx fy j h1 h2) ⟨.bl _, H, I, rfl, ?_⟩
  rw [List.size_toArray, List.size_toArray, <- r.length, <- r'.length]
  simpa [Er] using q
theorem Eh (hu : X.A.units < cLine) : OpR X (compareOp .NotEq) (BQ X.K true) := by
  intro pins s σ H x y v u Q I rx ry h
  obtain ⟨p, p', xs, ys, rfl, rfl, hx, hy, fx, fy, q⟩ := h
  cases (show v = Value.ref p from rx)
  cases (show u = Value.ref p' from ry)
  obtain ⟨its, r, pl, hz⟩ := I.tuple hx
  obtain ⟨its', r', pl', hz'⟩ := I.tuple hy
  refine SeqAt.RcNeAt.tuples pl pl' hu (fun j h1 h2 => oy r r' fx fy j h1 h2) X.prog X.w X.xe _ ⟨.bl _, H, I, rfl, ?_⟩
  rw [List.size_toArray, List.size_toArray, <- r.length, <- r'.length]
  simpa [Er] using q
theorem DQ (hu : X.A.units < cLine) : OpR X (compareOp .Eq) (fun x y H Q => rEq x y H Q \/ BQ X.K false x y H Q) := EJ.or (Ec hu)
theorem Di (hu : X.A.units < cLine) : OpR X (compareOp .NotEq) (fun x y H Q => rNe x y H Q \/ BQ X.K true x y H Q) := EW.or (Eh hu)
theorem yx : CallR X (.builtin "isinstance") (fun xs H Q => (∃ x c t u b, xs = [x, c] /\ xR c u /\ jW X.K H x t /\ PySem.W.kitOne X.K t u = some b /\ Q (.bl b) H) \/
    ∃ e c C u b, xs = [.ref e, c] /\ xR c u /\ H e = some (uU (.ref C) e) /\ ik X.K C /\ PySem.W.kitOne X.K (.ref C) u = some b /\ Q (.bl b) H) := tS.or rM
end
end L2
set_option Elab.async false
set_option linter.all false
set_option maxRecDepth 100000
namespace L2
open PySem PySem.Spec PyProof.Rows
abbrev T (l : List Nat) : V := .str ⟨⟨l⟩⟩
def cs (x : Str) : List Nat := x.cps.toList
theorem FP (x : Str) : V.str x = T (cs x) := rfl
section
variable {X : Cx} {e a b c : Expr} {pos : Pos}
theorem PE.imp {t t' : TE} (h : PE X e t) (i : ∀ σ H Q, t' σ H Q -> t σ H Q) : PE X e t' := fun pins s σ H Q I q => h pins s σ H Q I (i σ H Q q)
theorem OpR.imp {f : Value -> Value -> Sem Value} {r r' : R2} (h : OpR X f r) (i : ∀ x y H Q, r' x y H Q -> r x y H Q) : OpR X f r' := fun pins s σ H x y v u Q I rx ry q => h pins s σ H x y v u Q I rx ry (i _ _ _ _ q)
theorem UnR.imp {f : Value -> Sem Value} {r r' : V -> Hp -> VK -> Prop} (h : UnR X f r) (i : ∀ x H Q, r' x H Q -> r x H Q) : UnR X f r' := fun pins s σ H x v Q I rx q => h pins s σ H x v Q I rx (i _ _ _ q)
theorem CallR.imp {f : Value} {r r' : List V -> Hp -> VK -> Prop} (h : CallR X f r) (i : ∀ x H Q, r' x H Q -> r x H Q) : CallR X f r' := fun pins s σ H x v Q I rx q => h pins s σ H x v Q I rx (i _ _ _ q)
theorem IxR.imp {r r' : R2} (h : IxR X r) (i : ∀ x y H Q, r' x y H Q -> r x y H Q) : IxR X r' := fun va sl pins s σ H x y v u Q I rx ry q hs => h va sl pins s σ H x y v u Q I rx ry (i _ _ _ _ q) hs
def DB (i : Nat) : TE := fun σ H Q => match σ[i]? with
  | some (some v) => Q v H
  | _ => False
theorem fv (i : Nat) {x : Str} (hN : X.N[i]? = some x := by rfl) (hv : Vis X.env.scope x := by first | exact Or.inl rfl | exact Or.inr (Or.inl rfl) | exact Or.inr (Or.inr rfl)) (hd : (x == ("__debug__" : Str)) = false := by decide)
    (hcd : (x == ("__classdict__" : Str)) = false := by decide) : PE X (.Name x pos) (DB i) := (Ev hN hv hd hcd).imp fun σ H Q h => by
  unfold DB at h
  split at h
  . exact ⟨_, by assumption, h⟩
  . exact h.elim
theorem aE {x : Str} {j} (l : List Nat) (h : x = ⟨⟨l⟩⟩ := by decide +kernel) : PE X (.Constant (.str x) j pos) (tC (T l)) := h ▸ Db
def Do : R2
  | .int i, .int j, H, Q => Q (.int (i + j)) H
  | .str i, .str j, H, Q => (cs i).length + (cs j).length <= sizeLine /\ Q (T (cs i ++ cs j)) H
  | _, _, _, _ => False
theorem D3 (i j : Str) : V.str (i ++ j) = T (cs i ++ cs j) := by
  show V.str ⟨i.cps ++ j.cps⟩ = V.str ⟨⟨i.cps.toList ++ j.cps.toList⟩⟩
  congr 1
  congr 1
  exact (Array.ext' (by simp))
theorem aJ : OpR X (binaryOp .Add) Do := (CU.or vK).imp fun x y H Q h => by
  unfold Do at h
  split at h
  . exact .inl ⟨_, _, rfl, rfl, h⟩
  . refine .inr ⟨_, _, rfl, rfl, by simpa [cs, Str.length] using h.1, ?_⟩
    rw [D3]; exact h.2
  . exact h.elim
def gI (g : Int -> Int -> V) : R2
  | .int i, .int j, H, Q => Q (g i j) H
  | _, _, _, _ => False
def gIC (C : Int -> Int -> Prop) (g : Int -> Int -> V) : R2
  | .int i, .int j, H, Q => C i j /\ Q (g i j) H
  | _, _, _, _ => False
theorem Ca {g : Int -> Int -> V} : ∀ x y H Q, gI g x y H Q -> rI0 g x y H Q := fun x y H Q h => by
  unfold gI at h; split at h
  . exact ⟨_, _, rfl, rfl, h⟩
  . exact h.elim
theorem sw {C : Int -> Int -> Prop} {g : Int -> Int -> V} : ∀ x y H Q, gIC C g x y H Q -> rI C g x y H Q := fun x y H Q h => by
  unfold gIC at h; split at h
  . exact ⟨_, _, rfl, rfl, h.1, h.2⟩
  . exact h.elim
theorem fR : OpR X (binaryOp .Sub) (gI fun i j => .int (i - j)) := CV.imp Ca
theorem fK : OpR X (binaryOp .Mult) (gIC CMul fun i j => .int (i * j)) := Ep.imp sw
theorem bz : OpR X (binaryOp .Mod) (gIC (fun _ j => 0 < j) fun i j => .int (i % j)) := DE.imp sw
theorem bg : OpR X (binaryOp .FloorDiv) (gIC DG fun i j => .int (i / j)) := B3.imp sw
theorem D8 : OpR X (binaryOp .Pow) (gIC DJ fun i j => .int (i ^ j.toNat)) := Eo.imp sw
def Ed : V -> Hp -> VK -> Prop
  | .int i, H, Q => Q (.int (-i)) H
  | _, _, _ => False
theorem AN : UnR X (unaryOp .USub) Ed := Ds.imp fun x H Q h => by
  unfold Ed at h; split at h
  . exact ⟨_, rfl, h⟩
  . exact h.elim
def leN (a b : List Nat) : Bool := !decide (b < a)
theorem xY : OpR X (compareOp .LtE) (fun x y H Q => ∃ i j, x = .str i /\ y = .str j /\ Q (.bl (leN (cs i) (cs j))) H) := by
  intro pins s σ H x y v u Q I rx ry h
  obtain ⟨i, j, rfl, rfl, q⟩ := h
  obtain ⟨t, rfl⟩ := rx
  obtain ⟨t', rfl⟩ := ry
  exact PySem.P.le_str ⟨.bl _, H, I, rfl, q⟩
def gLe : R2
  | .int i, .int j, H, Q => Q (.bl (decide (i <= j))) H
  | .str i, .str j, H, Q => Q (.bl (leN (cs i) (cs j))) H
  | _, _, _, _ => False
theorem gg : OpR X (compareOp .LtE) gLe := (EH.or xY).imp fun x y H Q h => by
  unfold gLe at h; split at h
  . exact .inl ⟨_, _, rfl, rfl, h⟩
  . exact .inr ⟨_, _, rfl, rfl, h⟩
  . exact h.elim
def gLt : R2
  | .int i, .int j, H, Q => Q (.bl (decide (i < j))) H
  | .str i, .str j, H, Q => Q (.bl (decide (cs i < cs j))) H
  | _, _, _, _ => False
theorem wS : OpR X (compareOp .Lt) gLt := (E9.or yq).imp fun x y H Q h => by
  unfold gLt at h; split at h
  . exact .inl ⟨_, _, rfl, rfl, h⟩
  . exact .inr ⟨_, _, rfl, rfl, h⟩
  . exact h.elim
theorem zc : OpR X (compareOp .Gt) (gI fun i j => .bl (decide (j < i))) := EO.imp Ca
def eqS : V -> V -> Option Bool
  | .int i, .int j => some (decide (i = j))
  | .bl i, .bl j => some (decide (i = j))
  | .str i, .str j => some (decide (cs i = cs j))
  | .non, .non => some true
  | .non, .int _ => some false | .int _, .non => some false | .non, .bl _ => some false | .bl _, .non => some false | .non, .str _ => some false | .str _, .non => some false
  | .int _, .str _ => some false | .str _, .int _ => some false | .bl _, .str _ => some false | .str _, .bl _ => some false
  | _, _ => none
theorem vG (i j : Str) : V.str i = V.str j ↔ cs i = cs j := by
  constructor
  . intro h; injection h with h; rw [h]
  . intro h
    congr 1
    obtain ⟨⟨a⟩⟩ := i
    obtain ⟨⟨b⟩⟩ := j
    have h' : a = b := h
    rw [h']
theorem tN {x y : V} {k : Bool} (h : eqS x y = some k) : Ea x y = true /\ decide (x = y) = k := by
  unfold eqS at h
  split at h <;> (first | cases h) <;> refine ⟨rfl, ?_⟩
  case h_1 i j => exact decide_eq_decide.mpr (by simp)
  case h_2 i j => exact decide_eq_decide.mpr (by simp)
  case h_3 i j => exact decide_eq_decide.mpr (vG i j)
  all_goals simp
variable {ta tb tc : TE} {rest : List Expr}
def kB (Q : Bool -> Hp -> Prop) : VK := fun x H => match x with
  | .bl k => Q k H
  | _ => False
def xm (t : TE) : TT := fun σ H Q => t σ H (kB Q)
theorem oP {Q : Bool -> Hp -> Prop} {x : V} {H : Hp} (h : kB Q x H) : ∃ k, x = .bl k /\ Q k H := by
  unfold kB at h
  split at h
  . exact ⟨_, rfl, h⟩
  . exact h.elim
theorem bK {op : CmpOp} {r : R2} (ho : OpR X (compareOp op) r) (ha : PE X a ta) (hb : PE X b tb) (hm : behindInMarks op b = false) : PT X (.Compare a [op] [b] pos) (xm (tOp r ta tb)) := by
  intro pins s σ H Q I h
  refine wpAny_isTrue_Compare1 (thn (ha pins s σ H _ I h) fun v s1 ⟨x, H1, I1, r1, q1⟩ => thn (hb pins s1 σ H1 _ I1 q1) fun u s2 ⟨y, H2, I2, r2, q2⟩ =>
    thn (ho pins s2 σ H2 x y v u _ I2 r1 r2 q2) fun c s3 ⟨z, H3, I3, r3, q3⟩ => ?_) hm
  obtain ⟨k, e, q3⟩ := oP q3
  subst e
  cases r3
  exact wpAny_truthy_bool ⟨H3, I3, q3⟩
theorem nX {op : CmpOp} {t : TE} (h : PC X op a b t) (h1 : behindInMarks op b = false := by first | exact uG _ (by decide) (by decide) | rfl) : PT X (.Compare a [op] [b] pos) (xm t) := by
  intro pins s σ H Q I hw
  refine wpAny_isTrue_Compare1 (thn (h pins s σ H _ I hw) fun v s1 h1 => thn h1 fun u s2 h2 => thn h2 fun c s3 ⟨x, H1, I1, r1, q1⟩ => ?_) h1
  obtain ⟨d, rfl, q⟩ := oP q1
  cases r1
  exact wpAny_truthy_bool ⟨H1, I1, q⟩
theorem eO {t : TE} (h : PE X e t) (he : ∀ whole, isTrue e X.env whole = (do let v <- whole; standAt e.pos; holding [v] (truthy v)) := by intro _; rfl) : PT X e (xm t) := by
  intro pins s σ H Q I hw
  refine isTrue_plain (thn (h pins s σ H _ I hw) fun v s1 ⟨x, H1, I1, r1, q1⟩ => ?_) (he _)
  obtain ⟨d, rfl, q⟩ := oP q1
  cases r1
  exact wpAny_truthy_bool ⟨H1, I1, q⟩
def zF (r r' : R2) (ta tb tc : TE) : TE := fun σ H Q => ta σ H fun x H1 => tb σ H1 fun y H2 => r x y H2 (kB fun k H3 => if k = true then tc σ H3 fun w' H4 => r' y w' H4 Q else Q (.bl false) H3)
theorem lF {op op' : CmpOp} {r r' : R2} (ho : OpR X (compareOp op) r) (ho' : OpR X (compareOp op') r') (ha : PE X a ta) (hb : PE X b tb) (hc : PE X c tc)
    (hm : lastMarks [op, op'] [b, c] = false := by with_unfolding_all rfl) : PE X (.Compare a [op, op'] [b, c] pos) (zF r r' ta tb tc) := by
  intro pins s σ H Q I h
  refine Compare_chain (thn (ha pins s σ H _ I h) fun v s1 ⟨x, H1, I1, r1, q1⟩ => chain_link (thn (hb pins s1 σ H1 _ I1 q1) fun u s2 ⟨y, H2, I2, r2, q2⟩ =>
    thn (ho pins s2 σ H2 x y v u _ I2 r1 r2 q2) fun d s3 ⟨z, H3, I3, r3, q3⟩ => ?_)) hm
  obtain ⟨k, e, q3⟩ := oP q3
  subst e
  cases r3
  refine wpAny_truthy_bool ?_
  cases k with
  | false => exact ite_ff ⟨.bl false, H3, I3, rfl, q3⟩
  | true => exact ite_tt (chain_last (thn (hc pins s3 σ H3 _ I3 q3) fun w' s4 ⟨z', H4, I4, r4, q4⟩ => ho' pins s4 σ H4 y z' u w' Q I4 r2 r4 q4))
def Fl (ta tb : TE) : TE := fun σ H Q => ta σ H (kB fun c H1 => if c = true then tb σ H1 Q else Q (.bl false) H1)
def fOr (ta tb : TE) : TE := fun σ H Q => ta σ H (kB fun c H1 => if c = true then Q (.bl true) H1 else tb σ H1 Q)
def Fk (ta : TE) : TE := fun σ H Q => ta σ H (kB fun c H1 => Q (.bl (!c)) H1)
theorem dY (ha : PE X a ta) (hb : PE X (.BoolOp .And (b :: rest) pos) tb) : PE X (.BoolOp .And (a :: b :: rest) pos) (Fl ta tb) := by
  intro pins s σ H Q I h
  refine BoolOp_and (thn (ha pins s σ H _ I h) fun v s1 ⟨x, H1, I1, r1, q1⟩ => ?_)
  obtain ⟨c, rfl, q1⟩ := oP q1
  cases r1
  refine wpAny_truthy_bool ?_
  cases c with
  | true => exact hb pins s1 σ H1 Q I1 q1
  | false => exact ⟨.bl false, H1, I1, rfl, q1⟩
theorem B7 (ha : PE X a ta) (hb : PE X (.BoolOp .Or (b :: rest) pos) tb) : PE X (.BoolOp .Or (a :: b :: rest) pos) (fOr ta tb) := by
  intro pins s σ H Q I h
  refine BoolOp_or (thn (ha pins s σ H _ I h) fun v s1 ⟨x, H1, I1, r1, q1⟩ => ?_)
  obtain ⟨c, rfl, q1⟩ := oP q1
  cases r1
  refine wpAny_truthy_bool ?_
  cases c with
  | false => exact hb pins s1 σ H1 Q I1 q1
  | true => exact ⟨.bl true, H1, I1, rfl, q1⟩
theorem AS (ha : PE X a ta) : PE X (.UnaryOp .Not a pos) (Fk ta) := by
  intro pins s σ H Q I h
  refine UnaryOp_ (thn (ha pins s σ H _ I h) fun v s1 ⟨x, H1, I1, r1, q1⟩ => ?_)
  obtain ⟨c, rfl, q1⟩ := oP q1
  cases r1
  exact not_of (wpAny_truthy_bool ⟨.bl (!c), H1, I1, rfl, q1⟩)
def FQ : List V -> Hp -> VK -> Prop
  | [.int i], H, Q => Q (.int (if i < 0 then -i else i)) H
  | _, _, _ => False
def DO : List V -> Hp -> VK -> Prop
  | [.int i, .int j], H, Q => Q (.int (if j < i then j else i)) H
  | _, _, _ => False
theorem zq (hc : X.calm = true) : CallR X (.builtin "min") DO := (yE hc).imp fun x H Q h => by
  unfold DO at h; split at h
  . exact ⟨_, _, rfl, h⟩
  . exact h.elim
def DI : List V -> Hp -> VK -> Prop
  | [.int i, .int j], H, Q => Q (.int (if j > i then j else i)) H
  | _, _, _ => False
theorem AQ (hc : X.calm = true) : CallR X (.builtin "max") DI := (xU hc).imp fun x H Q h => by
  unfold DI at h; split at h
  . exact ⟨_, _, rfl, h⟩
  . exact h.elim
def Bz (K : PySem.W.Frag) : List V -> Hp -> VK -> Prop
  | [.str y], H, Q => (cs y).length <= sizeLine /\ Q (.int (cs y).length) H
  | [.ref p], H, Q => ∃ xs, (SqL K H p xs \/ SqT K H p xs) /\ Q (.int xs.length) H
  | _, _, _ => False
theorem Dm : CallR X (.builtin "len") (Bz X.K) := yZ.imp fun x H Q h => by
  unfold Bz at h; split at h
  . exact ⟨_, _, rfl, ⟨by simpa [cs, Str.length] using h.1, rfl⟩, by simpa [cs, Str.length] using h.2⟩
  . obtain ⟨xs, hx, q⟩ := h
    rcases hx with hx | hx
    . exact ⟨_, _, rfl, .inl ⟨xs, hx, rfl⟩, q⟩
    . exact ⟨_, _, rfl, .inr ⟨xs, hx, rfl⟩, q⟩
  . exact h.elim
def iq (H : Hp) : V -> Option String
  | .non => some "NoneType"
  | .bl _ => some "bool"
  | .int _ => some "int"
  | .str _ => some "str"
  | .ref p => match H p with
    | some (.lst _) => some "list"
    | some (.frz _ (.lst _)) => some "list"
    | some (.tup _) => some "tuple"
    | some (.dK _) => some "dict"
    | _ => none
  | _ => none
def cv (t n : String) : Bool := t == n || (t == "bool" && n == "int")
def jv (t : String) : Prop := t = "NoneType" \/ t = "bool" \/ t = "int" \/ t = "str" \/ t = "list" \/ t = "tuple" \/ t = "dict"
theorem EZ {K : PySem.W.Frag} {t n : String} (h : jv t) (hn : n = "int" \/ n = "bool" \/ n = "str" \/ n = "list" \/ n = "tuple" \/ n = "dict") : PySem.W.kitOne K (.type t) (.type n) = some (cv t n) := by
  rcases h with rfl | rfl | rfl | rfl | rfl | rfl | rfl <;> rcases hn with rfl | rfl | rfl | rfl | rfl | rfl <;> kernel_rfl
theorem An {K : PySem.W.Frag} {H : Hp} {x : V} {t : String} (h : iq H x = some t) : jW K H x (.type t) /\ jv t := by
  unfold iq at h
  split at h
  . cases h; exact ⟨.non, by simp [jv]⟩
  . cases h; exact ⟨.bl _, by simp [jv]⟩
  . cases h; exact ⟨.int _, by simp [jv]⟩
  . cases h; exact ⟨.str _, by simp [jv]⟩
  . split at h
    . rename_i e; cases h; exact ⟨.lst e, by simp [jv]⟩
    . rename_i e; cases h; exact ⟨.frz e, by simp [jv]⟩
    . rename_i e; cases h; exact ⟨.tup e, by simp [jv]⟩
    . rename_i e; cases h; exact ⟨.dK e, by simp [jv]⟩
    . cases h
  . cases h
def uZ (n : String) : Bool := n == "int" || n == "bool" || n == "str" || n == "list" || n == "tuple" || n == "dict"
def Bm (K : PySem.W.Frag) : List V -> Hp -> VK -> Prop
  | [x, .ty n], H, Q => (match iq H x with
    | some t => uZ n = true /\ Q (.bl (cv t n)) H
    | none => ∃ e C b, x = .ref e /\ H e = some (uU (.ref C) e) /\ ik K C /\ PySem.W.kitOne K (.ref C) (.type n) = some b /\ Q (.bl b) H)
  | [.ref e, .ref D], H, Q => ∃ C b, H e = some (uU (.ref C) e) /\ ik K C /\ PySem.W.kitOne K (.ref C) (.ref D) = some b /\ Q (.bl b) H
  | _, _, _ => False
theorem Eb : CallR X (.builtin "isinstance") (Bm X.K) := yx.imp fun xs H Q h => by
  unfold Bm at h
  split at h
  . rename_i x n
    split at h
    . rename_i t ht
      obtain ⟨ty, hb⟩ := An (K := X.K) ht
      obtain ⟨hn, q⟩ := h
      refine .inl ⟨x, _, _, _, _, rfl, .ty n, ty, EZ hb ?_, q⟩
      simpa [uZ, or_assoc] using hn
    . obtain ⟨e, C, b, rfl, he, Z, k, q⟩ := h
      exact .inr ⟨e, _, C, _, b, rfl, .ty n, he, Z, k, q⟩
  . rename_i e D
    obtain ⟨C, b, he, Z, k, q⟩ := h
    exact .inr ⟨e, _, C, _, b, rfl, .own D, he, Z, k, q⟩
  . exact h.elim
end
section
variable {X : Cx} {a b : Expr} {ta tb : TE} {pos pos' : Pos}
def gIx (K : PySem.W.Frag) : R2
  | .str z, .int i, H, Q => (cs z).length <= sizeLine /\ (match atI (cs z) i with
    | some c => Q (T [c]) H
    | none => False)
  | .ref p, .int i, H, Q => ∃ xs v, (SqL K H p xs \/ SqT K H p xs) /\ atI xs i = some v /\ Q v H
  | _, _, _, _ => False
theorem EA : IxR X (gIx X.K) := Du.imp fun x y H Q h => by
  unfold gIx at h
  split at h
  . obtain ⟨hz, h⟩ := h
    split at h
    . rename_i c hc
      exact .inr (.inr ⟨_, _, c, rfl, rfl, by simpa [cs, Str.length] using hz, hc, h⟩)
    . exact h.elim
  . obtain ⟨xs, v, hs | hs, hv, q⟩ := h
    . exact .inl ⟨_, xs, _, v, rfl, rfl, hs, hv, q⟩
    . exact .inr (.inl ⟨_, xs, _, v, rfl, rfl, hs, hv, q⟩)
  . exact h.elim
def ko (xs : List V) (H H1 : Hp) (Q : VK) : V -> Prop
  | .int i => (match atI xs i with
    | some (.ref q) => H q = none /\ (match H1 q with
      | some o => jS o = true /\ Q (.ref q) (upd H q o)
      | none => False)
    | some v => Q v H
    | none => False)
  | _ => False
def zR (ta : TA) (ti : TE) : TE := fun σ H Q => NoT H /\ ta σ H fun xs H1 => Same H H1 /\ xs.length <= sizeLine /\ ∀ p, H1 p = none -> ti σ (upd H1 p (.lst xs)) fun y H2 => H2 = upd H1 p (.lst xs) /\ ko xs H H1 Q y
theorem yP {xs : List V} {H H1 : Hp} {Q : VK} {y : V} {p : Addr} {o : HO} (s : Same H H1) (hp : H1 p = none) (h : ko xs H H1 Q y) : ∃ i v G, y = .int i /\ atI xs i = some v /\ Gc H G (upd H1 p o) /\ Q v G := by
  unfold ko at h
  have s2 : Same H (upd H1 p o) := s.trans (aq o hp)
  split at h
  . rename_i i
    split at h
    . rename_i q hq
      obtain ⟨hn, h⟩ := h
      split at h
      . rename_i o' ho'
        exact ⟨i, _, _, rfl, hq, Gc.one s2 hn (by rw [aj (av ho' hp)]; exact ho') h.1, h.2⟩
      . exact h.elim
    . rename_i v _ hv
      exact ⟨i, v, H, rfl, hv, Gc.none s2, h⟩
    . exact h.elim
  . exact h.elim
theorem ku {es : List Expr} {t : TA} (ha : PA X es t) (hb : PE X b tb) (hs : wQ b) : PE X (.Subscript (.List es pos') b pos) (zR t tb) := by
  intro pins s σ H Q I h
  obtain ⟨n, h⟩ := h
  refine Subscript_ (wpAny_List_spliced (thn (ha pos' pins s σ H _ I h) fun us s1 ⟨xs, H1, I1, r, sm, z, q⟩ => ⟨by rw [<- r.length]; exact z, ?_⟩))
  have hf : H1 s1.heap.objs.size = none := I1.hok.fresh (Nat.le_refl _)
  refine thn (hb pins _ σ (upd H1 s1.heap.objs.size (.lst xs)) _ (I1.laid (t' := s1.toks) (fun b u e => Heap.get?_push_of_some _ e) (Nat.le_refl _) ⟨z, us, 0, r, Heap.get?_push_size _ rfl⟩) (q _ hf)) fun u s3 ⟨y, H3, I3, ry, e, k⟩ => ?_
  subst e
  obtain ⟨i, v, G, rfl, hv, g, hq⟩ := yP (o := .lst xs) sm hf k
  exact thn (wE (.List es pos') b pins s3 σ _ (.ref _) (.int i) _ u (fun v' H' => v' = v /\ H' = upd H1 s1.heap.objs.size (.lst xs)) I3 rfl ry ⟨_, xs, i, v, rfl, rfl, SqL.of ad, hv, rfl, rfl⟩ (hs _ _))
    fun u' s4 ⟨v', H4, I4, r4, e1, e2⟩ => ⟨v, G, I.gc n (e2 ▸ I4) g, e1 ▸ r4, hq⟩
end
def sp0 (f : Hp -> VK -> XK -> Prop) : Sp := fun vs H Q E => match vs with
  | [] => f H Q E
  | _ => False
def sp1 (f : V -> Hp -> VK -> XK -> Prop) : Sp := fun vs H Q E => match vs with
  | [x] => f x H Q E
  | _ => False
def sp2 (f : V -> V -> Hp -> VK -> XK -> Prop) : Sp := fun vs H Q E => match vs with
  | [x, y] => f x y H Q E
  | _ => False
def sp3 (f : V -> V -> V -> Hp -> VK -> XK -> Prop) : Sp := fun vs H Q E => match vs with
  | [x, y, z] => f x y z H Q E
  | _ => False
def sp4 (f : V -> V -> V -> V -> Hp -> VK -> XK -> Prop) : Sp := fun vs H Q E => match vs with
  | [x, y, z, u] => f x y z u H Q E
  | _ => False
section
variable {vs : List V} {H : Hp} {Q : VK} {E : XK}
theorem sp1.inv {f} (h : sp1 f vs H Q E) : ∃ x, vs = [x] /\ f x H Q E := by
  unfold sp1 at h; split at h
  . exact ⟨_, rfl, h⟩
  . exact h.elim
theorem sp2.inv {f} (h : sp2 f vs H Q E) : ∃ x y, vs = [x, y] /\ f x y H Q E := by
  unfold sp2 at h; split at h
  . exact ⟨_, _, rfl, h⟩
  . exact h.elim
theorem sp3.inv {f} (h : sp3 f vs H Q E) : ∃ x y z, vs = [x, y, z] /\ f x y z H Q E := by
  unfold sp3 at h; split at h
  . exact ⟨_, _, _, rfl, h⟩
  . exact h.elim
theorem sp4.inv {f} (h : sp4 f vs H Q E) : ∃ x y z u, vs = [x, y, z, u] /\ f x y z u H Q E := by
  unfold sp4 at h; split at h
  . exact ⟨_, _, _, _, rfl, h⟩
  . exact h.elim
theorem sp1.len {f} (h : sp1 f vs H Q E) : vs.length = 1 := by obtain ⟨_, rfl, _⟩ := sp1.inv h; rfl
theorem sp2.len {f} (h : sp2 f vs H Q E) : vs.length = 2 := by obtain ⟨_, _, rfl, _⟩ := sp2.inv h; rfl
theorem sp3.len {f} (h : sp3 f vs H Q E) : vs.length = 3 := by obtain ⟨_, _, _, rfl, _⟩ := sp3.inv h; rfl
theorem sp4.len {f} (h : sp4 f vs H Q E) : vs.length = 4 := by obtain ⟨_, _, _, _, rfl, _⟩ := sp4.inv h; rfl
end
def asI (x : V) (f : Int -> Prop) : Prop := match x with
  | .int i => f i
  | _ => False
def asT (x : V) (f : List Nat -> Prop) : Prop := match x with
  | .str y => f (cs y)
  | _ => False
def asB (x : V) (f : Bool -> Prop) : Prop := match x with
  | .bl y => f y
  | _ => False
def asR (x : V) (f : Addr -> Prop) : Prop := match x with
  | .ref y => f y
  | _ => False
theorem asI.inv {x : V} {f : Int -> Prop} (h : asI x f) : ∃ i, x = .int i /\ f i := by
  unfold asI at h; split at h
  . exact ⟨_, rfl, h⟩
  . exact h.elim
theorem asT.inv {x : V} {f : List Nat -> Prop} (h : asT x f) : ∃ l, x = T l /\ f l := by
  unfold asT at h; split at h
  . exact ⟨_, rfl, h⟩
  . exact h.elim
theorem asR.inv {x : V} {f : Addr -> Prop} (h : asR x f) : ∃ i, x = .ref i /\ f i := by
  unfold asR at h; split at h
  . exact ⟨_, rfl, h⟩
  . exact h.elim
def asK (H : Hp) (x : V) (f : String -> Prop) : Prop := match iq H x with
  | some t => f t
  | none => False
theorem Ej {ns : List Int} {k : Int} (h0 : 0 <= k) (h1 : k < ns.length) : atI (ns.map V.int) k = some (.int (ns.getD k.toNat 0)) := by
  obtain ⟨j, rfl⟩ : ∃ j : Nat, k = j := ⟨k.toNat, by omega⟩
  refine aD ?_
  have l : j < ns.length := by omega
  simp [List.getD, l]
theorem yw {ns : List Int} {H H1 : Hp} {Q : VK} {i : Int} (h0 : 0 <= i) (h1 : i < ns.length) (q : Q (.int (ns.getD i.toNat 0)) H) : ko (ns.map V.int) H H1 Q (.int i) := by
  unfold ko
  simp only [Ej h0 h1]
  exact q
section
variable {X : Cx} (K : PySem.W.Frag)
theorem eD (h : X.K = K := by rfl) : CallR X (.builtin "isinstance") (Bm K) := h ▸ Eb
theorem dN (h : X.K = K := by rfl) : CallR X (.builtin "len") (Bz K) := h ▸ Dm
theorem aC (h : X.K = K := by rfl) : IxR X (gIx K) := h ▸ EA
theorem Bo (h : X.K = K := by rfl) : SlR X (Fb K) := h ▸ EB
theorem BY {tg l : Expr} {tl : TE} (hl : PE X l tl) (h : X.K = K := by rfl) : PI X tg l (AR K tl) := h ▸ DU hl
theorem bM {tg l : Expr} {tl : TE} (hl : PE X l tl) (h : X.K = K := by rfl) : PI X tg l (oJ K tl) := h ▸ Bl hl
end
theorem EV {H : Hp} {b : Bool} : iq H (.bl b) = some "bool" := rfl
theorem CO {H : Hp} {i : Int} : iq H (.int i) = some "int" := rfl
theorem D5 {H : Hp} {s : Str} : iq H (.str s) = some "str" := rfl
theorem Ei {H : Hp} : iq H .non = some "NoneType" := rfl
theorem Dk : uZ "int" = true := by decide
theorem nA : cv "NoneType" "int" = false := by decide
theorem t0 : cv "bool" "int" = true := by decide
theorem wo : cv "int" "int" = true := by decide
theorem v0 : cv "str" "int" = false := by decide
theorem uh : cv "list" "int" = false := by decide
theorem rE : cv "tuple" "int" = false := by decide
theorem uN : cv "dict" "int" = false := by decide
theorem BR : uZ "bool" = true := by decide
theorem mf : cv "NoneType" "bool" = false := by decide
theorem r8 : cv "bool" "bool" = true := by decide
theorem uP : cv "int" "bool" = false := by decide
theorem t_ : cv "str" "bool" = false := by decide
theorem se : cv "list" "bool" = false := by decide
theorem pJ : cv "tuple" "bool" = false := by decide
theorem sR : cv "dict" "bool" = false := by decide
theorem DC : uZ "str" = true := by decide
theorem ni : cv "NoneType" "str" = false := by decide
theorem uy : cv "bool" "str" = false := by decide
theorem wb : cv "int" "str" = false := by decide
theorem vI : cv "str" "str" = true := by decide
theorem tM : cv "list" "str" = false := by decide
theorem rn : cv "tuple" "str" = false := by decide
theorem um : cv "dict" "str" = false := by decide
theorem AY : uZ "list" = true := by decide
theorem mL : cv "NoneType" "list" = false := by decide
theorem sf : cv "bool" "list" = false := by decide
theorem tF : cv "int" "list" = false := by decide
theorem tJ : cv "str" "list" = false := by decide
theorem rV : cv "list" "list" = true := by decide
theorem pP : cv "tuple" "list" = false := by decide
theorem rQ : cv "dict" "list" = false := by decide
theorem zy : uZ "tuple" = true := by decide
theorem km : cv "NoneType" "tuple" = false := by decide
theorem qc : cv "bool" "tuple" = false := by decide
theorem rY : cv "int" "tuple" = false := by decide
theorem rK : cv "str" "tuple" = false := by decide
theorem p_ : cv "list" "tuple" = false := by decide
theorem pe : cv "tuple" "tuple" = true := by decide
theorem pX : cv "dict" "tuple" = false := by decide
theorem Bj : uZ "dict" = true := by decide
theorem lO : cv "NoneType" "dict" = false := by decide
theorem sh : cv "bool" "dict" = false := by decide
theorem tm : cv "int" "dict" = false := by decide
theorem ur : cv "str" "dict" = false := by decide
theorem sv : cv "list" "dict" = false := by decide
theorem pF : cv "tuple" "dict" = false := by decide
theorem rC : cv "dict" "dict" = true := by decide
theorem EE {H : Hp} {b : Bool} {f : String -> Prop} : asK H (.bl b) f = f "bool" := rfl
theorem Dd {H : Hp} {i : Int} {f : String -> Prop} : asK H (.int i) f = f "int" := rfl
theorem Df {H : Hp} {i : Str} {f : String -> Prop} : asK H (.str i) f = f "str" := rfl
theorem Ez {H : Hp} {f : String -> Prop} : asK H .non f = f "NoneType" := rfl
def Ar : Expr -> Bool
  | .Starred _ _ => false
  | _ => true
theorem xN {e : Expr} {es : List Expr} {env : Env} (h : Ar e = true) : starEach (e :: es) env = (false, eval e env) :: starEach es env := by
  cases e <;> first | rfl | cases h
structure FA (X : Cx) (es : List Expr) (t : TA) : Prop where
  pa : PA X es t
theorem ah {X : Cx} : FA X [] yX := ⟨Dw⟩
theorem aa {X : Cx} {e : Expr} {es : List Expr} {te : TE} {t : TA} (ha : PE X e te) (hr : FA X es t) (h : Ar e = true := by rfl) : FA X (e :: es) (zd te t) := ⟨Bx ha hr.pa (xN h)⟩
theorem BW {H : Hp} {P : Hp -> Prop} : (∃ G, Gc H G H /\ P G) ↔ P H := by
  constructor
  . rintro ⟨G, g, p⟩
    have e : G = H := by
      funext b
      cases h : H b with
      | none => exact g.b.free h
      | some o => exact g.a b o h
    rw [<- e]; exact p
  . exact fun p => ⟨H, Gc.refl, p⟩
theorem Fz {CX : CXT} {P : Program} {w : World} {K : PySem.W.Frag} {mg : Str -> Option Value} {base : Heap} {N : List Str} {qual : Str} {scope : Scope} {f : Addr} {cd : Value} {A : Around} {outer : List Env} {s : Shared} {H : Hp} {E : XK} :
    (eL CX P w K mg base N qual scope f cd A outer s H E).K = K := rfl
def isI : V -> Bool
  | .int _ => true
  | _ => false
def isS : V -> Bool
  | .str _ => true
  | _ => false
theorem ym {H : Hp} : Same H H ↔ True := ⟨fun _ => trivial, fun _ => Same.refl H⟩
theorem az {H : Hp} {p : Addr} {o : HO} (hN : NoT H) (d : jI o = true) : NoT (upd H p o) := hN.upd d
theorem Bd {i : Int} : isI (.int i) = true := rfl
theorem DY {i : Bool} : isI (.bl i) = false := rfl
theorem BM {i : Str} : isI (.str i) = false := rfl
theorem B0 {i : Addr} : isI (.ref i) = false := rfl
theorem Bb  : isI (.non) = false := rfl
theorem By {i : Int} : isS (.int i) = false := rfl
theorem D9 {i : Bool} : isS (.bl i) = false := rfl
theorem B4 {i : Str} : isS (.str i) = true := rfl
theorem BO {i : Addr} : isS (.ref i) = false := rfl
theorem BD  : isS (.non) = false := rfl
theorem zh {H : Hp} (h : yF H) : NoT H := fun b o e => by
  rcases h b with z | ⟨ob, xs, z⟩
  . rw [e] at z; cases z
  . rw [e] at z; cases z; rfl
def gcE (H : Hp) (E : XK) : XK := fun C d H' => ∃ G, Gc H G H' /\ E C d G
theorem Fun.okG {P : Program} {w : World} {K : PySem.W.Frag} {mg : Str -> Option Value} {base : Heap} {x qual : Str} {st : Stmt} {f : Addr} {fd : FuncData} {N ps : List Str} {k : Nat} {sp : Sp} (F : Fun K x qual st f fd) (S : aH N ps (ag st))
    (len : ∀ vs H Q E, sp vs H Q E -> vs.length = ps.length)
    (hbody : ∀ (cdv : Value) (A : Around) (outer : List Env) (s : Shared) (H : Hp) (vs : List V) (Q : VK) (E : XK), Room k (A.deeper (envOfC qual (ag st) s.heap.objs.size f cdv)) -> sp vs H Q E ->
      NoT H /\ ∃ t, PSs (eL (XE P w) P w K mg base N qual (ag st) f cdv A outer s H (gcE H E)) (aA st) t /\ t { nx := fun _ H' => ∃ G, Gc H G H' /\ Q .non G, rt := fun v H' => ∃ G, Gc H G H' /\ Q v G } (iz N vs) H) : bw P w K mg base (XE P w) (k + 1) f fd ps sp := by
  have F' : bw P w K mg base (XE P w) (k + 1) f fd ps (fun vs H Q' E' => ∃ Q E, sp vs H Q E /\ Q' = (fun v H' => ∃ G, Gc H G H' /\ Q v G) /\ E' = gcE H E) := by
    refine F.okX S (fun vs H Q' E' ⟨Q, E, h, _⟩ => len vs H Q E h) (fun cdv A outer s H vs Q' E' hr h => ?_)
    obtain ⟨Q, E, h, rfl, rfl⟩ := h
    exact (hbody cdv A outer s H vs Q E hr h).2
  refine ⟨len, fun A outer s H args us vs Q E hr e0 hb r hsp => ?_⟩
  have nT : NoT H := by
    obtain ⟨oc, od, kV, doc, pm, an, cdv, ct, osl, rfl, lk, hcd⟩ := F.ex
    exact (hbody cdv A outer s H vs Q E (hr.deeper _) hsp).1
  refine codeAny_mono (F'.run A outer s H args us vs _ _ hr e0 hb r ⟨Q, E, hsp, rfl, rfl⟩) fun res s' h => ?_
  cases res with
  | error e =>
    obtain ⟨ea, C, rs, H', h1, h2, h3, un, hok, hrs, fly, G, g, q⟩ := h
    exact ⟨ea, C, rs, G, h1, h2, h3, un.gc g, HOk.gc nT e0.hok hok g, fun b hb => ⟨(hrs b hb).1, g.b.free (hrs b hb).2⟩, fly, q⟩
  | ok fl =>
    cases fl with
    | ret u =>
      obtain ⟨v, H', h1, h2, un, hok, rv, G, g, q⟩ := h
      exact ⟨v, G, h1, h2, un.gc g, HOk.gc nT e0.hok hok g, rv, q⟩
    | next => exact h
    | brk => exact h
    | cont => exact h
section
variable {K : PySem.W.Frag} {C D : Addr} {b : Bool} {cl : ClassData}
end
theorem zk {l : PySem.W.OpenLaw} {n k : Nat} {q : Program} {loose : List Str} {XP : (Str -> Option Value) -> Heap -> Prop} {YP : World -> Heap -> Prop} {d : DefRec} {K : Params -> PySem.W.Frag} {sp : PySem.W.Frag -> Sp} {x : Str}
    (hn : l.most = some n) (hn2 : n <= sizeLine) (hdf : d.params.defaults = []) (hr : Room k callerA)
    (hY : ∀ (w : World) (h : Heap), YP w h -> (K w.params).In h)
    (F : ∀ (w : World) (mg : Str -> Option Value) (fa : Addr) (h : Heap), (K w.params).In h -> h.Ns mainGlobals mg -> mg d.name = some (.ref fa) ->
      ∃ fd : FuncData, (∀ (s : Shared) (u : Value), BindsTo s fd ⟨[u], []⟩ [(x, u)]) /\
        ∀ base : Heap, (K w.params).In base -> base.Ns mainGlobals mg -> bw l.prog w (K w.params) mg base (XE l.prog w) k fa fd [x] (sp (K w.params)))
    (hsp : ∀ (K : PySem.W.Frag) (H : Hp) (a : Addr) (ns : List Int), ns.length <= n -> yF H -> SqL K H a (ns.map V.int) -> sp K [.ref a] H (fun v _ => v = .bl true) fun _ _ _ => False) :
    PySem.W.WalkO q loose XP YP l.row.toRowW d [] (fun f vs => PySem.call f vs) :=
  Bw (K := K) (CX := fun w => XE l.prog w) (sp := fun w => sp (K w.params)) hn hn2 hdf hr hY F (fun w H a ns h1 h2 h3 => hsp (K w.params) H a ns h1 h2 h3) fun w H s e s' ⟨_, _, _, _, _, _, _, _, _, _, _, z⟩ => z
end L2
set_option Elab.async false
set_option linter.all false
set_option maxRecDepth 100000
namespace L2
open PySem PySem.Spec PyProof.Rows
section
variable {prog : Program} {w : World} {A : Around} {R : Result -> Shared -> Prop} {s : Shared}
theorem rG {elt target iter : Expr} {ifs : List Expr} {scope : Scope} {pos : Pos} {it acc : Value} {env : Env} (I : Nat -> Shared -> Prop)
    (turn : ∀ n s, I n s -> wpAny (model prog w) A (pyNext it) (fun r s₁ => match r with
      | none => R (.ok .next) s₁
      | some v => wpAny (model prog w) A (letOwnedTupleGo target it v) (fun _ s₁' => wpAny (model prog w) A (assign target env v) (fun _ s₂ =>
          wpAny (model prog w) A (forIn ifs true fun c r => if r = true then do let ok <- isTrue c env (eval c env); pure (ForInStep.yield ok) else pure (ForInStep.yield r)) (fun ok s₃ =>
            if ok = true then wpAny (model prog w) A (eval elt env) (fun x s₄ =>
              wpAny (model prog w) A (call (.builtin "list.append") [acc, x]) (fun _ s₅ => ∃ m, m < n /\ I m s₅) (notedBy (model prog w) A env fun e s' => R (.error e) s') s₄) (notedBy (model prog w) A env fun e s' => R (.error e) s') s₃
            else ∃ m, m < n /\ I m s₃) (notedBy (model prog w) A env fun e s' => R (.error e) s') s₂) (notedBy (model prog w) A env fun e s' => R (.error e) s') s₁') (notedBy (model prog w) A env fun e s' => R (.error e) s') s₁) (notedBy (model prog w) A env fun e s' => R (.error e) s') s)
    (n : Nat) (h : I n s) :
    codeAny (model prog w) A (.compLoop (.ListComp elt [⟨target, iter, ifs, 0⟩] scope pos) 0 it acc env) R s := by
  refine codeAny_loop rfl I (fun n s hI => ?_) n h
  show wpAny _ A ((compTurn (.ListComp elt [⟨target, iter, ifs, 0⟩] scope pos) 0 it acc env).onRaise (fun x => do noteFrame x env; theTreesLotGoes x)) _ _ s
  refine wpAny_noted ?_
  rw [compTurn_list]
  refine wpAny_bind (wpAny_standAt (wpAny_bind (wpAny_mono (turn n s hI) (fun r s₁ h₁ => ?_) fun _ _ h' => h')))
  cases r with
  | none => exact wpAny_pure h₁
  | some v =>
    refine wpAny_bind (wpAny_mono h₁ (fun _ s₁' h₁' => ?_) fun _ _ h' => h')
    refine wpAny_bind (wpAny_mono h₁' (fun _ s₂ h₂ => wpAny_bind (wpAny_mono h₂ (fun ok s₃ h₃ => ?_) fun _ _ h' => h')) fun _ _ h' => h')
    cases ok with
    | false => exact wpAny_pure ⟨rfl, h₃⟩
    | true =>
      exact wpAny_bind (wpAny_bind (wpAny_mono h₃ (fun x s₄ h₄ => wpAny_bind (wpAny_mono h₄ (fun _ s₅ h₅ => wpAny_pure (wpAny_pure ⟨rfl, h₅⟩)) fun _ _ h' => h')) fun _ _ h' => h'))
end
def cJ (X : Cx) (N : List Str) (scope : Scope) (cl : List (Str × Addr)) (C : Addr) (s₂ : Shared) (H₂ : Hp) (ex : List Addr) (pn : List (Addr × Obj)) : Cx :=
  { X with N := N, s₀ := s₂, H₀ := H₂, env := compEnvC scope cl C X.env, outer := X.stack, stack := X.stack, ex := ex, fn := fun _ => false, pn := pn, xe := fun _ _ => False }
structure CompScope (X : Cx) (scope : Scope) (cl : List (Str × Addr)) (x : Str) (fr : List Str) : Prop where
  clos : closureFor scope X.env = pure cl
  nocell : ∀ y ∈ scope.names, y.2 ≠ .cell
  kind : scope.kind = .function
  names : ∀ y ∈ scope.names, y.2 = .local -> scope.names.lookup y.1 = some .local
  own : scope.names.lookup x = some .local
  keys : ∀ y ∈ cl, y.1 ∈ fr
  cells : fr.map (fun y => cl.lookup y) = fr.map (fun y => X.env.cells.lookup y)
  kinds : ∀ y ∈ fr, X.env.kindOf y = some .cell \/ X.env.kindOf y = some .free
  kin : ∀ y ∈ fr, (relabel scope X.env).names.lookup y = some .cell \/ (relabel scope X.env).names.lookup y = some .free
  only : ∀ y, ((relabel scope X.env).names.lookup y = some .cell \/ (relabel scope X.env).names.lookup y = some .free) -> y ∈ fr
theorem v_ {α : Type} {l : List (Str × α)} {y : Str} {c : α} (h : l.lookup y = some c) : (y, c) ∈ l := PySem.mem_of_lookup h
theorem CompScope.cell {X : Cx} {scope : Scope} {cl : List (Str × Addr)} {x : Str} {fr : List Str} (S : CompScope X scope cl x fr) {y : Str} (h : y ∈ fr) : cl.lookup y = X.env.cells.lookup y := by
  have e := S.cells
  obtain ⟨i, hi, rfl⟩ := List.getElem_of_mem h
  have := congrArg (fun l => l[i]?) e
  simpa [hi] using this
theorem CompScope.sub {X : Cx} {scope : Scope} {cl : List (Str × Addr)} {x : Str} {fr : List Str} (S : CompScope X scope cl x fr) {y : Str} {c : Addr} (h : cl.lookup y = some c) : X.env.cells.lookup y = some c := by
  rw [<- S.cell (S.keys _ (v_ h))]; exact h
def PTs (X : Cx) (ifs : List Expr) (t : TT) : Prop :=
  ∀ (pins : List (Addr × Obj)) (s : Shared) (σ : St) (H : Hp) (Q : Bool -> Hp -> Prop), Inv X pins σ H s -> t σ H Q ->
    wpAny (model X.prog X.w) X.A (forIn ifs true fun c r => if r = true then do let ok <- isTrue c X.env (eval c X.env); pure (ForInStep.yield ok) else pure (ForInStep.yield r)) (TP X pins σ Q) X.xe s
theorem fj {X : Cx} : PTs X [] (fun _ H Q => Q true H) := fun pins s σ H Q I h => wpAny_tests_nil ⟨H, I, h⟩
theorem fc {X : Cx} {c : Expr} {t : TT} (h : PT X c t) : PTs X [c] t := fun pins s σ H Q I hw => wpAny_tests_one (h pins s σ H Q I hw)
end L2
set_option Elab.async false
set_option maxHeartbeats 4000000
namespace MT
def dg (n : Nat) : List Nat := (Nat.toDigits 10 n).map Char.toNat
def isD (c : Nat) : Bool := decide (48 <= c) && decide (c <= 57)
def vl (t : List Nat) : Nat := t.foldl (fun n c => 10 * n + (c - 48)) 0
def fg (t : List Nat) : List Nat := if t.take 1 = [45] then t.drop 1 else t
def good (t : List Nat) : Prop := fg t ≠ [] /\ (∀ c ∈ fg t, isD c = true) /\ ((fg t).head? = some 48 -> t = [48])
def pd : Nat -> Nat -> List Nat
  | 0, _ => []
  | k + 1, m => pd k (m / 10) ++ [48 + m % 10]
end MT
set_option Elab.async false
set_option linter.all false
set_option maxRecDepth 100000
namespace L2
open PySem PySem.Spec PyProof.Rows Builtin Builtin.Str
section
variable {X : Cx} {e a b c : Expr} {pos : Pos}
def gIn (neg : Bool) : R2
  | .str i, .str j, H, Q => (match cs i with
    | [c] => Q (.bl (neg ^^ decide (c ∈ cs j))) H
    | _ => False)
  | _, _, _, _ => False
theorem zj {i : Str} {c : Nat} (h : cs i = [c]) : i = ⟨#[c]⟩ := by
  obtain ⟨⟨l⟩⟩ := i
  have h' : l = [c] := h
  rw [h']
theorem EG : OpR X (compareOp .In) (gIn false) := yi.imp fun x y H Q h => by
  unfold gIn at h; split at h
  . split at h
    . rename_i i j c hc
      refine ⟨_, _, rfl, rfl, ?_⟩
      rw [zj hc, PySem.StrLaws.found_one]
      simpa [cs] using h
    . exact h.elim
  . exact h.elim
def js (l : List Nat) (lo hi : Option Int) : List Nat := (l.drop (HT.sIx l.length 0 lo)).take (HT.sIx l.length l.length hi - HT.sIx l.length 0 lo)
def gSl : V -> Option Int -> Option Int -> Hp -> VK -> Prop
  | .str y, lo, hi, H, Q => (cs y).length <= sizeLine /\ Q (T (js (cs y) lo hi)) H
  | _, _, _, _, _ => False
theorem CW (lo hi : Option Int) (n : Nat) : Builtin.Str.strSliceIndices lo hi 1 n = (List.range (HT.sIx n n hi - HT.sIx n 0 lo)).map (HT.sIx n 0 lo + ·) := by
  obtain ⟨h1, h2, h3⟩ := kW lo hi n
  have e : Builtin.Str.strSliceIndices lo hi 1 n = sliceRange (sliceBounds lo hi none n).1 (sliceBounds lo hi none n).2.1 1 := by
    unfold Builtin.Str.strSliceIndices sliceBounds
    cases lo <;> cases hi <;> rfl
  rw [e, h1, h2, sliceRange_one]
theorem xT (y : Str) (lo hi : Option Int) : V.str (Txt.slice y lo hi) = T (js (cs y) lo hi) := by
  have hl : y.length = (cs y).length := by simp [cs, Str.length]
  have ha : HT.sIx y.length 0 lo <= y.length := HT.sIx_le _ _ (Nat.zero_le _) lo
  have hb : HT.sIx y.length y.length hi <= y.length := HT.sIx_le _ _ (Nat.le_refl _) hi
  unfold Txt.slice
  rw [CW]
  split
  . rename_i h
    simp only [beq_self_eq_true, Bool.true_and, List.length_map, List.length_range, beq_iff_eq] at h
    have e1 : HT.sIx y.length 0 lo = 0 := by omega
    have e2 : HT.sIx y.length y.length hi = y.length := by omega
    rw [FP]
    congr 3
    unfold js
    rw [<- hl, e1, e2, List.drop_zero, Nat.sub_zero, hl, List.take_length]
  . rw [pick_run]
    show V.str ⟨_⟩ = V.str ⟨⟨_⟩⟩
    unfold js cs
    rw [Array.length_toList]
    rfl
theorem rP : SlR X gSl := by
  intro pins s σ H x v vl vu lo hi sl Q I rx hs pl pu h
  unfold gSl at h
  split at h
  . rename_i y
    obtain ⟨hz, q⟩ := h
    obtain ⟨t, rfl⟩ := rx
    have hz' : y.length <= sizeLine := by simpa [cs, Str.length] using hz
    refine ⟨"str", _, F.slot_str_getitem.lookup, typeIs_str _ _ _, ?_⟩
    have fin : ∀ t' k, EP X pins σ Q (.str (Txt.slice y lo hi) t') { s with toks := k } := fun t' k => ⟨.str (Txt.slice y lo hi), H, I.tok _, ⟨_, rfl⟩, by rw [xT]; exact q⟩
    cases pl with
    | none => cases pu with
      | none => exact wpAny_getItem_str_slice (l := none) (u := none) (st := none) hs rfl (post_val_or_str ⟨Nat.le_trans (Txt.slice_le y _ _) hz', fin⟩)
      | int j u => exact wpAny_getItem_str_slice (l := none) (u := some (j, u)) (st := none) hs rfl (post_val_or_str ⟨Nat.le_trans (Txt.slice_le y _ _) hz', fin⟩)
    | int i u' => cases pu with
      | none => exact wpAny_getItem_str_slice (l := some (i, u')) (u := none) (st := none) hs rfl (post_val_or_str ⟨Nat.le_trans (Txt.slice_le y _ _) hz', fin⟩)
      | int j u => exact wpAny_getItem_str_slice (l := some (i, u')) (u := some (j, u)) (st := none) hs rfl (post_val_or_str ⟨Nat.le_trans (Txt.slice_le y _ _) hz', fin⟩)
  . exact h.elim
def FS : V -> List V -> Hp -> VK -> Prop
  | .str x, [.str y], H, Q => (match cs y with
    | [c] => c ∈ cs x /\ ∀ i : Nat, (cs x)[i]? = some c -> Q (.int i) H
    | _ => False)
  | _, _, _, _ => False
def Ac : List V -> Hp -> VK -> Prop
  | [.int i], H, Q => Q (.int i) H
  | [.bl k], H, Q => Q (.int (if k then 1 else 0)) H
  | [.str x], H, Q => ((cs x) ≠ [] /\ (∀ c ∈ cs x, MT.isD c = true) /\ (cs x).length <= 640) /\ Q (.int (MT.vl (cs x))) H
  | _, _, _ => False
theorem pT : CallR X (.type "int") (fun xs H Q => ∃ x, xs = [.str x] /\ ((cs x) ≠ [] /\ (∀ c ∈ cs x, MT.isD c = true) /\ (cs x).length <= 640) /\ Q (.int (MT.vl (cs x))) H) := by
  intro pins s σ H xs us Q I r h
  obtain ⟨x, rfl, ⟨h0, hd, hl⟩, q⟩ := h
  obtain ⟨u, rfl, t, rfl⟩ := eU r
  have hl' : x.length <= 640 := by simpa [cs, Str.length] using hl
  have e : PySem.NumText.digitsVal x.cps.toList = MT.vl (cs x) := by
    unfold PySem.NumText.digitsVal MT.vl cs
    congr 1
    funext a c; omega
  have hn : intText? x = some ((MT.vl (cs x) : Nat) : Int) := by
    rw [PySem.intText_digits (fun c hc => by have := hd c hc; simpa [MT.isD] using this) h0 (by omega), e]
  exact PySem.W.KIN.call_text hn hl' ⟨.int _, H, I.tok _, ⟨_, rfl⟩, q⟩
theorem Bi : CallR X (.type "int") Ac := (ye.or pT).imp fun xs H Q h => by
  unfold Ac at h; split at h
  . exact .inl (.inl ⟨_, rfl, h⟩)
  . exact .inl (.inr ⟨_, rfl, h⟩)
  . exact .inr ⟨_, rfl, h.1, h.2⟩
  . exact h.elim
end
end L2
set_option Elab.async false
set_option linter.all false
set_option maxRecDepth 100000
namespace L2
open PySem PySem.Spec PyProof.Rows
def Its (x : Str) : It := ⟨fun i _ => i < x.cps.size, fun i H v H' => H' = H /\ ∃ c, x.cps[i]? = some c /\ v = .str ⟨#[c]⟩, fun i _ => x.cps.size <= i⟩
theorem Ak {P : Program} {w : World} {K : PySem.W.Frag} {tg : Expr} (x : Str) (t : Tok) (it : Addr) : yn P w K tg (Its x) [it] it (fun i h => h.IsStrIter it "str_ascii_iterator" x t i) where
  mem := by simp
  obj := fun i h st b hb => by
    have e : b = it := by simpa using hb
    subst e
    obtain ⟨o, e, c, d⟩ := st
    exact ⟨o, e, fun v z => by rw [d] at z; cases z⟩
  keep := fun i h h' st k => by
    obtain ⟨o, e, c, d⟩ := st
    exact ⟨o, k it (by simp) o e, c, d⟩
  item := by
    intro X hP hw hK hc i pins s σ H E I hf st hg
    subst hP hw hK
    have hg' : i < x.cps.size := hg
    obtain ⟨f0, f1, f2, f3, f4, f5⟩ := hf it (by simp)
    have hx : x.cps[i]? = some x.cps[i] := by simp [hg']
    refine wpAny_pyNext_ascii_item st hx fun h' st' sb => ?_
    have I1 : Inv X pins σ H { s with heap := h', toks := s.toks + 1 } := I.turned (fun b o hb e => (sb.2 b hb).trans e) f0 f1 f3 f4 f5
    obtain ⟨o, e, c, d⟩ := id st'
    exact ⟨_, rfl, nY (s := { s with heap := h', toks := s.toks + 1 }) e c d (by decide) ⟨.str ⟨#[x.cps[i]]⟩, H, I1, ⟨_, rfl⟩, ⟨rfl, _, hx, rfl⟩, st', fun b hb => (hf b hb).1⟩⟩
  done := by
    intro X hP hw hK hc i pins s σ H E I hf st hg
    subst hP hw hK
    have hg' : x.cps.size <= i := hg
    obtain ⟨f0, f1, f2, f3, f4, f5⟩ := hf it (by simp)
    have hx : x.cps[i]? = none := by simp [hg']
    exact wpAny_pyNext_ascii_end (I.ok.hd hc) st hx fun h' eb => ⟨rfl, I.turned (fun b o hb e => eb b o hb e) f0 f1 f3 f4 f5⟩
  self := fun _ _ _ _ _ st h => wpAny_pyIter_striter_ascii st h
def Fa (tl : TE) : TI := fun σ H R => tl σ H fun v H1 => match v with
  | .str x => (∀ c ∈ cs x, c < 128) /\ R (Its x) H1
  | _ => False
theorem Am {X : Cx} {tg l : Expr} {tl : TE} (hl : PE X l tl) : PI X tg l (Fa tl) := by
  intro pins s σ H R I h
  refine thn (hl pins s σ H _ I h) fun v s1 ⟨y, H1, I1, r1, q⟩ => ?_
  dsimp only at q
  split at q
  . rename_i x
    obtain ⟨ha, q⟩ := q
    obtain ⟨t, rfl⟩ := r1
    have ha' : x.cps.all (· < 128) = true := by
      rw [Array.all_eq_true]
      intro i hi
      exact decide_eq_true (ha _ (by unfold cs; rw [Array.mem_toList_iff]; exact Array.getElem_mem hi))
    refine wpAny_pyIter_ascii ha' ?_
    refine ⟨s1.heap.objs.size, [s1.heap.objs.size], _, _, H1, rfl, I1.kept (t' := s1.toks) fun b o e => Heap.get?_push_of_some _ e, Ak x t _, ⟨_, Heap.get?_push_size _ rfl, rfl, rfl⟩, fun b hb => ?_, q⟩
    have e : b = s1.heap.objs.size := by simpa using hb
    subst e
    exact I1.fpOk (Nat.le_refl _) (I1.hok.fresh (Nat.le_refl _))
  . exact q.elim
section
variable {X : Cx}
theorem nS : ∀ {bs : List Bool} {us : List Value}, Vals (bs.map V.bl) us -> LSm.BoolsAre us bs
  | [], _, .nil => .nil
  | b :: r, _, .cons e t => by
    cases (show _ = Value.bool b from e)
    exact .cons b (nS t)
def CZ (K : PySem.W.Frag) : List V -> Hp -> VK -> Prop
  | [.ref p], H, Q => ∃ bs : List Bool, SqL K H p (bs.map V.bl) /\ Q (.bl (bs.all id)) H
  | _, _, _ => False
theorem r_ (K : PySem.W.Frag) (hc : X.calm = true) (hK : X.K = K := by rfl) : CallR X (.builtin "all") (CZ K) := by
  subst hK
  intro pins s σ H xs us Q I r h
  unfold CZ at h
  split at h
  . rename_i p
    obtain ⟨bs, hq, q⟩ := h
    obtain ⟨u, rfl, rx⟩ := eU r
    cases (show u = Value.ref p from rx)
    obtain ⟨its, rv, pl, hz⟩ := I.list hq
    have hne : p ≠ s.heap.objs.size := Nat.ne_of_lt (by obtain ⟨_, e, _⟩ := pl.isList; exact Heap.lt_size e)
    have hb : LSm.BoolsAre its bs := nS rv
    refine call_all_walk (wpAny_pyIter_list pl.isList ?_)
    refine ⟨s.heap.objs.size, [s.heap.objs.size, p], [s.heap.objs.size], its.toArray.size, _, _, fun i => (bs[i]?).getD true, rfl, Walks.list (A := X.A.in1) (I.ok.hd hc) _ p hne its.toArray,
      ⟨⟨_, Heap.get?_push_size _ rfl, rfl, rfl⟩, pl.isList.push _⟩, fun i v s' Q' E' hP hQ => ?_, fun h' tk hk => ?_⟩
    . obtain ⟨b, e, rfl⟩ := hb.get i v (by simpa using hP)
      simp only [e, Option.getD_some] at hQ
      exact wpAny_truthy_bool hQ
    . have e : ((List.range its.toArray.size).all fun i => (bs[i]?).getD true) = bs.all id := by
        rw [List.size_toArray, hb.length]; exact LSm.range_all bs
      rw [e]
      exact ⟨.bl (bs.all id), H, I.kept (LSm.kept_iter hk), rfl, q⟩
  . exact h.elim
end
end L2
set_option Elab.async false
set_option linter.all false
set_option maxRecDepth 100000
namespace L2
open PySem PySem.Spec PyProof.Rows Builtin Builtin.Str
def cZ (sep : List Nat) : List (List Nat) -> List Nat
  | [] => []
  | [x] => x
  | x :: y :: r => x ++ sep ++ cZ sep (y :: r)
def S (l : List Nat) : Str := ⟨⟨l⟩⟩
theorem qz (sep : List Nat) : ∀ (r : List (List Nat)) (x : List Nat), ((r.map S).foldl (fun acc p => acc ++ (S sep).cps ++ p.cps) (S x).cps) = (S (cZ sep (x :: r))).cps
  | [], x => rfl
  | y :: r, x => by
    rw [List.map_cons, List.foldl_cons]
    have e : (S x).cps ++ (S sep).cps ++ (S y).cps = (S (x ++ sep ++ y)).cps := by
      apply Array.ext'; simp [S]
    rw [e, qz sep r]
    congr 1
    cases r with
    | nil => rfl
    | cons z r' => unfold cZ; simp [cZ, List.append_assoc]
theorem wF (sep : List Nat) (ls : List (List Nat)) : Txt.join (S sep) (ls.map S) = S (cZ sep ls) := by
  unfold Txt.join glued
  cases ls with
  | nil => rfl
  | cons x r =>
    show (⟨((x :: r).map S).drop 1 |>.foldl _ _⟩ : Str) = _
    rw [List.map_cons, List.drop_one, List.tail_cons, List.headD_cons, qz]
theorem xL : ∀ {ls : List (List Nat)} {us : List Value}, Vals (ls.map T) us -> StrsAre us (ls.map S)
  | [], _, .nil => .nil
  | l :: r, _, .cons e t => by
    obtain ⟨k, rfl⟩ := e
    exact .cons _ k (xL t)
def BL (sep : List Nat) (ls : List (List Nat)) : Prop := (ls.map List.length).sum + ls.length * sep.length <= 16777216
theorem Bs {sep : List Nat} {ls : List (List Nat)} (h : BL sep ls) : (((ls.map S).map (·.length)).sum + (ls.map S).length * (S sep).length <= 16777216) := by
  have e : (ls.map S).map (·.length) = ls.map List.length := by rw [List.map_map]; apply List.map_congr_left; intro l _; rfl
  rw [e, List.length_map]; exact h
section
variable {X : Cx}
def Cr (K : PySem.W.Frag) : V -> List V -> Hp -> VK -> Prop
  | .str x, [.ref p], H, Q => ∃ ls : List (List Nat), SqL K H p (ls.map T) /\ BL (cs x) ls /\ Q (T (cZ (cs x) ls)) H
  | _, _, _, _ => False
theorem zU (K : PySem.W.Frag) (hK : X.K = K := by rfl) : MtR X "str.join" (Cr K) := by
  subst hK
  intro pins s σ H x xs v us Q I rx rs h
  unfold Cr at h
  split at h
  . rename_i y p
    obtain ⟨ls, hq, hf, q⟩ := h
    obtain ⟨t, rfl⟩ := rx
    obtain ⟨u, rfl, ru⟩ := eU rs
    cases (show u = Value.ref p from ru)
    obtain ⟨its, rv, pl, hz⟩ := I.list hq
    refine join_list pl.isList (xL rv) (Bs hf) fun t' k => ?_
    exact ⟨.str (Txt.join y (ls.map S)), H, I.tok _, ⟨_, rfl⟩, by rw [show y = S (cs y) from rfl, wF]; exact q⟩
  . exact h.elim
end
end L2
namespace PySem
open Sem (wp)
open Builtin Builtin.Str Builtin.Int
set_option maxRecDepth 100000
namespace F
end F
section
variable {prog : Program} {w : World} {A : Around} {E : Value -> Shared -> Prop} {s : Shared} {I : Addr} {fp wr : List Addr} {G : Array GenState -> Array GenState -> Prop} {n : Nat} {P : Nat -> Value -> Prop} {St : Nat -> Shared -> Prop}
end
end PySem
set_option Elab.async false
set_option linter.all false
set_option maxRecDepth 100000
namespace L2
open PySem PySem.Spec PyProof.Rows Builtin Builtin.Str
section
variable {X : Cx} {o e : Expr} {to te : TE} {apos cpos p pos : Pos}
end
end L2
set_option Elab.async false
set_option linter.all false
set_option maxRecDepth 100000
namespace L2
open PySem PySem.Spec PyProof.Rows Builtin Builtin.Str
section
variable {X : Cx}
structure DD (J : It) (vs : List V) : Prop where
  go : ∀ i H, i < vs.length -> J.go i H
  yld : ∀ i H x H', i < vs.length -> J.yld i H x H' -> H' = H /\ vs[i]? = some x
  stop : ∀ H, J.stop vs.length H
theorem zV (l : List Nat) : DD (Its ⟨⟨l⟩⟩) (l.map fun c => T [c]) := by
  refine ⟨fun i H h => by simpa [Its] using h, fun i H x H' _ y => ?_, fun H => by simp [Its]⟩
  obtain ⟨e, c, hc, rfl⟩ := y
  refine ⟨e, ?_⟩
  have : l[i]? = some c := by simpa using hc
  rw [List.getElem?_map, this]; rfl
theorem qX {J : It} {vs : List V} (E : DD J vs) {σ' : St} {H1 : Hp} {Q : VK} {tt : TT} {te : TE} (C : Hp -> Prop) (p : V -> Bool) (f : V -> V) (hlen : vs.length <= sizeLine)
    (hp : ∀ x ∈ vs, ∀ H (R : Bool -> Hp -> Prop), C H -> R (p x) H -> tt (some x :: σ') H R) (hf : ∀ x ∈ vs, p x = true -> ∀ H (R : VK), C H -> R (f x) H -> te (some x :: σ') H R)
    (D : Addr) (hD : H1 D = none) (hC : ∀ ys, C (upd H1 D (.lst ys))) (q : Q (.ref D) (upd H1 D (.lst ((vs.filter p).map f)))) :
    ∃ W : Nat -> Nat -> List V -> Hp -> Prop, (∃ m, W 0 m [] (upd H1 D (.lst []))) /\
      ∀ i m ys H2, W i m ys H2 -> H2 D = some (.lst ys) /\ ((J.stop i H2 /\ Q (.ref D) H2) \/ (J.go i H2 /\ ∀ x H3, J.yld i H2 x H3 ->
        tt (some x :: σ') H3 fun b H4 => if b = true then te (some x :: σ') H4 fun y H5 => H5 D = some (.lst ys) /\ ys.length < sizeLine /\ ∃ m', m' < m /\ W (i + 1) m' (ys ++ [y]) (upd H5 D (.lst (ys ++ [y])))
          else ∃ m', m' < m /\ W (i + 1) m' ys H4)) := by
  refine ⟨fun i m ys H2 => m = vs.length - i /\ i <= vs.length /\ ys = ((vs.take i).filter p).map f /\ H2 = upd H1 D (.lst ys), ⟨vs.length, by simp, Nat.zero_le _, by simp, rfl⟩, ?_⟩
  rintro i m ys H2 ⟨rfl, hi, hys, rfl⟩
  refine ⟨ad, ?_⟩
  by_cases hlt : i < vs.length
  . refine .inr ⟨E.go i _ hlt, fun x H3 y => ?_⟩
    obtain ⟨e, hx⟩ := E.yld i _ x H3 hlt y
    subst e
    have hm : x ∈ vs := List.mem_of_getElem? hx
    have htk : vs.take (i + 1) = vs.take i ++ [x] := by
      rw [List.take_succ, hx]; rfl
    have hyl : ys.length <= i := by
      rw [hys, List.length_map]
      exact Nat.le_trans (List.length_filter_le _ _) (by simp [List.length_take]; omega)
    refine hp x hm _ _ (hC _) ?_
    cases hb : p x with
    | true =>
      rw [if_pos rfl]
      refine hf x hm hb _ _ (hC _) ⟨ad, by omega, vs.length - (i + 1), by omega, rfl, hlt, ?_, ?_⟩
      . rw [htk, List.filter_append, List.map_append, <- hys]
        simp [hb]
      . funext z
        by_cases hz : z = D
        . subst hz; rw [ad, ad]
        . rw [aj hz, aj hz, aj hz]
    | false =>
      rw [if_neg Bool.false_ne_true]
      refine ⟨vs.length - (i + 1), by omega, rfl, hlt, ?_, rfl⟩
      rw [htk, List.filter_append, List.map_append, <- hys]
      simp [hb]
  . have e : i = vs.length := by omega
    subst e
    refine .inl ⟨E.stop _, ?_⟩
    rw [List.take_length] at hys
    rw [hys]; exact q
end
theorem SqL.same {K : PySem.W.Frag} {H H' : Hp} {a : Addr} {xs : List V} (s : Same H H') (h : SqL K H a xs) : SqL K H' a xs := by
  rcases h with (h | ⟨o, h⟩) | h
  . exact .inl (.inl (s _ _ h))
  . exact .inl (.inr ⟨o, s _ _ h⟩)
  . exact .inr h
theorem u1 {P : Program} {w : World} {X : Cx} : ft (XE P w) X (fun _ _ _ _ => False) := fun _ _ _ _ _ _ _ ⟨_, _, _, _, _, _, _, _, _, _, _, q⟩ => q.elim
def Al : Option NameKind -> Bool
  | some .cell => true
  | some .free => true
  | _ => false
theorem sX {k : Option NameKind} : Al k = true ↔ (k = some .cell \/ k = some .free) := by
  cases k with
  | none => simp [Al]
  | some k => cases k <;> simp [Al]
theorem cg {cl : List (Str × Addr)} {fr : List Str} (h : (cl.map (·.1)).all (fun y => fr.elem y) = true) : ∀ y ∈ cl, y.1 ∈ fr := fun y hy => by
  have := List.all_eq_true.mp h y.1 (List.mem_map_of_mem hy)
  simpa using this
theorem aP {fr : List Str} {k : Str -> Option NameKind} (h : fr.all (fun y => Al (k y)) = true) : ∀ y ∈ fr, k y = some .cell \/ k y = some .free := fun y hy => sX.mp (List.all_eq_true.mp h y hy)
theorem ci {names : List (Str × NameKind)} {fr : List Str} (h : names.all (fun p => !Al (some p.2) || fr.elem p.1) = true) : ∀ y, (names.lookup y = some .cell \/ names.lookup y = some .free) -> y ∈ fr := fun y hy => by
  have hy' := sX.mpr hy
  cases e : names.lookup y with
  | none => rw [e] at hy'; cases hy'
  | some k =>
    rw [e] at hy'
    have := List.all_eq_true.mp h (y, k) (PySem.mem_of_lookup e)
    simpa [hy'] using this
end L2
set_option Elab.async false
set_option linter.all false
set_option maxRecDepth 100000
namespace L2
open PySem PySem.Spec PyProof.Rows Builtin Builtin.Str
section
variable {X : Cx} {pos : Pos}
theorem Dh {pins : List (Addr × Obj)} {σ : St} {H : Hp} {s : Shared} (I : Inv X pins σ H s) : sysModules < s.heap.objs.size :=
  Nat.lt_trans (by decide) (show mainGlobals < s.heap.objs.size from (I.mod.glob.keeps I.bk).lt)
def Cq : TE := fun _ H Q => ∀ p, H p = none -> Q (.ref p) (upd H p (.dK []))
theorem nM : PE X (.Dict [] [] pos) Cq := by
  intro pins s σ H Q I h
  have new : ObjOk X.prog X.w (upd H s.heap.objs.size (.dK [])) (s.heap.push { cls := .type "dict", data := .dict #[] }) s.heap.objs.size (.dK []) :=
    ⟨Nat.zero_le _, beq_eq_false_iff_ne.mpr (Ne.symm (Nat.ne_of_lt (Dh I))), [], .nil, Heap.DictOf.new s.heap⟩
  exact wpAny_Dict_empty ⟨.ref s.heap.objs.size, _, I.laid (t' := s.toks) (fun _ _ q => Heap.get?_push_of_some _ q) (Nat.le_refl _) new, rfl, h _ (I.hok.fresh (Nat.le_refl _))⟩
end
end L2
set_option Elab.async false
set_option linter.all false
set_option maxRecDepth 100000
namespace L2
open PySem PySem.Spec PyProof.Rows Builtin Builtin.Str
section
variable {X : Cx}
structure Co (C : Hp -> Prop) (J : It) (vs : List V) : Prop where
  go : ∀ i H, C H -> i < vs.length -> J.go i H
  yld : ∀ i H x H', C H -> i < vs.length -> J.yld i H x H' -> H' = H /\ vs[i]? = some x
  stop : ∀ H, C H -> J.stop vs.length H
theorem wl {J : It} {vs : List V} {σ' : St} {H1 : Hp} {Q : VK} {tt : TT} {te : TE} (C : Hp -> Prop) (E : Co C J vs) (p : V -> Bool) (f : V -> V) (hlen : vs.length <= sizeLine)
    (hp : ∀ x ∈ vs, ∀ H (R : Bool -> Hp -> Prop), C H -> R (p x) H -> tt (some x :: σ') H R) (hf : ∀ x ∈ vs, p x = true -> ∀ H (R : VK), C H -> R (f x) H -> te (some x :: σ') H R)
    (D : Addr) (hD : H1 D = none) (hC : ∀ ys, C (upd H1 D (.lst ys))) (q : Q (.ref D) (upd H1 D (.lst ((vs.filter p).map f)))) :
    ∃ W : Nat -> Nat -> List V -> Hp -> Prop, (∃ m, W 0 m [] (upd H1 D (.lst []))) /\
      ∀ i m ys H2, W i m ys H2 -> H2 D = some (.lst ys) /\ ((J.stop i H2 /\ Q (.ref D) H2) \/ (J.go i H2 /\ ∀ x H3, J.yld i H2 x H3 ->
        tt (some x :: σ') H3 fun b H4 => if b = true then te (some x :: σ') H4 fun y H5 => H5 D = some (.lst ys) /\ ys.length < sizeLine /\ ∃ m', m' < m /\ W (i + 1) m' (ys ++ [y]) (upd H5 D (.lst (ys ++ [y])))
          else ∃ m', m' < m /\ W (i + 1) m' ys H4)) := by
  refine ⟨fun i m ys H2 => m = vs.length - i /\ i <= vs.length /\ ys = ((vs.take i).filter p).map f /\ H2 = upd H1 D (.lst ys), ⟨vs.length, by simp, Nat.zero_le _, by simp, rfl⟩, ?_⟩
  rintro i m ys H2 ⟨rfl, hi, hys, rfl⟩
  refine ⟨ad, ?_⟩
  by_cases hlt : i < vs.length
  . refine .inr ⟨E.go i _ (hC _) hlt, fun x H3 y => ?_⟩
    obtain ⟨e, hx⟩ := E.yld i _ x H3 (hC _) hlt y
    subst e
    have hm : x ∈ vs := List.mem_of_getElem? hx
    have htk : vs.take (i + 1) = vs.take i ++ [x] := by
      rw [List.take_succ, hx]; rfl
    have hyl : ys.length <= i := by
      rw [hys, List.length_map]
      exact Nat.le_trans (List.length_filter_le _ _) (by simp [List.length_take]; omega)
    refine hp x hm _ _ (hC _) ?_
    cases hb : p x with
    | true =>
      rw [if_pos rfl]
      refine hf x hm hb _ _ (hC _) ⟨ad, by omega, vs.length - (i + 1), by omega, rfl, hlt, ?_, ?_⟩
      . rw [htk, List.filter_append, List.map_append, <- hys]
        simp [hb]
      . funext z
        by_cases hz : z = D
        . subst hz; rw [ad, ad]
        . rw [aj hz, aj hz, aj hz]
    | false =>
      rw [if_neg Bool.false_ne_true]
      refine ⟨vs.length - (i + 1), by omega, rfl, hlt, ?_, rfl⟩
      rw [htk, List.filter_append, List.map_append, <- hys]
      simp [hb]
  . have e : i = vs.length := by omega
    subst e
    refine .inl ⟨E.stop _ (hC _), ?_⟩
    rw [List.take_length] at hys
    rw [hys]; exact q
theorem AB {K : PySem.W.Frag} {C : Hp -> Prop} {a : Addr} {vs : List V} (h : ∀ H, C H -> SqL K H a vs) : Co C (Itl K a) vs :=
  ⟨fun i H c hi => ⟨vs, vs[i], h H c, List.getElem?_eq_getElem hi⟩, fun i H x H' c _ y => ⟨y.1, y.2 vs (h H c)⟩, fun H c => ⟨vs, h H c, Nat.le_refl _⟩⟩
end
end L2
set_option Elab.async false
set_option linter.all false
set_option maxRecDepth 100000
namespace L2
open PySem PySem.Spec PyProof.Rows
section
variable {X : Cx} {K : PySem.W.Frag} {pos : Pos}
theorem kl (K : PySem.W.Frag) {es : List Expr} {k : Nat} {t : TGs} {n : Nat} (hc : X.calm = true) (h : PGs X es t) (hK : X.K = K := by rfl)
    (hn : (assignEach es X.env).length = n := by rfl) (hst : (assignEach es X.env).findIdx? (·.1) = none := by rfl) : PG X (.Tuple es k pos) (Dq K n t) := by
  subst hK; exact CS hc h hn hst
end
section
variable {X : Cx} {T name id : String} {r : V -> List V -> Hp -> VK -> Prop} {o e : Expr} {es : List Expr} {to : TE} {t : TA} {apos cpos : Pos}
theorem fN (K : PySem.W.Frag) (pa : PlainAttrs T) (slot : Slot T name id) (hty : typeOf (.builtin id) = pure (.type "method_descriptor")) (hm : MtR X id r) (ho : PE X o to) (ha : PA X (e :: es) t) (hK : X.K = K := by rfl)
    (hbase : attributeBase o name X.env (eval o X.env) = eval o X.env := by rfl)
    (hfew : ((backTo cpos (starEach (e :: es) X.env)).all (fun x => !x.1) && (backToKw cpos (keywordEach [] X.env)).all (fun x => x.1.isSome)
      && decide ((e :: es).length + ([] : List Keyword).length + (if ([] : List Keyword).isEmpty then 0 else 1) < 30)) = true := by rfl)
    (hline : (apos.endLine == cpos.line) = true := by rfl) (hs : starEach (e :: es) X.env = (false, eval e X.env) :: starEach es X.env := by rfl) (hplain : (backTo cpos (starEach es X.env)).any (·.1) = false := by rfl) :
    PE X (.Call (.Attribute o name apos) (e :: es) [] cpos) (tBM K T r to t) := by
  subst hK; exact E5 pa slot hty hm ho ha hbase hfew hline hs hplain
end
section
variable {K : PySem.W.Frag} {tl : TE} {ks : List Nat} {σ : St} {H : Hp} {Q : VK} {tt : TT} {te : TE}
end
end L2
set_option Elab.async false
set_option linter.all false
set_option maxRecDepth 100000
namespace L2
end L2
set_option Elab.async false
set_option linter.all false
set_option maxRecDepth 100000
namespace L2
open PySem PySem.Spec PyProof.Rows Builtin Builtin.Str
def spN (c : Nat) : List Nat -> List (List Nat)
  | [] => [[]]
  | a :: r => if a = c then [] :: spN c r else match spN c r with
    | h :: t => (a :: h) :: t
    | [] => [[a]]
theorem jX (c : Nat) : ∀ l, spN c l ≠ []
  | [] => by simp [spN]
  | a :: r => by
    unfold spN
    split
    . simp
    . split <;> simp
theorem lJ (c : Nat) : ∀ l : List Nat, c ∉ l -> spN c l = [l]
  | [], _ => rfl
  | a :: r, h => by
    have h1 : ¬ a = c := fun z => h (by rw [z]; simp)
    have h2 : c ∉ r := fun z => h (List.mem_cons_of_mem _ z)
    unfold spN
    rw [if_neg h1, lJ c r h2]
theorem xg (c : Nat) : ∀ (l r : List Nat), c ∉ l -> spN c (l ++ c :: r) = l :: spN c r
  | [], r, _ => by simp [spN]
  | a :: l, r, h => by
    have h1 : ¬ a = c := fun z => h (by rw [z]; simp)
    have h2 : c ∉ l := fun z => h (List.mem_cons_of_mem _ z)
    rw [List.cons_append]
    show (if a = c then _ else _) = _
    rw [if_neg h1, xg c l r h2]
theorem oX (c : Nat) : ∀ ps : List (List Nat), ps ≠ [] -> (∀ p ∈ ps, c ∉ p) -> spN c (cZ [c] ps) = ps
  | [], h, _ => absurd rfl h
  | [p], _, h => lJ c p (h p (by simp))
  | p :: q :: r, _, h => by
    rw [cZ, List.append_assoc, List.singleton_append, xg c p _ (h p (by simp)), oX c (q :: r) (by simp) fun x hx => h x (List.mem_cons_of_mem _ hx)]
theorem pp (c : Nat) : ∀ l : List Nat, cZ [c] (spN c l) = l
  | [] => rfl
  | a :: r => by
    have ih := pp c r
    unfold spN
    split
    . rename_i e
      cases es : spN c r with
      | nil => exact absurd es (jX c r)
      | cons h t => rw [es] at ih; rw [cZ, ih, e]; rfl
    . cases es : spN c r with
      | nil => exact absurd es (jX c r)
      | cons h t =>
        rw [es] at ih
        cases t with
        | nil => simp [cZ] at ih ⊢; exact ih
        | cons h2 t => rw [cZ] at ih ⊢; rw [<- ih]; simp
theorem jh (c : Nat) : ∀ (l : List Nat), ∀ p ∈ spN c l, c ∉ p
  | [], p, hp => by simp [spN] at hp; rw [hp]; simp
  | a :: r, p, hp => by
    unfold spN at hp
    split at hp
    . rcases List.mem_cons.mp hp with h | h
      . rw [h]; simp
      . exact jh c r p h
    . rename_i hne
      split at hp
      . rename_i h t es
        rcases List.mem_cons.mp hp with e | e
        . rw [e]
          have := jh c r h (by rw [es]; simp)
          simp only [List.mem_cons, not_or]
          exact ⟨fun z => hne z.symm, this⟩
        . exact jh c r p (by rw [es]; exact List.mem_cons_of_mem _ e)
      . rename_i es; exact absurd es (jX c r)
theorem nK (c : Nat) : ∀ l : List Nat, (spN c l).length <= l.length + 1
  | [] => by simp [spN]
  | a :: r => by
    have ih := nK c r
    unfold spN
    split
    . simp; omega
    . split
      . rename_i es; rw [es] at ih; simp at ih ⊢; omega
      . simp
theorem lq (c : Nat) : ∀ l : List Nat, ∀ p ∈ spN c l, p.length <= l.length /\ ∀ d ∈ p, d ∈ l
  | [], p, hp => by simp [spN] at hp; rw [hp]; simp
  | a :: r, p, hp => by
    unfold spN at hp
    split at hp
    . rcases List.mem_cons.mp hp with h | h
      . rw [h]; simp
      . obtain ⟨h1, h2⟩ := lq c r p h
        exact ⟨by rw [List.length_cons]; omega, fun d hd => List.mem_cons_of_mem _ (h2 d hd)⟩
    . split at hp
      . rename_i h t es
        rcases List.mem_cons.mp hp with e | e
        . obtain ⟨h1, h2⟩ := lq c r h (by rw [es]; simp)
          rw [e]
          refine ⟨by rw [List.length_cons, List.length_cons]; omega, fun d hd => ?_⟩
          rcases List.mem_cons.mp hd with z | z
          . rw [z]; simp
          . exact List.mem_cons_of_mem _ (h2 d z)
        . obtain ⟨h1, h2⟩ := lq c r p (by rw [es]; exact List.mem_cons_of_mem _ e)
          exact ⟨by rw [List.length_cons]; omega, fun d hd => List.mem_cons_of_mem _ (h2 d hd)⟩
      . rename_i es; exact absurd es (jX c r)
theorem Ax (x y : Str) : Txt.split x y ≠ [] := by
  unfold Txt.split
  split
  . simp
  . split
    . simp
    . rw [StrLaws.partsBetween_eq]
      obtain ⟨p, r, e⟩ := StrLaws.partsFrom_ne x y.length 0 (occurrences x y 0 x.length (x.length + 1))
      rw [e]; simp
theorem zB (l : List Nat) (c : Nat) : (Txt.split ⟨⟨l⟩⟩ ⟨#[c]⟩).map (fun x => cs x) = spN c l := by
  have h1 := StrLaws.join_split ⟨⟨l⟩⟩ ⟨#[c]⟩
  have h2 := StrLaws.split_free ⟨⟨l⟩⟩ c
  have h0 := Ax ⟨⟨l⟩⟩ ⟨#[c]⟩
  generalize Txt.split ⟨⟨l⟩⟩ ⟨#[c]⟩ = ps at h0 h1 h2
  have hj : cZ [c] (ps.map fun x => cs x) = l := by
    have e : ps = (ps.map fun x => cs x).map S := by rw [List.map_map]; conv => lhs; rw [<- List.map_id ps]
                                                     apply List.map_congr_left; intro x _; rfl
    rw [e] at h1
    have h3 : Str.join (S [c]) ((ps.map fun x => cs x).map S) = S (cZ [c] (ps.map fun x => cs x)) := by
      have := wF [c] (ps.map fun x => cs x)
      exact (StrLaws.glued_eq_join _ _).symm.trans this
    have h4 : S (cZ [c] (ps.map fun x => cs x)) = ⟨⟨l⟩⟩ := h3.symm.trans h1
    have h5 := congrArg cs h4
    exact h5
  have hne : (ps.map fun x => cs x) ≠ [] := by
    intro z
    exact h0 (List.map_eq_nil_iff.mp z)
  rw [<- hj, oX c _ hne]
  intro p hp
  obtain ⟨x, hx, rfl⟩ := List.mem_map.mp hp
  exact h2 x hx
section
variable {X : Cx} {e a b c : Expr} {pos : Pos}
def DM : V -> List V -> Hp -> VK -> Prop
  | .str x, [.str y], H, Q => (∃ c, cs y = [c] /\ (cs x).length + 2 <= sizeLine /\ ∀ p, H p = none -> Q (.ref p) (upd H p (.lst ((spN c (cs x)).map T))))
  | _, _, _, _ => False
theorem qk : ∀ (l : List (Str × Tok)), Vals (l.map fun p => V.str p.1) (strValues l)
  | [] => .nil
  | p :: r => .cons ⟨p.2, rfl⟩ (qk r)
theorem oO : MtR X "str.split" DM := by
  intro pins s σ H x xs v us Q I rx rs h
  unfold DM at h
  split at h
  . rename_i x y
    obtain ⟨c, hc, hz, q⟩ := h
    obtain ⟨t, rfl⟩ := rx
    obtain ⟨u, rfl, t', rfl⟩ := eU rs
    have hy := zj hc
    subst hy
    obtain ⟨⟨l⟩⟩ := x
    have hx : (⟨⟨l⟩⟩ : Str).length + 2 <= sizeLine := hz
    have fin : ∀ (l' : List (Str × Tok)) (k : Nat), l'.map (·.1) = Txt.split ⟨⟨l⟩⟩ ⟨#[c]⟩ -> EP X pins σ Q (.ref s.heap.objs.size) { s with toks := k, heap := s.heap.push { cls := .type "list", data := .seq (strValues l').toArray } } := fun l' k hl => by
      have e : (spN c l).map T = l'.map fun p => V.str p.1 := by
        rw [<- zB, <- hl, List.map_map, List.map_map]
        apply List.map_congr_left
        intro p _; rfl
      have hlen : ((spN c l).map T).length <= sizeLine := by
        rw [List.length_map]
        have := nK c l
        have hz' : l.length + 2 <= sizeLine := hz
        omega
      have hv : Vals ((spN c l).map T) (strValues l') := by rw [e]; exact qk l'
      exact ⟨.ref s.heap.objs.size, _, I.lnew (t' := k) hv hlen, rfl, q _ I.fresh⟩
    have hn : (partsBetween ⟨⟨l⟩⟩ (occurrences ⟨⟨l⟩⟩ ⟨#[c]⟩ 0 (⟨⟨l⟩⟩ : Str).length ((⟨⟨l⟩⟩ : Str).length + 1)) (⟨#[c]⟩ : Str).length).length <= sizeLine := by
      have e1 := StrLaws.occ_length_le ⟨⟨l⟩⟩ ⟨#[c]⟩ 0 (⟨⟨l⟩⟩ : Str).length ((⟨⟨l⟩⟩ : Str).length + 1)
      rw [length_partsBetween]; omega
    have hy : ((⟨#[c]⟩ : Str).length == 0) = false := rfl
    cases h1 : (decide ((⟨⟨l⟩⟩ : Str).length < (⟨#[c]⟩ : Str).length) || decide (strKind ⟨⟨l⟩⟩ < strKind ⟨#[c]⟩))
    . cases hf : (occurrences ⟨⟨l⟩⟩ ⟨#[c]⟩ 0 (⟨⟨l⟩⟩ : Str).length ((⟨⟨l⟩⟩ : Str).length + 1)).isEmpty
      . refine call_meets F.slot_str_split (typeIs_str _ _ _) F.entry_str_split (F.args_str_split_2 _ _) (meets_str_split_sep ⟨⟨l⟩⟩ ⟨#[c]⟩ t t' h1 hy hf (by omega) hn) ?_
        show wants _ _ _ { s with toks := _, heap := s.heap.push { cls := .type "list", data := .seq (strsFrom s.toks (partsBetween ⟨⟨l⟩⟩ (occurrences ⟨⟨l⟩⟩ ⟨#[c]⟩ 0 (⟨⟨l⟩⟩ : Str).length ((⟨⟨l⟩⟩ : Str).length + 1)) (⟨#[c]⟩ : Str).length)).toArray } }
        rw [strsFrom_eq]
        exact fin (numbered s.toks _) _ ((numbered_texts _ _).trans ((if_neg (ne_true_of_eq_false h1)).trans (if_neg (ne_true_of_eq_false hf))).symm)
      . refine call_meets F.slot_str_split (typeIs_str _ _ _) F.entry_str_split (F.args_str_split_2 _ _) (meets_str_split_not_found ⟨⟨l⟩⟩ ⟨#[c]⟩ t t' h1 hy hf) ?_
        exact fin [(⟨⟨l⟩⟩, t)] s.toks ((if_neg (ne_true_of_eq_false h1)).trans (if_pos hf)).symm
    . refine call_meets F.slot_str_split (typeIs_str _ _ _) F.entry_str_split (F.args_str_split_2 _ _) (meets_str_split_cannot_occur ⟨⟨l⟩⟩ ⟨#[c]⟩ t t' h1) ?_
      exact fin [(⟨⟨l⟩⟩, t)] s.toks (if_pos h1).symm
  . exact h.elim
def Eg : R2
  | .ref l, .ref b, H, Q => ∃ xs zs, H l = some (.lst xs) /\ H b = some (.lst zs) /\ xs.length + zs.length <= sizeLine /\ ∀ p, H p = none -> Q (.ref p) (upd H p (.lst (xs ++ zs)))
  | _, _, _, _ => False
theorem zx : OpR X (binaryOp .Add) Eg := DK.imp fun x y H Q h => by
  unfold Eg at h; split at h
  . obtain ⟨xs, zs, h1, h2, h3, q⟩ := h
    exact ⟨_, _, xs, zs, rfl, rfl, h1, h2, h3, q⟩
  . exact h.elim
theorem n4 (K : PySem.W.Frag) (h : X.K = K := by rfl) : SlR X (Ef K) := h ▸ A5
def Ad (K : PySem.W.Frag) : List V -> Hp -> VK -> Prop
  | [.ref p], H, Q => ∃ ys, (SqL K H p ys \/ SqT K H p ys) /\ ∀ l, H l = none -> Q (.ref l) (upd H l (.lst ys))
  | _, _, _ => False
theorem xM (K : PySem.W.Frag) (hK : X.K = K := by rfl) : CallR X (.type "list") (Ad K) := by
  subst hK
  refine sq.imp fun xs H Q h => ?_
  unfold Ad at h; split at h
  . obtain ⟨ys, h1, q⟩ := h
    exact ⟨_, ys, rfl, h1, q⟩
  . exact h.elim
def vN (K : PySem.W.Frag) : List V -> Hp -> VK -> Prop
  | [.ref p], H, Q => ∃ ys, (SqL K H p ys /\ ∀ l, H l = none -> Q (.ref l) (upd H l (.tup ys))) \/ (SqT K H p ys /\ Q (.ref p) H)
  | _, _, _ => False
theorem tK (K : PySem.W.Frag) (hK : X.K = K := by rfl) : CallR X (.type "tuple") (vN K) := by
  subst hK
  refine pV.imp fun xs H Q h => ?_
  unfold vN at h; split at h
  . obtain ⟨ys, h1⟩ := h
    exact ⟨_, ys, rfl, h1⟩
  . exact h.elim
inductive EqH (K : PySem.W.Frag) (H : Hp) : Nat -> V -> V -> Bool -> Prop
  | flat {n x y} : eF x = true -> eF y = true -> EqH K H n x y (eqV x y)
  | same {n p} : EqH K H n (.ref p) (.ref p) true
  | lst {n p q xs ys} {e : Nat -> Bool} : p ≠ q -> SqL K H p xs -> SqL K H q ys -> xs.length = ys.length -> (∀ j x y, xs[j]? = some x -> ys[j]? = some y -> EqH K H n x y (e j)) -> EqH K H (n + 1) (.ref p) (.ref q) ((List.range xs.length).all e)
  | len {n p q xs ys} : p ≠ q -> SqL K H p xs -> SqL K H q ys -> xs.length ≠ ys.length -> EqH K H (n + 1) (.ref p) (.ref q) false
  | tup {n p q xs ys} {e : Nat -> Bool} : p ≠ q -> SqT K H p xs -> SqT K H q ys -> (∀ j x y, xs[j]? = some x -> ys[j]? = some y -> EqH K H n x y (e j)) -> EqH K H (n + 1) (.ref p) (.ref q) ((List.range (min xs.length ys.length)).all e && xs.length == ys.length)
  | lt {n p q xs ys} : SqL K H p xs -> SqT K H q ys -> EqH K H (n + 1) (.ref p) (.ref q) false
  | tl {n p q xs ys} : SqT K H p xs -> SqL K H q ys -> EqH K H (n + 1) (.ref p) (.ref q) false
theorem gK {P : Value -> Value -> Bool -> Prop} {xs ys : List V} {its its' : List Value} {e : Nat -> Bool} (r : Vals xs its) (r' : Vals ys its') (h : ∀ j x y u v, xs[j]? = some x -> ys[j]? = some y -> RelV x u -> RelV y v -> P u v (e j)) :
    ∀ j (h1 : j < its.toArray.size) (h2 : j < its'.toArray.size), P its.toArray[j] its'.toArray[j] (e j) := fun j g1 g2 => by
  have h1 : xs.length = its.length := r.length
  have h2 : ys.length = its'.length := r'.length
  have g1' : j < its.length := by simpa using g1
  have g2' : j < its'.length := by simpa using g2
  have l1 : j < xs.length := by omega
  have l2 : j < ys.length := by omega
  obtain ⟨w1, e1, r1⟩ := r.get (List.getElem?_eq_getElem l1)
  obtain ⟨w2, e2, r2⟩ := r'.get (List.getElem?_eq_getElem l2)
  have z1 : its.toArray[j] = w1 := by
    have : its[j]? = some its[j] := List.getElem?_eq_getElem g1'
    rw [this] at e1; simpa using Option.some.inj e1
  have z2 : its'.toArray[j] = w2 := by
    have : its'[j]? = some its'[j] := List.getElem?_eq_getElem g2'
    rw [this] at e2; simpa using Option.some.inj e2
  rw [z1, z2]
  exact h j _ _ _ _ (List.getElem?_eq_getElem l1) (List.getElem?_eq_getElem l2) r1 r2
theorem EqH.at {K : PySem.W.Frag} {H : Hp} {n : Nat} {x y : V} {b : Bool} (h : EqH K H n x y b) : ∀ {X : Cx} {pins : List (Addr × Obj)} {σ : St} {s : Shared} {A : Around} {u v : Value}, X.K = K -> Inv X pins σ H s -> A.units + n < cLine -> RelV x u -> RelV y v -> SeqAt.EqAt A s u v b := by
  induction h with
  | flat fx fy =>
    intro X pins σ s A u v hK I hu rx ry
    exact vp rx ry fx fy
  | same =>
    intro X pins σ s A u v hK I hu rx ry
    cases rx; cases ry
    exact SeqAt.EqAt.same _
  | @lst n p q xs ys e hpq hx hy hl _ ih =>
    intro X pins σ s A u v hK I hu rx ry
    cases rx; cases ry
    subst hK
    obtain ⟨its, r, pl, hz⟩ := I.list hx
    obtain ⟨its', r', pl', hz'⟩ := I.list hy
    have h1 : xs.length = its.length := r.length
    have h2 : ys.length = its'.length := r'.length
    have := SeqAt.RcAt.lists (A := A) (e := e) pl.isList pl'.isList (by simp; omega) (by omega) (gK r r' fun j x y u v g1 g2 r1 r2 => ih j x y g1 g2 rfl I (by show A.units + 1 + n < cLine; omega) r1 r2)
    rw [List.size_toArray, <- h1] at this
    exact .of_refs hpq this
  | @len n p q xs ys hpq hx hy hl =>
    intro X pins σ s A u v hK I hu rx ry
    cases rx; cases ry
    subst hK
    obtain ⟨its, r, pl, hz⟩ := I.list hx
    obtain ⟨its', r', pl', hz'⟩ := I.list hy
    have h1 : xs.length = its.length := r.length
    have h2 : ys.length = its'.length := r'.length
    exact .of_refs hpq (SeqAt.RcAt.lists_lengths pl.isList pl'.isList (by simp; omega) (by omega))
  | @tup n p q xs ys e hpq hx hy _ ih =>
    intro X pins σ s A u v hK I hu rx ry
    cases rx; cases ry
    subst hK
    obtain ⟨its, r, pl, hz⟩ := I.tuple hx
    obtain ⟨its', r', pl', hz'⟩ := I.tuple hy
    have h1 : xs.length = its.length := r.length
    have h2 : ys.length = its'.length := r'.length
    have := SeqAt.RcAt.tuples (A := A) (e := e) pl pl' (by omega) (gK r r' fun j x y u v g1 g2 r1 r2 => ih j x y g1 g2 rfl I (by show A.units + 1 + n < cLine; omega) r1 r2)
    rw [List.size_toArray, List.size_toArray, <- h1, <- h2] at this
    exact .of_refs hpq this
  | lt hx hy =>
    intro X pins σ s A u v hK I hu rx ry
    cases rx; cases ry
    subst hK
    obtain ⟨its, r, pl, hz⟩ := I.list hx
    obtain ⟨its', r', pl', hz'⟩ := I.tuple hy
    exact SeqAt.EqAt.list_tuple pl.isList pl' (by omega)
  | tl hx hy =>
    intro X pins σ s A u v hK I hu rx ry
    cases rx; cases ry
    subst hK
    obtain ⟨its, r, pl, hz⟩ := I.tuple hx
    obtain ⟨its', r', pl', hz'⟩ := I.list hy
    exact SeqAt.EqAt.tuple_list pl pl'.isList (by omega)
inductive EqR (K : PySem.W.Frag) (H : Hp) (p q : Addr) : Bool -> Prop
  | lst {xs ys} {e : Nat -> Bool} : SqL K H p xs -> SqL K H q ys -> xs.length = ys.length -> (∀ j x y, xs[j]? = some x -> ys[j]? = some y -> EqH K H 50 x y (e j)) -> EqR K H p q ((List.range xs.length).all e)
  | len {xs ys} : SqL K H p xs -> SqL K H q ys -> xs.length ≠ ys.length -> EqR K H p q false
  | tup {xs ys} {e : Nat -> Bool} : SqT K H p xs -> SqT K H q ys -> (∀ j x y, xs[j]? = some x -> ys[j]? = some y -> EqH K H 50 x y (e j)) -> EqR K H p q ((List.range (min xs.length ys.length)).all e && xs.length == ys.length)
def AL (K : PySem.W.Frag) (neg : Bool) : R2
  | .ref p, .ref q, H, Q => ∃ b, EqR K H p q b /\ Q (.bl (neg ^^ b)) H
  | _, _, _, _ => False
theorem CY (K : PySem.W.Frag) (hu : X.A.units + 100 < cLine) (hK : X.K = K := by rfl) : OpR X (compareOp .Eq) (AL K false) := by
  subst hK
  intro pins s σ H x y v u Q I rx ry h
  unfold AL at h
  split at h
  . rename_i p q
    obtain ⟨b, hb, q⟩ := h
    cases rx; cases ry
    cases hb with
    | @lst xs ys e hx hy hl he =>
      obtain ⟨its, r, pl, hz⟩ := I.list hx
      obtain ⟨its', r', pl', hz'⟩ := I.list hy
      have h1 : xs.length = its.length := r.length
      have h2 : ys.length = its'.length := r'.length
      refine SeqAt.eq_listAt (e := e) pl.isList pl'.isList (by simp; omega) (by omega) (gK r r' fun j x y u v g1 g2 r1 r2 => (he j x y g1 g2).at rfl I (by show X.A.units + 1 + 50 < cLine; omega) r1 r2) ⟨.bl _, H, I, rfl, ?_⟩
      rw [List.size_toArray, <- h1]; simpa using q
    | @len xs ys hx hy hl =>
      obtain ⟨its, r, pl, hz⟩ := I.list hx
      obtain ⟨its', r', pl', hz'⟩ := I.list hy
      have h1 : xs.length = its.length := r.length
      have h2 : ys.length = its'.length := r'.length
      exact SeqAt.eq_list_lengthsAt pl.isList pl'.isList (by simp; omega) (by omega) ⟨.bl false, H, I, rfl, by simpa using q⟩
    | @tup xs ys e hx hy he =>
      obtain ⟨its, r, pl, hz⟩ := I.tuple hx
      obtain ⟨its', r', pl', hz'⟩ := I.tuple hy
      have h1 : xs.length = its.length := r.length
      have h2 : ys.length = its'.length := r'.length
      refine SeqAt.eq_tupleAt (e := e) pl pl' (by omega) (gK r r' fun j x y u v g1 g2 r1 r2 => (he j x y g1 g2).at rfl I (by show X.A.units + 1 + 50 < cLine; omega) r1 r2) ⟨.bl _, H, I, rfl, ?_⟩
      rw [List.size_toArray, List.size_toArray, <- h1, <- h2]; simpa using q
  . exact h.elim
theorem CL (K : PySem.W.Frag) (hu : X.A.units + 100 < cLine) (hK : X.K = K := by rfl) : OpR X (compareOp .NotEq) (AL K true) := by
  subst hK
  intro pins s σ H x y v u Q I rx ry h
  unfold AL at h
  split at h
  . rename_i p q
    obtain ⟨b, hb, q⟩ := h
    cases rx; cases ry
    cases hb with
    | @lst xs ys e hx hy hl he =>
      obtain ⟨its, r, pl, hz⟩ := I.list hx
      obtain ⟨its', r', pl', hz'⟩ := I.list hy
      have h1 : xs.length = its.length := r.length
      have h2 : ys.length = its'.length := r'.length
      refine SeqAt.RcNeAt.lists (e := e) pl.isList pl'.isList (by simp; omega) (by omega) (gK r r' fun j x y u v g1 g2 r1 r2 => (he j x y g1 g2).at rfl I (by show X.A.units + 1 + 50 < cLine; omega) r1 r2) X.prog X.w X.xe _ ⟨.bl _, H, I, rfl, ?_⟩
      rw [List.size_toArray, <- h1]; simpa using q
    | @len xs ys hx hy hl =>
      obtain ⟨its, r, pl, hz⟩ := I.list hx
      obtain ⟨its', r', pl', hz'⟩ := I.list hy
      have h1 : xs.length = its.length := r.length
      have h2 : ys.length = its'.length := r'.length
      exact SeqAt.RcNeAt.lists_lengths pl.isList pl'.isList (by simp; omega) (by omega) X.prog X.w X.xe _ ⟨.bl true, H, I, rfl, by simpa using q⟩
    | @tup xs ys e hx hy he =>
      obtain ⟨its, r, pl, hz⟩ := I.tuple hx
      obtain ⟨its', r', pl', hz'⟩ := I.tuple hy
      have h1 : xs.length = its.length := r.length
      have h2 : ys.length = its'.length := r'.length
      refine SeqAt.RcNeAt.tuples (e := e) pl pl' (by omega) (gK r r' fun j x y u v g1 g2 r1 r2 => (he j x y g1 g2).at rfl I (by show X.A.units + 1 + 50 < cLine; omega) r1 r2) X.prog X.w X.xe _ ⟨.bl _, H, I, rfl, ?_⟩
      rw [List.size_toArray, List.size_toArray, <- h1, <- h2]; simpa using q
  . exact h.elim
end
end L2
set_option Elab.async false
set_option linter.all false
set_option maxRecDepth 100000
namespace PySem
open Sem (wp)
open Builtin
end PySem
namespace L2
open PySem PySem.Spec PyProof.Rows Builtin Builtin.Str
section
variable {X : Cx} {e a b c : Expr} {pos : Pos}
def lS (K : PySem.W.Frag) (neg : Bool) : R2 := fun x y H Q => match eqS x y with
  | some k => Q (.bl (neg ^^ k)) H
  | none => AL K neg x y H Q
theorem jK (K : PySem.W.Frag) (hu : X.A.units + 100 < cLine) (hK : X.K = K := by rfl) : OpR X (compareOp .Eq) (lS K false) := ((DQ (by omega)).or (CY K hu hK)).imp fun x y H Q h => by
  unfold lS at h
  split at h
  . rename_i k hk
    obtain ⟨h1, h2⟩ := tN hk
    exact .inl (.inl ⟨h1, by rw [h2]; simpa using h⟩)
  . exact .inr h
theorem hZ (K : PySem.W.Frag) (hu : X.A.units + 100 < cLine) (hK : X.K = K := by rfl) : OpR X (compareOp .NotEq) (lS K true) := ((Di (by omega)).or (CL K hu hK)).imp fun x y H Q h => by
  unfold lS at h
  split at h
  . rename_i k hk
    obtain ⟨h1, h2⟩ := tN hk
    exact .inl (.inl ⟨h1, by rw [h2]; simpa using h⟩)
  . exact .inr h
variable {K : PySem.W.Frag} {neg : Bool} {H : Hp} {Q : VK}
theorem wU {i j : Int} : lS K neg (.int i) (.int j) H Q = Q (.bl (neg ^^ decide (i = j))) H := rfl
theorem zC {i j : Bool} : lS K neg (.bl i) (.bl j) H Q = Q (.bl (neg ^^ decide (i = j))) H := rfl
theorem xB {i j : Str} : lS K neg (.str i) (.str j) H Q = Q (.bl (neg ^^ decide (i.cps.toList = j.cps.toList))) H := rfl
theorem wR {p q : Addr} : lS K neg (.ref p) (.ref q) H Q = ∃ b, EqR K H p q b /\ Q (.bl (neg ^^ b)) H := rfl
theorem zP : lS K neg .non .non H Q = Q (.bl (neg ^^ true)) H := rfl
theorem yY {i : Int} : lS K neg .non (.int i) H Q = Q (.bl (neg ^^ false)) H := rfl
theorem AA {i : Int} : lS K neg (.int i) .non H Q = Q (.bl (neg ^^ false)) H := rfl
theorem yL {i : Int} {s : Str} : lS K neg (.int i) (.str s) H Q = Q (.bl (neg ^^ false)) H := rfl
theorem zI {i : Int} {s : Str} : lS K neg (.str s) (.int i) H Q = Q (.bl (neg ^^ false)) H := rfl
end
theorem zu {K : PySem.W.Frag} {tl : TE} {g : TG} {tb : TS} {D : fq} {σ : St} {H : Hp} (h : tl σ H fun v H1 => rm (AR K (tC v)) g tb D σ H1) : rm (AR K tl) g tb D σ H := h
theorem iL {K : PySem.W.Frag} {tl : TE} {g : TG} {tb : TS} {D : fq} {σ : St} {H : Hp} (h : tl σ H fun v H1 => rm (oJ K (tC v)) g tb D σ H1) : rm (oJ K tl) g tb D σ H := h
theorem AO {K : PySem.W.Frag} {a : Addr} {xs : List V} {g : TG} {tb : TS} {D : fq} {σ : St} {H : Hp} (hq : SqT K H a xs) (h : ∃ W : Nat -> Nat -> St -> Hp -> Prop, (∃ m, W 0 m σ H) /\ ∀ i m σ H, W i m σ H ->
      ((Itt K a).stop i H /\ D.nx σ H) \/ ((Itt K a).go i H /\ ∃ N : St -> Hp -> Prop, (∀ σ' H', N σ' H' -> ∃ m', m' < m /\ W (i + 1) m' σ' H') /\ ∀ x H', (Itt K a).yld i H x H' -> g x σ H' fun σ2 H2 => tb { D with nx := N, ct := N, bk := D.nx } σ2 H2)) : rm (AR K (tC (.ref a))) g tb D σ H := ⟨a, rfl, ⟨xs, hq⟩, h⟩
theorem iV {K : PySem.W.Frag} {a : Addr} {xs : List V} {g : TG} {tb : TS} {D : fq} {σ : St} {H : Hp} (hq : SqL K H a xs) (h : ∃ W : Nat -> Nat -> St -> Hp -> Prop, (∃ m, W 0 m σ H) /\ ∀ i m σ H, W i m σ H ->
      ((Itl K a).stop i H /\ D.nx σ H) \/ ((Itl K a).go i H /\ ∃ N : St -> Hp -> Prop, (∀ σ' H', N σ' H' -> ∃ m', m' < m /\ W (i + 1) m' σ' H') /\ ∀ x H', (Itl K a).yld i H x H' -> g x σ H' fun σ2 H2 => tb { D with nx := N, ct := N, bk := D.nx } σ2 H2)) : rm (oJ K (tC (.ref a))) g tb D σ H := ⟨a, rfl, ⟨xs, hq⟩, h⟩
theorem qG {ls : List (List Nat)} {H H1 : Hp} {Q : VK} {i : Int} (h0 : 0 <= i) (h1 : i < ls.length) (q : ∀ l ∈ ls, Q (T l) H) : ko (ls.map T) H H1 Q (.int i) := by
  obtain ⟨j, rfl⟩ : ∃ j : Nat, i = j := ⟨i.toNat, by omega⟩
  have hj : j < ls.length := by omega
  have e : atI (ls.map T) (j : Int) = some (T ls[j]) := aD (by simp [hj])
  simp only [ko, e]
  exact q _ (List.getElem_mem hj)
theorem yh (lo : Int) (n : Nat) : DD (Itr lo n) ((List.range n).map fun k => V.int (lo + (k : Nat))) := by
  refine ⟨fun i H h => by simpa [Itr] using h, fun i H x H' hi y => ?_, fun H => by simp [Itr]⟩
  obtain ⟨e, rfl⟩ := y
  refine ⟨e, ?_⟩
  have hi' : i < n := by simpa using hi
  simp [hi']
end L2
namespace L2
theorem bf {k : Nat} {A : PySem.Around} (r : Room k A) : A.units + 100 < PySem.cLine := by have := r.un; omega
end L2
set_option Elab.async false
set_option linter.all false
set_option maxRecDepth 100000
namespace L2
open PySem PySem.Spec PyProof.Rows
section
variable {κ : Type} [DecidableEq κ]
def eg (kvs : List (κ × V)) (k : κ) : Option V := (kvs.find? fun kv => decide (kv.1 = k)).map (·.2)
def fU (kvs : List (κ × V)) (k : κ) (v : V) : List (κ × V) :=
  if (kvs.any fun kv => decide (kv.1 = k)) = true then kvs.map (fun kv => if kv.1 = k then (kv.1, v) else kv) else kvs ++ [(k, v)]
def FU (kvs : List (κ × V)) (k : κ) : List (κ × V) := kvs.filter fun kv => decide (kv.1 ≠ k)
theorem b9 {p : κ × V} {r : List (κ × V)} {k : κ} (e : p.1 = k) : eg (p :: r) k = some p.2 := by simp [eg, List.find?_cons, e]
theorem bY {p : κ × V} {r : List (κ × V)} {k : κ} (e : ¬ p.1 = k) : eg (p :: r) k = eg r k := by simp [eg, List.find?_cons, e]
theorem jb (k : κ) : ∀ kvs : List (κ × V), (kvs.any fun kv => decide (kv.1 = k)) = (eg kvs k).isSome
  | [] => rfl
  | p :: r => by
    rw [List.any_cons]
    by_cases e : p.1 = k
    . simp only [b9 e, decide_eq_true e, Bool.true_or, Option.isSome_some]
    . rw [bY e, decide_eq_false e, Bool.false_or]; exact jb k r
theorem vf (k j : κ) (y : V) : ∀ kvs : List (κ × V), eg (kvs.map fun kv => if kv.1 = k then (kv.1, y) else kv) j = (eg kvs j).map fun x => if j = k then y else x
  | [] => rfl
  | p :: r => by
    have ih := vf k j y r
    rw [List.map_cons]
    by_cases h : p.1 = k
    . rw [if_pos h]
      by_cases e : p.1 = j
      . rw [b9 (p := (p.1, y)) e, b9 e, Option.map_some, if_pos (e.symm.trans h)]
      . rw [bY (p := (p.1, y)) e, bY e, ih]
    . rw [if_neg h]
      by_cases e : p.1 = j
      . rw [b9 (p := p) e, b9 e, Option.map_some, if_neg (fun z => h (e.trans z))]
      . rw [bY (p := p) e, bY e, ih]
theorem qE (k j : κ) (y : V) : ∀ kvs : List (κ × V), eg kvs k = none -> eg (kvs ++ [(k, y)]) j = if j = k then some y else eg kvs j
  | [], _ => by
    by_cases e : k = j
    . rw [if_pos e.symm]; exact b9 (p := (k, y)) e
    . rw [if_neg (fun z => e z.symm)]; exact bY (p := (k, y)) e
  | p :: r, hn => by
    rw [List.cons_append]
    have hk : ¬ p.1 = k := fun z => by rw [b9 z] at hn; cases hn
    rw [bY hk] at hn
    have ih := qE k j y r hn
    by_cases e : p.1 = j
    . rw [b9 e, b9 e, if_neg (fun z => hk (e.trans z))]
    . rw [bY e, bY e, ih]
theorem zQ (kvs : List (κ × V)) (k j : κ) (y : V) : eg (fU kvs k y) j = if j = k then some y else eg kvs j := by
  unfold fU
  by_cases a : (kvs.any fun kv => decide (kv.1 = k)) = true
  . rw [if_pos a, vf]
    rw [jb] at a
    by_cases e : j = k
    . obtain ⟨x, hx⟩ := Option.isSome_iff_exists.mp a
      rw [if_pos e, e, hx, Option.map_some, if_pos rfl]
    . rw [if_neg e]
      cases eg kvs j with
      | none => rfl
      | some x => rw [Option.map_some, if_neg e]
  . rw [if_neg a]
    refine qE k j y kvs ?_
    rw [jb] at a
    cases q : eg kvs k with
    | none => rfl
    | some x => rw [q] at a; exact (a rfl).elim
theorem m_ (kvs : List (κ × V)) (k : κ) (v : V) : (fU kvs k v).length <= kvs.length + 1 := by
  unfold fU
  split
  . rw [List.length_map]; omega
  . rw [List.length_append, List.length_cons, List.length_nil]; omega
theorem tT {kvs : List (κ × V)} {k : κ} (v : V) (h : eg kvs k = none) : fU kvs k v = kvs ++ [(k, v)] := by
  unfold fU
  rw [jb, h]
  exact if_neg (by decide)
theorem RelO.isSome_eq {o : Option V} {u : Option Value} (r : RelO o u) : o.isSome = u.isSome := by
  cases o with
  | none => cases u with
    | none => rfl
    | some _ => exact (show False from r).elim
  | some _ => cases u with
    | none => exact (show False from r).elim
    | some _ => rfl
theorem RelO.getD {o : Option V} {u : Option Value} {d : V} {d' : Value} (r : RelO o u) (rd : RelV d d') : RelV (o.getD d) (u.getD d') := by
  cases o with
  | none => cases u with
    | none => exact rd
    | some _ => exact (show False from r).elim
  | some _ => cases u with
    | none => exact (show False from r).elim
    | some _ => exact r
theorem KV.val {kvs : List (κ × V)} {vs : List (κ × Value)} (r : KV kvs vs) (k : κ) : RelO (eg kvs k) (valueAt vs k) := by
  unfold KV at r
  induction r with
  | nil => exact True.intro
  | @cons p q ps qs h t ih =>
    obtain ⟨h1, h2⟩ := h
    by_cases e : p.1 = k
    . have e' : q.1 = k := h1.symm.trans e
      have b : valueAt (q :: qs) k = some q.2 := by simp [valueAt, List.find?_cons, e']
      rw [b9 e, b]; exact h2
    . have e' : ¬ q.1 = k := fun z => e (h1.trans z)
      have b : valueAt (q :: qs) k = valueAt qs k := by simp [valueAt, List.find?_cons, e']
      rw [bY e, b]; exact ih
theorem KV.any {kvs : List (κ × V)} {vs : List (κ × Value)} (r : KV kvs vs) (k : κ) : (kvs.any fun kv => decide (kv.1 = k)) = vs.any fun kv => decide (kv.1 = k) := by
  unfold KV at r
  induction r with
  | nil => rfl
  | cons h t ih => rw [List.any_cons, List.any_cons, ih, h.1]
theorem KV.repl {kvs : List (κ × V)} {vs : List (κ × Value)} (r : KV kvs vs) (k : κ) {y : V} {u : Value} (ry : RelV y u) :
    KV (kvs.map fun kv => if kv.1 = k then (kv.1, y) else kv) (vs.map fun kv => if kv.1 = k then (kv.1, u) else kv) := by
  unfold KV at r ⊢
  induction r with
  | nil => exact .nil
  | @cons p q ps qs h t ih =>
    rw [List.map_cons, List.map_cons]
    refine .cons ?_ ih
    obtain ⟨h1, h2⟩ := h
    by_cases e : p.1 = k
    . rw [if_pos e, if_pos (h1.symm.trans e)]; exact ⟨h1, ry⟩
    . rw [if_neg e, if_neg (fun z => e (h1.trans z))]; exact ⟨h1, h2⟩
theorem KV.put {kvs : List (κ × V)} {vs : List (κ × Value)} (r : KV kvs vs) (k : κ) {y : V} {u : Value} (ry : RelV y u) : KV (fU kvs k y) (stored vs k u) := by
  unfold fU stored
  rw [r.any k]
  by_cases e : (vs.any fun kv => decide (kv.1 = k)) = true
  . rw [if_pos e, if_pos e]; exact r.repl k ry
  . rw [if_neg e, if_neg e]; exact Paired.snoc r ⟨rfl, ry⟩
theorem KV.keys {kvs : List (κ × V)} {vs : List (κ × Value)} (r : KV kvs vs) : kvs.map (·.1) = vs.map (·.1) := by
  unfold KV at r
  induction r with
  | nil => rfl
  | cons h t ih => rw [List.map_cons, List.map_cons, ih, h.1]
theorem KV.length {kvs : List (κ × V)} {vs : List (κ × Value)} (r : KV kvs vs) : kvs.length = vs.length := Paired.length r
end
theorem uo {P : Program} {w : World} {k : Key} {u : Value} (r : RelV (kV k) u) : (bT P w).is k u = true := by
  cases k with
  | inl i => obtain ⟨t, e⟩ := (show ∃ t, u = Value.int i t from r); subst e; exact tf P w i t
  | inr x => obtain ⟨t, e⟩ := (show ∃ t, u = Value.str x t from r); subst e; exact tq P w x t
theorem Dl {a b : Key} (e : kV a = kV b) : a = b := by
  cases a with
  | inl i => cases b with
    | inl j => have e' : V.int i = V.int j := e; injection e' with e'; rw [e']
    | inr y => exact nomatch (show V.int i = V.str y from e)
  | inr x => cases b with
    | inl j => exact nomatch (show V.str x = V.int j from e)
    | inr y => have e' : V.str x = V.str y := e; injection e' with e'; rw [e']
theorem w8 : ∀ {a b : List Key}, a.map kV = b.map kV -> a = b
  | [], [], _ => rfl
  | [], _ :: _, e => by simp at e
  | _ :: _, [], e => by simp at e
  | x :: xs, y :: ys, e => by
    rw [List.map_cons, List.map_cons] at e
    injection e with e1 e2
    rw [Dl e1, w8 e2]
theorem qM {P : Program} {w : World} : ∀ {ks : List Key} {us : List Value}, Vals (ks.map kV) us -> ItemsAre (bT P w) ks us
  | [], _, r => by rw [List.map_nil] at r; cases r; exact .nil
  | k :: ks, _, r => by
    rw [List.map_cons] at r
    cases r with
    | cons h t => exact .cons (uo h) (qM t)
abbrev KT (H : Hp) : List (List Key × V) -> List (List Key × Addr × Value) -> Prop := Paired fun p q => p.1 = q.1 /\ H q.2.1 = some (.tup (p.1.map kV)) /\ RelV p.2 q.2.2
theorem KT.val {H : Hp} {kvs : List (List Key × V)} {xs : List (List Key × Addr × Value)} (r : KT H kvs xs) (k : List Key) : RelO (eg kvs k) ((atKey xs k).map (·.2)) := by
  induction r with
  | nil => exact True.intro
  | @cons p q ps qs h t ih =>
    obtain ⟨h1, _, h2⟩ := h
    by_cases e : p.1 = k
    . have e' : q.1 = k := h1.symm.trans e
      have b : atKey (q :: qs) k = some q.2 := by simp [atKey, List.find?_cons, e']
      rw [b9 e, b]; exact h2
    . have e' : ¬ q.1 = k := fun z => e (h1.trans z)
      have b : atKey (q :: qs) k = atKey qs k := by simp [atKey, List.find?_cons, e']
      rw [bY e, b]; exact ih
theorem KT.repl {H : Hp} {kvs : List (List Key × V)} {xs : List (List Key × Addr × Value)} (r : KT H kvs xs) (k : List Key) {y : V} {u : Value} (ry : RelV y u) :
    KT H (kvs.map fun kv => if kv.1 = k then (kv.1, y) else kv) (xs.map (putAt k u)) := by
  induction r with
  | nil => exact .nil
  | @cons p q ps qs h t ih =>
    rw [List.map_cons, List.map_cons]
    refine .cons ?_ ih
    obtain ⟨h1, h2, h3⟩ := h
    unfold putAt
    by_cases e : p.1 = k
    . rw [if_pos e, if_pos (h1.symm.trans e)]; exact ⟨h1, h2, ry⟩
    . rw [if_neg e, if_neg (fun z => e (h1.trans z))]; exact ⟨h1, h2, h3⟩
theorem KT.put {H : Hp} {kvs : List (List Key × V)} {xs : List (List Key × Addr × Value)} (r : KT H kvs xs) (k : List Key) {b : Addr} {y : V} {u : Value} (hb : H b = some (.tup (k.map kV))) (ry : RelV y u) :
    KT H (fU kvs k y) (storedH xs k b u) := by
  have e : (kvs.any fun kv => decide (kv.1 = k)) = (atKey xs k).isSome := by
    rw [jb, (r.val k).isSome_eq, Option.isSome_map]
  unfold fU storedH
  rw [e]
  by_cases q : (atKey xs k).isSome = true
  . rw [if_pos q, if_pos q]; exact r.repl k ry
  . rw [if_neg q, if_neg q]; exact Paired.snoc r ⟨rfl, hb, ry⟩
theorem KT.keeps {H H' : Hp} {kvs : List (List Key × V)} {xs : List (List Key × Addr × Value)} (r : KT H kvs xs) (ht : ∀ b ys, H b = some (.tup ys) -> H' b = some (.tup ys)) : KT H' kvs xs :=
  Paired.mapP r fun _ _ z => ⟨z.1, ht _ _ z.2.1, z.2.2⟩
section
variable {P : Program} {w : World} {H : Hp} {h : Heap} {a : Addr}
theorem zG {u : HO} (ok : HOk P w H h) (e : Rd H a u) : ObjOk P w H h a u := e.ok ok
theorem re {kvs : List (Key × V)} (ok : HOk P w H h) (e : Rd H a (.dK kvs)) : kvs.length <= sizeLine /\ (a == sysModules) = false /\ ∃ vs, KV kvs vs /\ h.DictOf (bT P w) a vs :=
  show ObjOk P w H h a (.dK kvs) from zG ok e
theorem xC {kvs : List (Key × V)} (ok : HOk P w H h) (e : H a = some (.dK kvs)) : kvs.length <= sizeLine /\ (a == sysModules) = false /\ ∃ vs, KV kvs vs /\ h.DictOf (bT P w) a vs := re ok (.inl e)
theorem oW {ks : List Key} (ok : HOk P w H h) (e : H a = some (.tup (ks.map kV))) : (tupleKind (bT P w)).is h ks a := by
  obtain ⟨_, its, r, o, h1, h2, n, h3⟩ := (show ObjOk P w H h a (.tup (ks.map kV)) from ok a _ e)
  exact ⟨o, its.toArray, n, h1, h2, h3, by simpa using qM r⟩
theorem qN {kvs : List (List Key × V)} (ok : HOk P w H h) (e : Rd H a (.dT kvs)) : kvs.length <= sizeLine /\ (a == sysModules) = false /\
    ∃ xs, KT H kvs xs /\ h.DictOfH (tupleKind (bT P w)) a xs := by
  obtain ⟨z, y, xs, r, o, es, ep, h1, h2, h3, h4, h5⟩ := (show ObjOk P w H h a (.dT kvs) from zG ok e)
  refine ⟨z, y, xs, r, o, es, ep, h1, h2, h3, h4, fun x hx => ?_, h5⟩
  have all : ∀ {l : List (List Key × V)} {m : List (List Key × Addr × Value)}, KT H l m -> ∀ x ∈ m, (tupleKind (bT P w)).is h x.1 x.2.1 := by
    intro l m q
    induction q with
    | nil => intro x hx; exact nomatch hx
    | @cons p q ps qs hq t ih =>
      intro x hx
      rcases List.mem_cons.mp hx with e | hx
      . subst e
        exact oW ok (by rw [<- hq.1]; exact hq.2.1)
      . exact ih x hx
  exact all r x hx
theorem Ck {kvs : List (List Key × V)} (ok : HOk P w H h) (e : H a = some (.dT kvs)) : kvs.length <= sizeLine /\ (a == sysModules) = false /\
    ∃ xs, KT H kvs xs /\ h.DictOfH (tupleKind (bT P w)) a xs := qN ok (.inl e)
end
def DGet (H : Hp) (a : Addr) (y : V) (r : Option V) : Prop :=
  (∃ kvs k, Rd H a (.dK kvs) /\ y = kV k /\ r = eg kvs k) \/ ∃ kvs k b, Rd H a (.dT kvs) /\ y = .ref b /\ H b = some (.tup (k.map kV)) /\ r = eg kvs k
def DPut (H : Hp) (a : Addr) (y v : V) (H' : Hp) : Prop :=
  (∃ kvs k, H a = some (.dK kvs) /\ y = kV k /\ kvs.length < sizeLine /\ H' = upd H a (.dK (fU kvs k v))) \/
  ∃ kvs k b, H a = some (.dT kvs) /\ y = .ref b /\ H b = some (.tup (k.map kV)) /\ kvs.length < sizeLine /\ H' = upd H a (.dT (fU kvs k v))
theorem DGet.k {H : Hp} {a : Addr} {kvs : List (Key × V)} {k : Key} (e : H a = some (.dK kvs)) : DGet H a (kV k) (eg kvs k) := .inl ⟨kvs, k, .inl e, rfl, rfl⟩
theorem DGet.t {H : Hp} {a b : Addr} {kvs : List (List Key × V)} {k : List Key} (e : H a = some (.dT kvs)) (eb : H b = some (.tup (k.map kV))) : DGet H a (.ref b) (eg kvs k) := .inr ⟨kvs, k, b, .inl e, rfl, eb, rfl⟩
theorem DPut.k {H : Hp} {a : Addr} {kvs : List (Key × V)} {k : Key} {v : V} (e : H a = some (.dK kvs)) (hl : kvs.length < sizeLine) : DPut H a (kV k) v (upd H a (.dK (fU kvs k v))) := .inl ⟨kvs, k, e, rfl, hl, rfl⟩
theorem DPut.t {H : Hp} {a b : Addr} {kvs : List (List Key × V)} {k : List Key} {v : V} (e : H a = some (.dT kvs)) (eb : H b = some (.tup (k.map kV))) (hl : kvs.length < sizeLine) :
    DPut H a (.ref b) v (upd H a (.dT (fU kvs k v))) := .inr ⟨kvs, k, b, e, rfl, eb, hl, rfl⟩
section
variable {X : Cx} {pins : List (Addr × Obj)} {σ : St} {H : Hp} {s : Shared} {a : Addr} {y v : V} {u r : Value} {o : Option V} {A : Around} {E : Value -> Shared -> Prop}
theorem Inv.big (I : Inv X pins σ H s) : sysModules < s.heap.objs.size := by
  have h : mainGlobals < s.heap.objs.size := (I.mod.glob.keeps I.bk).lt
  exact Nat.lt_trans (by decide) h
theorem xO {Q : Value -> Shared -> Prop} (hu : A.units + 1 < cLine) (I : Inv X pins σ H s) (g : DGet H a y (some v)) (ry : RelV y u) (h : ∀ w' s', Inv X pins σ H s' -> RelV v w' -> Q w' s') :
    wpAny (model X.prog X.w) A (getItem (.ref a) u) Q E s := by
  rcases g with ⟨kvs, k, e, ey, l⟩ | ⟨kvs, k, b, e, ey, eb, l⟩
  . subst ey
    obtain ⟨z, hd, vs, rel, dd⟩ := re I.hok e
    obtain ⟨w', hw, rw'⟩ := RelO.some_of (v := v) (o := valueAt vs k) (by rw [l]; exact rel.val k)
    exact wpAny_getItem_of (uo ry) dd.mapOf hw (h w' _ (I.tok _) rw')
  . subst ey
    cases (show u = Value.ref b from ry)
    obtain ⟨z, hd, xs, rel, dd⟩ := qN I.hok e
    obtain ⟨w', hw, rw'⟩ := RelO.some_of (v := v) (o := (atKey xs k).map (·.2)) (by rw [l]; exact rel.val k)
    obtain ⟨p, hp, hp2⟩ := Option.map_eq_some_iff.mp hw
    refine wpAny_getItem_heap (tupleKind_room_in1 hu) (oW I.hok eb) dd hp ?_
    rw [hp2]
    exact h w' _ (I.tok _) rw'
theorem FK {Q : Value -> Shared -> Prop} (hu : A.units + 1 < cLine) (I : Inv X pins σ H s) (g : DGet H a y o) (ry : RelV y u) (h : ∀ s', Inv X pins σ H s' -> Q (.bool o.isSome) s') :
    wpAny (model X.prog X.w) A (compareOp .In u (.ref a)) Q E s := by
  rcases g with ⟨kvs, k, e, ey, l⟩ | ⟨kvs, k, b, e, ey, eb, l⟩
  . subst ey
    obtain ⟨z, hd, vs, rel, dd⟩ := re I.hok e
    refine wpAny_in_of (uo ry) hd dd.mapOf ?_
    rw [<- (rel.val k).isSome_eq, <- l]
    exact h _ (I.tok _)
  . subst ey
    cases (show u = Value.ref b from ry)
    obtain ⟨z, hd, xs, rel, dd⟩ := qN I.hok e
    refine wpAny_in_heap (tupleKind_room_in1 hu) (oW I.hok eb) hd dd ?_
    have q := (rel.val k).isSome_eq
    rw [Option.isSome_map] at q
    rw [<- q, <- l]
    exact h _ (I.tok _)
theorem wu {h' : Heap} {t' : Nat} {ob : HO} (I : Inv X pins σ H s) (mu : Mut (H a)) (hs : Heap.SameBut a s.heap h') (he : ∃ q, h'.get? a = some q) (new : ObjOk X.prog X.w (upd H a ob) h' a ob) :
    Inv X pins σ (upd H a ob) { s with heap := h', toks := t' } :=
  I.write (x := a) (e := a) mu (.inl rfl) (fun b q hb z => (hs.2 b hb).trans z) he new
theorem Em {P : Program} {w : World} {H' : Hp} {h' : Heap} {kvs : List (Key × V)} {vs : List (Key × Value)} (z : kvs.length <= sizeLine) (hd : (a == sysModules) = false) (rel : KV kvs vs) (dd : h'.DictOf (bT P w) a vs) :
    ObjOk P w H' h' a (.dK kvs) := ⟨z, hd, vs, rel, dd⟩
theorem x_ {H' : Hp} {Q : Unit -> Shared -> Prop} (hu : A.units + 1 < cLine) (I : Inv X pins σ H s) (g : DPut H a y v H') (ry : RelV y u) (rv : RelV v r) (h : ∀ s', Inv X pins σ H' s' -> Q () s') :
    wpAny (model X.prog X.w) A (setItem (.ref a) u r) Q E s := by
  rcases g with ⟨kvs, k, e, ey, l, eH⟩ | ⟨kvs, k, b, e, ey, eb, l, eH⟩
  . subst ey eH
    obtain ⟨z, hd, vs, rel, dd⟩ := xC I.hok e
    have hz : vs.length <= sizeLine := by rw [<- rel.length]; exact z
    have hl : (fU kvs k v).length <= sizeLine := by have := m_ kvs k v; omega
    refine wpAny_setItem_pairs (hsz := hz) (uo ry) dd fun h' dd' hs => h _ ?_
    have he : ∃ q, h'.get? a = some q := let ⟨q, _, _, hq, _⟩ := dd'; ⟨q, hq⟩
    exact wu I (by rw [e]; exact True.intro) hs he (Em hl hd (rel.put k rv) dd')
  . subst ey eH
    cases (show u = Value.ref b from ry)
    obtain ⟨z, hd, xs, rel, dd⟩ := Ck I.hok e
    have hz : xs.length <= sizeLine := by rw [<- Paired.length rel]; exact z
    have hl : (fU kvs k v).length <= sizeLine := by have := m_ kvs k v; omega
    refine wpAny_setItem_heap (hsz := hz) (tupleKind_room_in1 hu) (oW I.hok eb) dd fun h' dd' hs => h _ ?_
    obtain ⟨q, es, ep, hq, h2, h3, h4, _, h5⟩ := dd'
    refine wu I (by rw [e]; exact True.intro) hs ⟨q, hq⟩ ⟨hl, hd, _, (rel.put k eb rv).keeps fun c ys ec => ?_, q, es, ep, hq, h2, h3, h4, h5⟩
    rw [aj (E1 ec e (fun z => nomatch z))]
    exact ec
end
section
variable {X : Cx} {pins : List (Addr × Obj)} {σ : St} {H : Hp} {s : Shared} {a : Addr} {kvs : List (Key × V)} {k : Key} {u : Value} {A : Around} {E : Value -> Shared -> Prop}
end
def EL (i : Expr) : Prop := ∀ ov iv, subscripted i false ov iv = operate [ov, iv] (getItem ov iv)
theorem Br {prog : Program} {w : World} {A : Around} {E : Value -> Shared -> Prop} {s : Shared} {env : Env} {value slice : Expr} {pos : Pos} {T id : String} {Q : Value -> Shared -> Prop}
    (hl : typeLookup (.type T) "__getitem__" = pure (some (.builtin id))) (hs : EL slice)
    (h : wpAny (model prog w) A (eval value env) (fun o s₁ => wpAny (model prog w) A (eval slice env) (fun i s₂ => s₂.TypeIs o T /\ wpAny (model prog w) A (getItem o i) Q E s₂) E s₁) E s) :
    wpAny (model prog w) A (eval (.Subscript value slice pos) env) Q E s := by
  refine Subscript_ (wpAny_mono h (fun o s₁ h₁ => wpAny_mono h₁ (fun i s₂ h₂ => ?_) fun _ _ x => x) fun _ _ x => x)
  obtain ⟨hT, h₂⟩ := h₂
  unfold subscriptTail
  refine wpAny_bind ?_
  rw [getitemInPython_of_ne hT.not_modules]
  refine wpAny_bind (wpAny_specialOf hT hl ?_)
  have fin : wpAny (model prog w) A (subscripted slice false o i) (fun r s₃ => wpAny (model prog w) A (letTemporaryGo value o r >>= fun _ => pure r) Q E s₃) E s₂ := by
    rw [hs o i]
    exact wpAny_operating (wpAny_mono h₂ (fun r s₃ h₃ => wpAny_bind (wpAny_letTemporaryGo (wpAny_pure h₃))) fun _ _ x => x)
  first
    | exact wpAny_pure (wpAny_bind fin)
    | exact wpAny_bind (wpAny_pure (wpAny_bind fin))
    | exact wpAny_bind fin
theorem u_ {X : Cx} {pins : List (Addr × Obj)} {σ : St} {H : Hp} {s : Shared} {a : Addr} {y : V} {o : Option V} (I : Inv X pins σ H s) (g : DGet H a y o) : s.TypeIs (.ref a) "dict" := by
  rcases g with ⟨kvs, k, e, _, _⟩ | ⟨kvs, k, b, e, _, _, _⟩
  . obtain ⟨_, _, vs, _, dd⟩ := re I.hok e
    exact dd.typeIs
  . obtain ⟨_, _, xs, _, dd⟩ := qN I.hok e
    exact dd.typeIs
def CD (td ty : TE) : TE := fun σ H Q => td σ H fun x H1 => ty σ H1 fun y H2 => ∃ a v, x = .ref a /\ DGet H2 a y (some v) /\ Q v H2
def Fd (ty td : TE) : TE := fun σ H Q => ty σ H fun y H1 => td σ H1 fun x H2 => ∃ a o, x = .ref a /\ DGet H2 a y o /\ Q (.bl o.isSome) H2
def B8 (td ty tv : TE) : TS := fun D σ H => tv σ H fun v H1 => td σ H1 fun x H2 => ty σ H2 fun y H3 => ∃ a H4, x = .ref a /\ DPut H3 a y v H4 /\ D.nx σ H4
section
variable {X : Cx} {o i e value : Expr} {pos pos' tpos : Pos} {td ty tv : TE}
theorem cx (hu : X.A.units + 1 < cLine) (ho : PE X o td) (hi : PE X i ty) (hs : EL i) : PE X (.Subscript o i pos) (CD td ty) := by
  intro pins s σ H Q I h
  refine Br PySem.F.slot_dict_getitem.lookup hs (thn (ho pins s σ H _ I h) fun u s1 ⟨x, H1, I1, rx, q1⟩ => thn (hi pins s1 σ H1 _ I1 q1) fun iv s2 ⟨y, H2, I2, ry, a, v, ex, g, q2⟩ => ?_)
  subst ex
  obtain rfl : u = Value.ref a := rx
  exact ⟨u_ I2 g, xO hu I2 g ry fun w' s3 I3 rw' => ⟨v, H2, I3, rw', q2⟩⟩
theorem vC (hu : X.A.units + 1 < cLine) (hi : PE X i ty) (ho : PE X o td) : PC X .In i o (Fd ty td) := by
  intro pins s σ H Q I h
  refine thn (hi pins s σ H _ I h) fun iv s1 ⟨y, H1, I1, ry, q1⟩ => thn (ho pins s1 σ H1 _ I1 q1) fun u s2 ⟨x, H2, I2, rx, a, ov, ex, g, q2⟩ => ?_
  subst ex
  obtain rfl : u = Value.ref a := rx
  exact FK hu I2 g ry fun s3 I3 => ⟨.bl ov.isSome, H2, I3, rfl, q2⟩
theorem gm (hu : X.A.units + 1 < cLine) (ho : PE X o td) (hi : PE X i ty) (hv : PE X value tv) (hs : swapsWith value (some (.Subscript o i pos')) pos.line X.env = pure false) :
    PS X (.Assign [.Subscript o i pos'] value pos) (B8 td ty tv) := by
  intro pins s σ H D I h
  refine wpAny_Assign_Subscript (thn (hv pins s σ H _ I h) fun r s1 ⟨v, H1, I1, rv, q1⟩ => thn (ho pins s1 σ H1 _ I1 q1) fun u s2 ⟨x, H2, I2, rx, q2⟩ => thn (hi pins s2 σ H2 _ I2 q2) fun iv s3 ⟨y, H3, I3, ry, a, H4, ex, g, q3⟩ => ?_) hs
  subst ex
  obtain rfl : u = Value.ref a := rx
  exact x_ hu I3 g ry rv fun s4 I4 => ⟨σ, H4, I4, q3⟩
end
theorem Aj {P : Program} {w : World} {H : Hp} (h : Heap) (hb : sysModules < h.objs.size) : ObjOk P w H (h.push { cls := .type "dict", data := .dict #[] }) h.objs.size (.dT []) :=
  ⟨Nat.zero_le _, beq_eq_false_iff_ne.mpr (Ne.symm (Nat.ne_of_lt hb)), [], .nil, _, #[], 0, Heap.get?_push_size _ rfl, ⟨rfl, rfl, rfl⟩, rfl, rfl, List.nodup_nil⟩
def zT : TE := fun _ H Q => ∀ p, H p = none -> Q (.ref p) (upd H p (.dT []))
section
variable {X : Cx} {pos : Pos}
theorem tQ : PE X (.Dict [] [] pos) zT := fun pins s σ H Q I h =>
  wpAny_Dict_empty ⟨.ref s.heap.objs.size, _, I.laid (a := s.heap.objs.size) (o := .dT []) (t' := s.toks) (fun _ _ q => Heap.get?_push_of_some _ q) (Nat.le_refl _) (Aj s.heap I.big), rfl, h _ (I.hok.fresh (Nat.le_refl _))⟩
end
structure M1 (X : Cx) (o : Expr) (m : Str) (apos : Pos) (e : Expr) (cpos : Pos) : Prop where
  base : attributeBase o m X.env (eval o X.env) = eval o X.env
  few : ((backTo cpos (starEach [e] X.env)).all (fun x => !x.1) && (backToKw cpos (keywordEach [] X.env)).all (fun x => x.1.isSome)
    && decide (([e] : List Expr).length + ([] : List Keyword).length + (if ([] : List Keyword).isEmpty then 0 else 1) < 30)) = true
  line : (apos.endLine == cpos.line) = true
  trees : backTo cpos (starEach [e] X.env) = [(false, eval e X.env)]
structure M2 (X : Cx) (o : Expr) (m : Str) (apos : Pos) (e f : Expr) (cpos : Pos) : Prop where
  base : attributeBase o m X.env (eval o X.env) = eval o X.env
  few : ((backTo cpos (starEach [e, f] X.env)).all (fun x => !x.1) && (backToKw cpos (keywordEach [] X.env)).all (fun x => x.1.isSome)
    && decide (([e, f] : List Expr).length + ([] : List Keyword).length + (if ([] : List Keyword).isEmpty then 0 else 1) < 30)) = true
  line : (apos.endLine == cpos.line) = true
  trees : backTo cpos (starEach [e, f] X.env) = [(false, eval e X.env), (false, eval f X.env)]
def IsD (H : Hp) (a : Addr) : Prop := (∃ kvs, Rd H a (.dK kvs)) \/ ∃ kvs, Rd H a (.dT kvs)
theorem Es {X : Cx} {pins : List (Addr × Obj)} {σ : St} {H : Hp} {s : Shared} {a : Addr} (I : Inv X pins σ H s) (d : IsD H a) :
    s.TypeIs (.ref a) "dict" /\ (∀ b, Value.ref a = .ref b -> ∃ ob, s.heap.get? b = some ob /\ ob.dict = none) /\ (a == sysModules) = false := by
  rcases d with ⟨kvs, e⟩ | ⟨kvs, e⟩
  . obtain ⟨_, hd, vs, _, dd⟩ := re I.hok e
    refine ⟨dd.typeIs, fun b q => ?_, hd⟩
    cases q
    obtain ⟨ob, _, _, h1, h2, _⟩ := dd
    exact ⟨ob, h1, h2.2.1⟩
  . obtain ⟨_, hd, xs, _, dd⟩ := qN I.hok e
    refine ⟨dd.typeIs, fun b q => ?_, hd⟩
    cases q
    obtain ⟨ob, _, _, h1, h2, _⟩ := dd
    exact ⟨ob, h1, h2.2.1⟩
section
variable {X : Cx} {pins : List (Addr × Obj)} {σ : St} {H : Hp} {s : Shared} {a : Addr} {y d : V} {u r : Value} {o : Option V} {A : Around} {E : Value -> Shared -> Prop}
theorem CK {Q : Value -> Shared -> Prop} (hu : A.units + 1 < cLine) (I : Inv X pins σ H s) (g : DGet H a y o) (ry : RelV y u) (rd : RelV d r) (h : ∀ w' s', Inv X pins σ H s' -> RelV (o.getD d) w' -> Q w' s') :
    wpAny (model X.prog X.w) A (call (.builtin "dict.get") [.ref a, u, r]) Q E s := by
  rcases g with ⟨kvs, k, e, ey, l⟩ | ⟨kvs, k, b, e, ey, eb, l⟩
  . subst ey
    obtain ⟨z, hd, vs, rel, dd⟩ := re I.hok e
    refine call_meetsIn PySem.F.slot_dict_get dd.typeIs PySem.F.entry_dict_get (PySem.F.args_dict_get_3 _ _ _) (meets_dict_get_default (bT X.prog X.w) a (uo ry) hd r) ⟨_, dd.mapOf, h _ _ (I.tok _) ?_⟩
    rw [l]
    exact (rel.val k).getD rd
  . subst ey
    cases (show u = Value.ref b from ry)
    obtain ⟨z, hd, xs, rel, dd⟩ := qN I.hok e
    refine call_meetsIn PySem.F.slot_dict_get dd.typeIs PySem.F.entry_dict_get (PySem.F.args_dict_get_3 _ _ _) (meetsH_dict_get_default (tupleKind (bT X.prog X.w)) a b hd r) ⟨tupleKind_room_in1 hu, k, xs, oW I.hok eb, dd, h _ _ (I.tok _) ?_⟩
    rw [l]
    exact (rel.val k).getD rd
end
def za (td ty tx : TE) : TE := fun σ H Q => td σ H fun x H1 => ∃ a, x = .ref a /\ IsD H1 a /\ ty σ H1 fun y H2 => tx σ H2 fun z H3 => ∃ o, DGet H3 a y o /\ Q (o.getD z) H3
section
variable {X : Cx} {o e f : Expr} {apos cpos : Pos} {td ty tx : TE}
theorem oI (hu : X.A.units + 1 < cLine) (ho : PE X o td) (he : PE X e ty) (hf : PE X f tx) (m : M2 X o "get" apos e f cpos) : PE X (.Call (.Attribute o "get" apos) [e, f] [] cpos) (za td ty tx) := by
  intro pins s σ H Q I h
  refine wpAny_Call_method m.base m.few m.line PySem.F.plainAttrs_dict PySem.F.slot_dict_get PySem.F.type_dict_get (thn (ho pins s σ H _ I h) fun u s1 ⟨x, H1, I1, rx, a, ex, d, q1⟩ => ?_)
  subst ex
  obtain rfl : u = Value.ref a := rx
  obtain ⟨t1, t2, _⟩ := Es I1 d
  refine ⟨t1, t2, ?_⟩
  rw [m.trees]
  refine Calls.callWith_builtin rfl (Calls.evalArgs_plain (Calls.spliced_cons (thn (he pins s1 σ H1 _ I1 q1) fun iv s2 ⟨y, H2, I2, ry, q2⟩ =>
    Calls.spliced_cons (thn (hf pins s2 σ H2 _ I2 q2) fun fv s3 ⟨z, H3, I3, rz, ov, g, q3⟩ => Calls.spliced_nil ?_))))
  exact CK hu I3 g ry rz fun w' s4 I4 rw' => ⟨_, H3, I4, rw', q3⟩
end
section
variable {X : Cx} {pins : List (Addr × Obj)} {σ : St} {H : Hp} {s : Shared} {a : Addr} {kvs : List (Key × V)} {A : Around} {E : Value -> Shared -> Prop}
end
section
variable {X : Cx} {pins : List (Addr × Obj)} {σ : St} {H : Hp} {s : Shared} {a : Addr} {y : V} {u : Value} {A : Around} {E : Value -> Shared -> Prop}
end
end L2
set_option Elab.async false
set_option linter.all false
set_option maxRecDepth 100000
namespace L2
open PySem PySem.Spec PyProof.Rows
section
variable {X : Cx} {e o value : Expr} {f : Str} {ta tv : TE} {pos pos' : Pos}
def En (K : PySem.W.Frag) (f : Str) : V -> Hp -> VK -> Prop
  | .ref p, H, Q => ∃ C dx fs v, H p = some (.ins C dx fs) /\ Cls K C /\ NoAttr K C f /\ fs.lookup f = some v /\ Q v H
  | _, _, _ => False
def Ct (K : PySem.W.Frag) (ta : TE) (f : Str) : TE := fun σ H Q => ta σ H fun x H1 => En K f x H1 Q
theorem bP (K : PySem.W.Frag) (he : PE X e ta) (hK : X.K = K := by rfl) (hb : attributeBase e f X.env (eval e X.env) = eval e X.env := by rfl) : PE X (.Attribute e f pos) (Ct K ta f) := by
  subst hK
  intro pins s σ H Q I h
  refine BI hb (thn (he pins s σ H _ I h) fun u s1 ⟨x, H1, I1, rx, q⟩ => ?_)
  dsimp only at q
  unfold En at q
  split at q
  . rename_i a
    obtain ⟨C, dx, fs, v, ea, c, n, l, q⟩ := q
    obtain rfl : u = Value.ref a := rx
    exact v8 I1 ea c n l fun u' s2 I2 ru => ⟨v, H1, I2, ru, q⟩
  . exact q.elim
def zM (K : PySem.W.Frag) (f : Str) (y : V) : V -> Hp -> (Hp -> Prop) -> Prop
  | .ref p, H, Q => ∃ C dx fs, H p = some (.ins C dx fs) /\ Cls K C /\ NoAttr K C f /\ fs.length < 1000 /\ Q (upd H p (.ins C dx (dZ f y fs)))
  | _, _, _ => False
def Cw (K : PySem.W.Frag) (ta tv : TE) (f : Str) : TS := fun D σ H => tv σ H fun y H1 => ta σ H1 fun x H2 => zM K f y x H2 fun H3 => D.nx σ H3
theorem fh (K : PySem.W.Frag) (ha : PE X o ta) (hv : PE X value tv) (hK : X.K = K := by rfl) (hs : swapsWith value (some (.Attribute o f pos')) pos.line X.env = pure false := by rfl) : PS X (.Assign [.Attribute o f pos'] value pos) (Cw K ta tv f) := by
  subst hK
  intro pins s σ H D I h
  refine plainObj_wpAny_Assign_Attribute (thn (hv pins s σ H _ I h) fun u s1 ⟨y, H1, I1, ry, q⟩ => thn (ha pins s1 σ H1 _ I1 q) fun ov s2 ⟨x, H2, I2, rx, q2⟩ => ?_) hs
  dsimp only at q2
  unfold zM at q2
  split at q2
  . rename_i a
    obtain ⟨C, dx, fs, ea, c, n, l, q2⟩ := q2
    obtain rfl : ov = Value.ref a := rx
    exact v6 I2 ea c n l ry fun s3 I3 => ⟨σ, _, I3, q2⟩
  . exact q2.elim
end
section
variable {X : Cx} {CX : CXT} {k : Nat} {f C : Addr} {fd : FuncData} {ps : List Str} {sp : Sp} {dvs : List V} {ds : List Value} {E : XKs} {x m : Str} {p pos apos : Pos} {e o : Expr} {es : List Expr} {ta : TE} {t : TA}
def xb (C : Addr) (m : Str) : V -> Hp -> (V -> Prop) -> Prop
  | .ref p, H, Q => ∃ dx fs, H p = some (.ins C dx fs) /\ fs.lookup m = none /\ Q (.ref p)
  | _, _, _ => False
def vS (C : Addr) (m : Str) (sp : Sp) (dvs : List V) (E : XKs) (ta : TE) (t : TA) : TE := fun σ H Q => ta σ H fun x0 H1 => xb C m x0 H1 (fun x => t σ H1 fun vs H2 => sp (x :: (vs ++ dvs)) H2 Q (E σ))
theorem cY {pl : Sem Bool} (he : PE X o ta) (c : Cls X.K C) (hm : hG X.K C m f) (F : bw X.prog X.w X.K X.mg X.base CX k f fd ps sp) (hr : Room k X.A) (hb : Binds X.K fd ps ds) (hd : Vals dvs ds) (hx : ft CX X E) (ha : PA X (e :: es) t)
    (hst : starEach (e :: es) X.env = (false, eval e X.env) :: starEach es X.env := by rfl) (hpl : (backTo pos (starEach es X.env)).any (·.1) = false := by rfl)
    (ht : eval (.Call (.Attribute o m apos) (e :: es) [] pos) X.env = (do
      let ov <- eval o X.env
      standAt apos.atName
      let (f, first) <- holding [ov] (getMethod ov m pl)
      callWith pos f first (backTo pos (starEach (e :: es) X.env)) (backToKw pos (keywordEach [] X.env))) := by rfl) :
    PE X (.Call (.Attribute o m apos) (e :: es) [] pos) (vS C m sp dvs E ta t) := by
  intro pins s σ H Q I h
  refine PySem.W.methodCall_KW (pl := pl) (thn (he pins s σ H _ I h) fun u s1 ⟨xo, H1, I1, rx, q⟩ => ?_) ht
  dsimp only at q
  unfold xb at q
  split at q
  . rename_i a
    obtain ⟨dx, fs, ea, l, q⟩ := q
    obtain rfl : u = Value.ref a := rx
    refine n5 I1 ea c hm l ?_
    refine PySem.W.callWith_K (first := [.ref a]) (h₀ := X.base) I.ok.mod.kin hm.kp (thn (ha pos pins s1 σ _ _ I1 q) fun us s2 ⟨vs, H2, I2, r, q2⟩ => ⟨I2.kIn, ?_⟩) hst hpl
    exact rT (us := .ref a :: us) (vs := .ref a :: vs) F hr hb hd hx I2 (.cons rfl r) q2
  . exact q.elim
theorem jf {pl : Sem Bool} (he : PE X o ta) (c : Cls X.K C) (hm : hG X.K C m f) (F : bw X.prog X.w X.K X.mg X.base CX k f fd ps sp) (hr : Room k X.A) (hb : Binds X.K fd ps ds) (hd : Vals dvs ds) (hx : ft CX X E)
    (ht : eval (.Call (.Attribute o m apos) [] [] pos) X.env = (do
      let ov <- eval o X.env
      standAt apos.atName
      let (f, first) <- holding [ov] (getMethod ov m pl)
      callWith pos f first (backTo pos (starEach [] X.env)) (backToKw pos (keywordEach [] X.env))) := by rfl) :
    PE X (.Call (.Attribute o m apos) [] [] pos) (vS C m sp dvs E ta yX) := by
  intro pins s σ H Q I h
  refine PySem.W.methodCall_KW (pl := pl) (thn (he pins s σ H _ I h) fun u s1 ⟨xo, H1, I1, rx, q⟩ => ?_) ht
  dsimp only at q
  unfold xb at q
  split at q
  . rename_i a
    obtain ⟨dx, fs, ea, l, q⟩ := q
    obtain rfl : u = Value.ref a := rx
    refine n5 I1 ea c hm l ?_
    exact PySem.W.callWith_K0 (first := [.ref a]) I1.kIn hm.kp (rT (us := [.ref a]) (vs := [.ref a]) F hr hb hd hx I1 (.cons rfl .nil) q)
  . exact q.elim
def v5 (C : Addr) (sp : Sp) (dvs : List V) (E : XKs) (t : TA) : TE := fun σ H Q => t σ H fun vs H1 => ∀ x dx, H1 x = none -> H1 dx = none -> dx ≠ x ->
  sp (.ref x :: (vs ++ dvs)) (upd (upd H1 dx (.own x)) x (.ins C dx [])) (fun v H2 => v = .non /\ Q (.ref x) H2) (E σ)
theorem ra {pins : List (Addr × Obj)} {σ : St} {H : Hp} {s : Shared} {Q : VK} {us : List Value} {vs : List V} (M : Mk X.K C f) (F : bw X.prog X.w X.K X.mg X.base CX k f fd ps sp) (hr : Room (k + 1) X.A) (hb : Binds X.K fd ps ds) (hd : Vals dvs ds)
    (hx : ft CX X E) (I : Inv X pins σ H s) (r : Vals vs us)
    (h : ∀ x dx, H x = none -> H dx = none -> dx ≠ x -> sp (.ref x :: (vs ++ dvs)) (upd (upd H dx (.own x)) x (.ins C dx [])) (fun v H2 => v = .non /\ Q (.ref x) H2) (E σ)) :
    wpAny (model X.prog X.w) X.A (call (.ref C) us) (EP X pins σ Q) X.xe s := by
  have hq := h (s.heap.objs.size + 1) s.heap.objs.size (I.hok.fresh (Nat.le_succ _)) (I.hok.fresh (Nat.le_refl _)) (Nat.ne_of_lt (Nat.lt_succ_self _))
  have I2 := Inv.made (C := C) I
  have r2 : Vals (V.ref (s.heap.objs.size + 1) :: (vs ++ dvs)) (Value.ref (s.heap.objs.size + 1) :: (us ++ ds)) := .cons rfl (r.append hd)
  have hl : (Value.ref (s.heap.objs.size + 1) :: us ++ ds).length = ps.length := by
    have e := r2.length
    rw [F.len _ _ _ _ hq] at e
    exact e.symm
  refine wpAny_call (Ah (f := f) I.kIn M.makes M.init (beq_iff_eq.mp M.fn) (codeAny_mono (F.run _ X.stack _ _ ⟨Value.ref (s.heap.objs.size + 1) :: us, []⟩ (Value.ref (s.heap.objs.size + 1) :: (us ++ ds)) _ _ (E σ) (hr.make C us [])
    (I2.env0.make C us []) (hb _ (Value.ref (s.heap.objs.size + 1) :: us) I2.kIn hl) r2 hq) fun r s' hq' => ?_))
  cases r with
  | error e => exact hx pins σ _ _ e s' I2 hq'
  | ok fl =>
    cases fl with
    | ret u =>
      obtain ⟨v, H', I3, rv, ev, q3⟩ := I2.after hq'
      subst ev
      exact ⟨rv, ⟨V.ref (s.heap.objs.size + 1), H', I3, rfl, q3⟩⟩
    | next => exact False.elim hq'
    | brk => exact False.elim hq'
    | cont => exact False.elim hq'
theorem ua (M : Mk X.K C f) (F : bw X.prog X.w X.K X.mg X.base CX k f fd ps sp) (hr : Room (k + 1) X.A) (hg : Gl X x) (hm : X.mg x = some (.ref C)) (hb : Binds X.K fd ps ds) (hd : Vals dvs ds) (hx : ft CX X E)
    (ha : PA X (e :: es) t) (hdb : (x == ("__debug__" : Str)) = false := by decide) (he : starEach (e :: es) X.env = (false, eval e X.env) :: starEach es X.env := by rfl) (hpl : (backTo pos (starEach es X.env)).any (·.1) = false := by rfl) :
    PE X (.Call (.Name x p) (e :: es) [] pos) (v5 C sp dvs E t) := by
  intro pins s σ H Q I h
  refine wpAny_Call_Name_kw (kM I hg hm ?_ hdb)
  refine PySem.W.callWith_K (h₀ := X.base) I.ok.mod.kin M.kp (thn (ha pos pins s σ H _ I h) fun us s1 ⟨vs, H1, I1, r, q⟩ => ⟨I1.kIn, ?_⟩) he hpl
  exact ra M F hr hb hd hx I1 r q
theorem qw (M : Mk X.K C f) (F : bw X.prog X.w X.K X.mg X.base CX k f fd ps sp) (hr : Room (k + 1) X.A) (hg : Gl X x) (hm : X.mg x = some (.ref C)) (hb : Binds X.K fd ps ds) (hd : Vals dvs ds) (hx : ft CX X E)
    (hdb : (x == ("__debug__" : Str)) = false := by decide) : PE X (.Call (.Name x p) [] [] pos) (v5 C sp dvs E yX) := by
  intro pins s σ H Q I h
  refine wpAny_Call_Name_kw (kM I hg hm ?_ hdb)
  exact PySem.W.callWith_K0 I.kIn M.kp (ra (us := []) M F hr hb hd hx I .nil h)
end
end L2
set_option Elab.async false
set_option linter.all false
set_option maxRecDepth 100000
namespace L2
open PySem PySem.Spec PyProof.Rows
def g_ (wi : TI) (n : Nat) (g : TG) (ks : List Nat) (tt : TT) (te : TE) : TE := fun σ H Q => wi σ H fun J H1 => ∀ D, H1 D = none -> ∃ W : Nat -> Nat -> List V -> Hp -> Prop, (∃ m, W 0 m [] (upd H1 D (.lst []))) /\
  ∀ i m ys H2, W i m ys H2 -> H2 D = some (.lst ys) /\ ((J.stop i H2 /\ Q (.ref D) H2) \/ (J.go i H2 /\ ∀ x H3, J.yld i H2 x H3 -> ∀ zs : St, zs.length = n ->
    g x (zs ++ ks.map fun k => (σ[k]?).join) H3 fun σ4 H4 => (∃ zs4 : St, zs4.length = n /\ σ4 = zs4 ++ ks.map fun k => (σ[k]?).join) /\
      tt σ4 H4 fun b H5 => if b = true then te σ4 H5 fun y H6 => H6 D = some (.lst ys) /\ ys.length < sizeLine /\ ∃ m', m' < m /\ W (i + 1) m' (ys ++ [y]) (upd H6 D (.lst (ys ++ [y])))
        else ∃ m', m' < m /\ W (i + 1) m' ys H5))
theorem qY {X : Cx} {elt iter : Expr} {x : Str} {xs : List Str} {tg : Expr} {g : TG} {pos : Pos} {ifs : List Expr} {scope : Scope} {cl : List (Str × Addr)} {fr : List Str} {ks : List Nat} {wi : TI} {tt : TT} {te : TE} (hc : X.calm = true) (S : CompScope X scope cl x fr)
    (hks : ks.map (fun k => X.N[k]?) = fr.map some) (hi : PI X tg iter wi) (hg : ∀ C s₂ H₂ ex pn, PG (cJ X (xs ++ fr) scope cl C s₂ H₂ ex pn) tg g)
    (ht : ∀ C s₂ H₂ ex pn, PTs (cJ X (xs ++ fr) scope cl C s₂ H₂ ex pn) ifs tt) (he : ∀ C s₂ H₂ ex pn, PE (cJ X (xs ++ fr) scope cl C s₂ H₂ ex pn) elt te)
    (hs : ∀ x, foldedSetIterable iter X.env x = pure x := by intro _; rfl)
    {pins : List (Addr × Obj)} {s : Shared} {σ : St} {H : Hp} {Q : VK} (I : Inv X pins σ H s) (h : g_ wi xs.length g ks tt te σ H Q) (use : Option (Value -> Sem Unit)) (Qp : Value -> Shared -> Prop)
    (hend : ∀ (D C : Addr) (H' : Hp) (s' : Shared) (mC : Str -> Option Value) (f : Flow), Inv X pins σ H' s' -> tU X pins H' C -> s'.heap.Ns C mC -> Q (.ref D) H' -> compPost (model X.prog X.w) X.A X.xe use Qp (.ref D) C (.ok f) s') :
    wpAny (model X.prog X.w) X.A (comprehension (.ListComp elt [⟨tg, iter, ifs, 0⟩] scope pos) scope X.env (firstIterPos [⟨tg, iter, ifs, 0⟩] pos) (newList []) false (firstIter [⟨tg, iter, ifs, 0⟩] X.env) use) Qp X.xe s := by
  refine wpAny_comprehension_free (use := use) rfl hs S.clos S.kind S.names (thn (hi pins s σ H _ I h) fun v s1 h1 => thn h1 fun itv s2 h2 => ?_)
  obtain ⟨it, fp, tn, J, H2, e, I2, T, st2, f2, hW⟩ := h2
  subst e
  refine wpAny_newObj_type (wpAny_newFunctionEnv S.nocell (by intro y hy; simp at hy) (fun h₁ hns₁ hsb₁ => ?_) S.kind)
  dsimp only at hns₁ hsb₁ ⊢
  have hD0 : H2 s2.heap.objs.size = none := I2.hok.fresh (Nat.le_refl _)
  obtain ⟨W, ⟨m0, w0⟩, turn⟩ := hW s2.heap.objs.size hD0
  generalize hs3 : s2.heap.push { cls := .type "list", dict := none, data := .seq ([] : List Value).toArray } = g3 at hns₁ hsb₁ ⊢
  have hsz3 : g3.objs.size = s2.heap.objs.size + 1 := by rw [<- hs3, Heap.size_push]
  have up3 : ∀ b o, s2.heap.get? b = some o -> g3.get? b = some o := fun b o e => by rw [<- hs3]; exact Heap.get?_push_of_some _ e
  have gD : g3.get? s2.heap.objs.size = some { cls := .type "list", dict := none, data := .seq ([] : List Value).toArray } := by rw [<- hs3]; exact Heap.get?_push_size _ rfl
  have I3 : Inv X pins σ (upd H2 s2.heap.objs.size (.lst [])) { s2 with heap := g3 } := I2.laid (t' := s2.toks) up3 (Nat.le_refl _) ⟨by simp, [], 0, .nil, gD⟩
  have keep4 : ∀ b o, g3.get? b = some o -> h₁.get? b = some o := fun b o e => (hsb₁.2 b (Nat.ne_of_lt (Heap.lt_size e))).trans (Heap.get?_push_of_some _ e)
  have hCn : (upd H2 s2.heap.objs.size (.lst [])) g3.objs.size = none := I3.hok.fresh (Nat.le_refl _)
  have fpD : ∀ b ∈ fp, b ≠ s2.heap.objs.size := fun b hb z => by
    obtain ⟨o, e, _⟩ := T.obj 0 _ st2 b hb
    exact absurd (Heap.lt_size e) (by rw [z]; exact Nat.lt_irrefl _)
  have fpC : ∀ b ∈ fp, b ≠ g3.objs.size := fun b hb z => by
    obtain ⟨o, e, _⟩ := T.obj 0 _ st2 b hb
    exact absurd (Heap.lt_size (up3 b o e)) (by rw [z]; exact Nat.lt_irrefl _)
  have fpN : ∀ b ∈ fp, (upd H2 s2.heap.objs.size (.lst [])) b = none := fun b hb => by rw [aj (fpD b hb)]; exact (f2 b hb).1
  have Ok : (cJ X (xs ++ fr) scope cl g3.objs.size { s2 with heap := g3 } (upd H2 s2.heap.objs.size (.lst [])) fp (X.pn ++ pins)).Ok := by
    refine ⟨I.ok.mod, S.kind, I.ok.glob, I.ok.blt, Nat.le_refl _, fun y z c e1 e2 => I.ok.inj y z c (S.sub e1) (S.sub e2), fun y hy => ?_, (fun y c z => nomatch z), I.ok.hd, I.ok.frames, .inl rfl, fun b hb => ⟨fpC b hb, fun y c e => (f2 b hb).2.2.2.2.1 y c (S.sub e)⟩, I3.bs, Nat.le_trans I.ok.bsz I3.sz, fun b o e hb => ?_, fun b hb z => ?_, I3.stack, I3.stkFree⟩
    . have hy' : y ∈ fr := S.only y hy
      obtain ⟨c, e⟩ := I.ok.has y (S.kinds y hy')
      exact ⟨c, (S.cell hy').trans e⟩
    . rcases (f2 b hb).2.2.2.1 with q | q
      . exact I.ok.noex b o e q
      . exact absurd (Heap.lt_size e) (Nat.not_lt.mpr (Nat.le_trans I.ok.bsz q))
    . rcases List.mem_cons.mp (I3.stkSub b z) with q | q
      . exact (f2 b hb).2.1 q
      . exact (f2 b hb).2.2.1 q
  have I4 : Inv (cJ X (xs ++ fr) scope cl g3.objs.size { s2 with heap := g3 } (upd H2 s2.heap.objs.size (.lst [])) fp (X.pn ++ pins)) [] ((xs.map fun _ => none) ++ ks.map fun k => (σ[k]?).join) (upd H2 s2.heap.objs.size (.lst [])) { s2 with heap := h₁, toks := s2.toks + ([] : List (Str × Value)).length } := by
    refine ⟨Ok, rfl, I3.bare, Un.kept keep4, ⟨_, hns₁, fun i y v e1 e2 e3 => ?_⟩, fun y c e => ?_, hCn, fun y c e => I3.freeC y c (S.sub e), fun p hp => ?_, I3.hok.kept keep4, ?_⟩
    . have e1' : (xs ++ fr)[i]? = some y := e1
      by_cases hix : i < xs.length
      . rw [List.getElem?_append_left (by simpa using hix)] at e2
        simp [hix] at e2
      . obtain ⟨i, rfl⟩ : ∃ i', i = xs.length + i' := ⟨i - xs.length, by omega⟩
        rw [List.getElem?_append_right (by omega)] at e1'
        rw [List.getElem?_append_right (by simp)] at e2
        have e1' : fr[i]? = some y := by simpa using e1'
        have e2 : (ks.map fun k => (σ[k]?).join)[i]? = some (some v) := by simpa using e2
        have hy : y ∈ fr := List.mem_of_getElem? e1'
        have ek : (ks.map (fun k => X.N[k]?))[i]? = (fr.map some)[i]? := by rw [hks]
        rw [List.getElem?_map, List.getElem?_map, e1'] at ek
        have e2' := e2
        rw [List.getElem?_map] at e2'
        cases hk : ks[i]? with
        | none => rw [hk] at ek; cases ek
        | some k =>
          rw [hk] at ek e2'
          have ek' : X.N[k]? = some y := by simpa using ek
          have e2'' : (σ[k]?).join = some v := by simpa using e2'
          have es : σ[k]? = some (some v) := by
            cases q : σ[k]? with
            | none => rw [q] at e2''; cases e2''
            | some z => rw [q] at e2''; rw [show z = some v from e2'']
          obtain ⟨m, hn, hl⟩ := I3.loc
          have hkd := S.kinds y hy
          obtain ⟨u, r, lk⟩ := hl k y v ek' es (by rcases hkd with q | q; exact .inr (.inl q); exact .inr (.inr q))
          refine ⟨u, r, .inr ⟨S.kin y hy, ?_⟩⟩
          rcases lk with ⟨q, _⟩ | ⟨_, c, ec, hcell⟩
          . rcases hkd with z | z <;> (rw [q] at z; cases z)
          . obtain ⟨o, ho, hd⟩ := hcell
            exact ⟨c, (S.cell hy).trans ec, o, keep4 _ _ ho, hd⟩
    . obtain ⟨v, o, ho, hd⟩ := I3.cell y c (S.sub e)
      exact ⟨v, o, keep4 _ _ ho, hd⟩
    . have hp' : p ∈ X.pn ++ pins := by simpa [cJ] using hp
      obtain ⟨a1, a2, a3, a4, a5⟩ := I3.pin p hp'
      refine ⟨keep4 _ _ a1, a2, Nat.ne_of_lt (Heap.lt_size a1), fun z => ?_, a5⟩
      rcases List.mem_cons.mp (I3.stkSub p.1 z) with q | q
      . exact a3 q
      . exact a4 q
    . show ((xs.map fun _ => none) ++ ks.map _).length = (xs ++ fr).length
      have := congrArg List.length hks
      simp at this
      simp [this]
  have st4 : tn 0 h₁ := T.keep 0 _ _ st2 fun b hb o e => keep4 _ _ (up3 _ _ e)
  have stat : ∀ {H' : Hp}, (∀ b ∈ fp, H' b = none) -> ∀ b ∈ fp, tU (cJ X (xs ++ fr) scope cl g3.objs.size { s2 with heap := g3 } (upd H2 s2.heap.objs.size (.lst [])) fp (X.pn ++ pins)) [] H' b := fun hn b hb =>
    ⟨hn b hb, fpC b hb, Ok.exfs b hb, .inl hb, fun y c e => (f2 b hb).2.2.2.2.1 y c (S.sub e), fun p hp => (f2 b hb).2.2.2.2.2 p (by simpa [cJ] using hp)⟩
  have loop : codeAny (model X.prog X.w) X.A (.compLoop (.ListComp elt [⟨tg, iter, ifs, 0⟩] scope pos) 0 (.ref it) (.ref s2.heap.objs.size) (compEnvC scope cl g3.objs.size X.env))
      (compPost (model X.prog X.w) X.A X.xe use Qp (.ref s2.heap.objs.size) g3.objs.size) { s2 with heap := h₁, toks := s2.toks + ([] : List (Str × Value)).length } := by
    refine rG (fun n s' => ∃ i ys σ' H', Inv (cJ X (xs ++ fr) scope cl g3.objs.size { s2 with heap := g3 } (upd H2 s2.heap.objs.size (.lst [])) fp (X.pn ++ pins)) [] σ' H' s' /\ (∃ zs, zs.length = xs.length /\ σ' = zs ++ ks.map fun k => (σ[k]?).join) /\ tn i s'.heap /\ (∀ b ∈ fp, H' b = none) /\ W i n ys H') ?_ m0
      ⟨0, [], _, _, I4, ⟨xs.map fun _ => none, by simp, rfl⟩, st4, fpN, w0⟩
    rintro n s' ⟨i, ys, σ', H', I5, ⟨zs, hzs, rfl⟩, st5, fr5, w5⟩
    obtain ⟨hD, hor⟩ := turn i n ys H' w5
    rcases hor with ⟨stop, qn⟩ | ⟨go, step⟩
    . refine wpAny_mono (T.done (cJ X (xs ++ fr) scope cl g3.objs.size { s2 with heap := g3 } (upd H2 s2.heap.objs.size (.lst [])) fp (X.pn ++ pins)) rfl rfl rfl hc i [] s' _ H' (fun _ _ => False) I5 (stat fr5) st5 stop) (fun r s6 ⟨hr, I6⟩ => ?_) (fun _ _ f => f.elim)
      subst hr
      obtain ⟨mC, hnC, _⟩ := I6.loc
      have tr : ∀ b o, b ≠ g3.objs.size -> s6.heap.get? b = some o -> s6.heap.get? b = some o := fun b o hb e => e
      have U := I6.base
      have neC : ∀ b o, g3.get? b = some o -> b ≠ g3.objs.size := fun b o e => Nat.ne_of_lt (Heap.lt_size e)
      have U' : Un (frs X.stack) fp (upd H2 s2.heap.objs.size (.lst [])) H' g3 s6.heap := ⟨fun b o q n hb hx => tr b o (neC b o q) (U.keep b o q n hb hx), fun b o q n hb hx => let ⟨sl, e⟩ := U.slot b o q n hb hx; ⟨sl, tr _ _ (neC b o q) e⟩, U.free, fun b o q hx => let ⟨o', e⟩ := U.there b o q hx; ⟨o', tr _ _ (neC b o q) e⟩, U.tups, U.frzs, U.tbls⟩
      have ok' : HOk X.prog X.w H' s6.heap := fun a o e => (I6.hok a o e).stay (fun b u hb q => tr b u (fun z => by
          have fC : H' g3.objs.size = none := I6.free
          rcases hb with r | r
          . rw [<- z, r, e] at fC; cases fC
          . rw [<- z, r] at fC; cases fC) q) (fun _ q => q) fun _ _ q => q
      have J6 : Inv X pins σ H' s6 := I3.call' (s' := s6) (ch := fp) I6.os U' ok' I6.bare fun b hb => ⟨(f2 b hb).2.2.2.1, (f2 b hb).2.1, (f2 b hb).2.2.2.2.1, (f2 b hb).2.2.2.2.2⟩
      exact hend s2.heap.objs.size g3.objs.size H' s6 mC _ J6 (I3.fpOk (Nat.le_refl _) I6.free) hnC qn
    . refine wpAny_mono (T.item (cJ X (xs ++ fr) scope cl g3.objs.size { s2 with heap := g3 } (upd H2 s2.heap.objs.size (.lst [])) fp (X.pn ++ pins)) rfl rfl rfl hc i [] s' _ H' (fun _ _ => False) I5 (stat fr5) st5 go) (fun r s6 ⟨u, hr, h6⟩ => ?_) (fun _ _ f => f.elim)
      subst hr
      refine wpAny_mono h6 (fun _ s7 ⟨xv, H7, I7, r7, y7, st7, fr7⟩ => ?_) (fun _ _ f => f.elim)
      have I7' := I7.pinned (stat fr7) (T.obj _ _ st7)
      have pinsTo : ∀ {σ9 : St} {H9 : Hp} {s9 : Shared}, Inv (cJ X (xs ++ fr) scope cl g3.objs.size { s2 with heap := g3 } (upd H2 s2.heap.objs.size (.lst [])) fp (X.pn ++ pins)) ([] ++ pj fp s7.heap) σ9 H9 s9 -> tn (i + 1) s9.heap /\ ∀ b ∈ fp, H9 b = none := fun {σ9 H9 s9} I9 =>
        ⟨T.keep _ _ _ st7 fun b hb o e => (I9.pin (b, o) (List.mem_append_right _ (List.mem_append_right _ (h_ hb e)))).1, fun b hb => by
          obtain ⟨o, e, d⟩ := T.obj _ _ st7 b hb
          exact (I9.pin (b, o) (List.mem_append_right _ (List.mem_append_right _ (h_ hb e)))).2.1⟩
      refine wpAny_mono (hg _ _ _ _ _ _ s7 _ H7 xv u _ I7' r7 (step xv H7 y7 zs hzs)) (fun _ s8 ⟨σ8, H8, I8, ⟨zs4, hz4, e8⟩, q8⟩ => ?_) (fun _ _ f => f.elim)
      subst e8
      refine wpAny_mono (ht _ _ _ _ _ _ s8 _ H8 _ I8 q8) (fun ok s9 ⟨H9, I9, q9⟩ => ?_) (fun _ _ f => f.elim)
      cases ok with
      | false =>
        rw [if_neg Bool.false_ne_true] at q9 ⊢
        obtain ⟨m', hm, w9⟩ := q9
        obtain ⟨t9, f9⟩ := pinsTo I9
        exact ⟨m', hm, i + 1, ys, _, H9, I9.unpinned, ⟨zs4, hz4, rfl⟩, t9, f9, w9⟩
      | true =>
        rw [if_pos rfl] at q9 ⊢
        refine wpAny_mono (he _ _ _ _ _ _ s9 _ H9 _ I9 q9) (fun yv s10 ⟨y, H10, I10, r10, hD10, hlen, m', hm, w10⟩ => ?_) (fun _ _ f => f.elim)
        refine wpAny_mono (d4 (X := cJ X (xs ++ fr) scope cl g3.objs.size { s2 with heap := g3 } (upd H2 s2.heap.objs.size (.lst [])) fp (X.pn ++ pins)) _ s10 _ H10 (.ref s2.heap.objs.size) [y] (.ref s2.heap.objs.size) [yv]
          (fun _ H' => H' = upd H10 s2.heap.objs.size (.lst (ys ++ [y]))) I10 rfl (.cons r10 .nil) ⟨_, ys, y, rfl, rfl, hD10, hlen, rfl⟩) (fun _ s11 ⟨_, H11, I11, _, e11⟩ => ?_) (fun _ _ f => f.elim)
        subst e11
        obtain ⟨t11, f11⟩ := pinsTo I11
        exact ⟨m', hm, i + 1, ys ++ [y], _, _, I11.unpinned, ⟨zs4, hz4, rfl⟩, t11, f11, w10⟩
  exact codeAny_compStart_list loop (T.self X.A 0 _ _ _ st4 loop)
theorem cn {X : Cx} {elt iter : Expr} {x : Str} {xs : List Str} {tg : Expr} {g : TG} {pos : Pos} {ifs : List Expr} {scope : Scope} {cl : List (Str × Addr)} {fr : List Str} {ks : List Nat} {wi : TI} {tt : TT} {te : TE} (hc : X.calm = true) (S : CompScope X scope cl x fr)
    (hks : ks.map (fun k => X.N[k]?) = fr.map some) (hi : PI X tg iter wi) (hg : ∀ C s₂ H₂ ex pn, PG (cJ X (xs ++ fr) scope cl C s₂ H₂ ex pn) tg g)
    (ht : ∀ C s₂ H₂ ex pn, PTs (cJ X (xs ++ fr) scope cl C s₂ H₂ ex pn) ifs tt) (he : ∀ C s₂ H₂ ex pn, PE (cJ X (xs ++ fr) scope cl C s₂ H₂ ex pn) elt te)
    (hs : ∀ x, foldedSetIterable iter X.env x = pure x := by intro _; rfl) : PE X (.ListComp elt [⟨tg, iter, ifs, 0⟩] scope pos) (g_ wi xs.length g ks tt te) := by
  intro pins s σ H Q I h
  rw [eval_ListComp]
  refine qY hc S hks hi hg ht he hs I h none _ fun D C H' s' mC f J fp hn q => ⟨mC, hn, fun h' sb => ?_⟩
  obtain ⟨f0, f1, f2, f3, f4, f5⟩ := fp
  exact ⟨.ref D, H', J.turned (t' := s'.toks) (fun b o hb e => (sb.2 b hb).trans e) f0 f1 f3 f4 f5, rfl, q⟩
theorem lh {i0 : Nat} {x0 : Str} {px0 pos0 : Pos} {X : Cx} {elt iter : Expr} {x : Str} {xs : List Str} {tg : Expr} {g : TG} {pos : Pos} {ifs : List Expr} {scope : Scope} {cl : List (Str × Addr)} {fr : List Str} {ks : List Nat} {wi : TI} {tt : TT} {te : TE} (hN : X.N.Nodup) (hi0 : X.N[i0]? = some x0) (hx0 : Loc X.env.scope x0) (hc : X.calm = true) (S : CompScope X scope cl x fr)
    (hks : ks.map (fun k => X.N[k]?) = fr.map some) (hi : PI X tg iter wi) (hg : ∀ C s₂ H₂ ex pn, PG (cJ X (xs ++ fr) scope cl C s₂ H₂ ex pn) tg g)
    (ht : ∀ C s₂ H₂ ex pn, PTs (cJ X (xs ++ fr) scope cl C s₂ H₂ ex pn) ifs tt) (he : ∀ C s₂ H₂ ex pn, PE (cJ X (xs ++ fr) scope cl C s₂ H₂ ex pn) elt te)
    (hs : ∀ x, foldedSetIterable iter X.env x = pure x := by intro _; rfl)
    (hsw : swapsWith (.ListComp elt [⟨tg, iter, ifs, 0⟩] scope pos) (some (.Name x0 px0)) pos0.line X.env = pure true := by rfl) (hf : X.fn x0 = true \/ X.env.scope.names.lookup x0 = some .local := by first | exact .inl rfl | exact .inr rfl | assumption) :
    PS X (.Assign [.Name x0 px0] (.ListComp elt [⟨tg, iter, ifs, 0⟩] scope pos) pos0) (Bt (g_ wi xs.length g ks tt te) (lL i0)) := by
  intro pins s σ H D I h
  rw [exec_Assign_Name_used _ _ _ _ hsw]
  refine wpAny_bind (wpAny_standAt (wpAny_bind (wpAny_bind ?_)))
  refine qY hc S hks hi hg ht he hs I h (some (assign (.Name x0 px0) X.env)) _ fun D' C H' s' mC f J fp hn q => ?_
  obtain ⟨f0, f1, f2, f3, f4, f5⟩ := fp
  refine wpAny_assign_Name (qQ J hN hi0 hx0 (v := .ref D') rfl (fun s7 I7 ⟨a, sb, ha⟩ => ?_) hf)
  have hCa : C ≠ a := by
    rcases ha with e | e
    . rw [e]; exact f1
    . exact fun z => f4 _ _ e z.symm
  refine ⟨mC, hn.sameBut sb hCa, fun h' sb2 => ?_⟩
  have J2 := I7.turned (t' := s7.toks) (fun b o hb e => (sb2.2 b hb).trans e) f0 f1 f3 f4 f5
  exact wpAny_pure (wpAny_pure ⟨_, H', J2, q⟩)
end L2
set_option Elab.async false
set_option linter.all false
set_option maxRecDepth 100000
namespace L2
open PySem PySem.Spec PyProof.Rows Builtin Builtin.Str
section
variable {prog : Program} {w : World} {A : Around} {E : Value -> Shared -> Prop} {s : Shared} {t : Addr}
theorem xW {xs : Array (Int × Tok)} {Q : Value -> Shared -> Prop} (hh : A.handled = none) (ht : s.heap.IsList t (intItems xs))
    (h : ∀ h' tk t', (∀ b o, s.heap.get? b = some o -> h'.get? b = some o) -> Q (.int (preSum (numAt xs) xs.size) t') { s with heap := h', toks := tk }) :
    wpAny (model prog w) A (call (.builtin "sum") [.ref t]) Q E s := by
  obtain ⟨o, ho, hc, n, hd⟩ := id ht
  have hne : t ≠ s.heap.objs.size := Nat.ne_of_lt (Heap.lt_size ho)
  have hsz : (intItems xs).size = xs.size := by simp [intItems]
  have W := (Walks.list (prog := prog) (w := w) (A := A.in1) hh s.heap.objs.size t hne (intItems xs)).toS
  rw [hsz] at W
  refine call_sum_walkAnyS (wpAny_pyIter_list ht ?_)
  refine ⟨s.heap.objs.size, _, _, _, _, _, _, numAt xs, rfl, W, ⟨⟨_, Heap.get?_push_size _ rfl, rfl, rfl⟩, ht.at fun o e => Heap.get?_push_of_some _ e⟩, fun b hb => ?_, fun i v hP => intItems_at hP, fun s' t' hm => ?_⟩
  . rcases List.mem_cons.mp hb with rfl | hb
    . exact Heap.lt_size (Heap.get?_push_size _ rfl)
    . obtain rfl := List.mem_singleton.mp hb
      exact Heap.lt_size (Heap.get?_push_of_some _ ho)
  . obtain ⟨h', g', d', tk', os'⟩ := s'
    have e1 : g' = s.gens := hm.gens
    have e2 : d' = s.drawn := hm.drawn
    have e3 : os' = s.os := hm.os
    subst e1 e2 e3
    exact h h' tk' t' fun b o e => hm.heap b o (fun hb => absurd (Heap.lt_size e) ((List.mem_singleton.mp hb) ▸ Nat.lt_irrefl _)) (Heap.get?_push_of_some _ e)
end
section
variable {X : Cx} {e a b c : Expr} {pos : Pos}
def D6 (K : PySem.W.Frag) : List V -> Hp -> VK -> Prop
  | [.ref p], H, Q => ∃ ns : List Int, (SqL K H p (ns.map V.int) \/ SqT K H p (ns.map V.int)) /\ Q (.int ns.sum) H
  | _, _, _ => False
theorem rR (K : PySem.W.Frag) (hc : X.calm = true) (hK : X.K = K := by rfl) : CallR X (.builtin "sum") (D6 K) := by
  subst hK
  intro pins s σ H xs us Q I r h
  unfold D6 at h
  split at h
  . rename_i p
    obtain ⟨ns, hq, q⟩ := h
    rcases hq with hq | hq
    . obtain ⟨u, rfl, rx⟩ := eU r
      cases (show u = Value.ref p from rx)
      obtain ⟨its, r', pl, hz⟩ := I.list hq
      have hi := n8 r'
      obtain ⟨ys, hy⟩ := hi.allInts.items
      have hn : numsOf its.toArray.toList = ns := by rw [show its.toArray.toList = its from rfl, hi.numsOf]
      have pl' := pl.isList
      rw [hy] at pl' hn
      rw [nums_intItems] at hn
      refine xW (I.ok.hd hc) pl' fun h' tk t' hk => ?_
      rw [preSum_eq, List.take_of_length_le (by simp), hn]
      exact ⟨.int ns.sum, H, I.kept hk, ⟨_, rfl⟩, q⟩
    . exact ro hc pins s σ H _ us Q I r ⟨p, ns, rfl, hq, q⟩
  . exact h.elim
def zH (K : PySem.W.Frag) (neg : Bool) : R2
  | x, .ref p, H, Q => ∃ xs, (SqL K H p xs \/ SqT K H p xs) /\ eF x = true /\ xs.all eF = true /\ Q (.bl (neg ^^ inV x xs)) H
  | _, _, _, _ => False
theorem rD (K : PySem.W.Frag) (hK : X.K = K := by rfl) : OpR X (compareOp .In) (zH K false) := by
  subst hK
  refine yD.imp fun x y H Q h => ?_
  unfold zH at h
  split at h
  . obtain ⟨xs, h1, h2, h3, q⟩ := h
    exact ⟨_, xs, rfl, h1, h2, h3, by simpa using q⟩
  . exact h.elim
theorem mM (K : PySem.W.Frag) (hK : X.K = K := by rfl) : OpR X (compareOp .NotIn) (zH K true) := by
  subst hK
  refine sA.imp fun x y H Q h => ?_
  unfold zH at h
  split at h
  . obtain ⟨xs, h1, h2, h3, q⟩ := h
    exact ⟨_, xs, rfl, h1, h2, h3, by simpa using q⟩
  . exact h.elim
section
variable {T name id : String} {r : V -> List V -> Hp -> VK -> Prop} {o : Expr} {to : TE} {apos cpos : Pos}
end
end
end L2
namespace L2
theorem dD {l : List PySem.Str} (h : l.Nodup) : l.Nodup := h
end L2
namespace L2
def sp5 (f : V -> V -> V -> V -> V -> Hp -> VK -> XK -> Prop) : Sp := fun vs H Q E => match vs with
  | [x, y, z, u, v] => f x y z u v H Q E
  | _ => False
theorem sp5.inv {vs : List V} {H : Hp} {Q : VK} {E : XK} {f} (h : sp5 f vs H Q E) : ∃ x y z u v, vs = [x, y, z, u, v] /\ f x y z u v H Q E := by
  unfold sp5 at h; split at h
  . exact ⟨_, _, _, _, _, rfl, h⟩
  . exact h.elim
theorem sp5.len {vs : List V} {H : Hp} {Q : VK} {E : XK} {f} (h : sp5 f vs H Q E) : vs.length = 5 := by obtain ⟨_, _, _, _, _, rfl, _⟩ := sp5.inv h; rfl
theorem mB {n : PySem.Str} {v : V} {l : List (PySem.Str × V)} : List.lookup n ((n, v) :: l) = some v := by simp [List.lookup]
theorem bB {n m : PySem.Str} {v : V} {l : List (PySem.Str × V)} (h : (n == m) = false) : List.lookup n ((m, v) :: l) = List.lookup n l := by simp [List.lookup, h]
end L2
set_option Elab.async false
set_option linter.all false
set_option maxRecDepth 100000
set_option maxHeartbeats 1000000
namespace L2
open PySem PySem.Spec PyProof.Rows
structure FW (k : Nat) (A : Around) : Prop where
  dp : A.depth + 3 * k + 5 < recursionLimit
  un : A.units + 16 * k + 200 < cLine
section
variable {X : Cx} {CX : CXT} {k : Nat} {f : Addr} {fd : FuncData} {ps : List Str} {sp : Sp} {dvs : List V} {ds : List Value} {E : XKs} {x : Str} {p pos : Pos} {e : Expr} {es : List Expr} {t : TA}
end
end L2
set_option Elab.async false
set_option linter.all false
set_option maxRecDepth 100000
set_option maxHeartbeats 1000000
namespace L2
open PySem PySem.Spec PyProof.Rows
section
variable {X : Cx} {tg : Expr}
end
end L2
namespace L2
theorem ex1 {α : Type} {us : List α} (hl : us.length = 1) : ∃ a0, us = [a0] := by
  match us, hl with
  | [a0], _ => exact ⟨a0, rfl⟩
theorem ex2 {α : Type} {us : List α} (hl : us.length = 2) : ∃ a0 a1, us = [a0, a1] := by
  match us, hl with
  | [a0, a1], _ => exact ⟨a0, a1, rfl⟩
theorem ex3 {α : Type} {us : List α} (hl : us.length = 3) : ∃ a0 a1 a2, us = [a0, a1, a2] := by
  match us, hl with
  | [a0, a1, a2], _ => exact ⟨a0, a1, a2, rfl⟩
theorem ex4 {α : Type} {us : List α} (hl : us.length = 4) : ∃ a0 a1 a2 a3, us = [a0, a1, a2, a3] := by
  match us, hl with
  | [a0, a1, a2, a3], _ => exact ⟨a0, a1, a2, a3, rfl⟩
theorem ex5 {α : Type} {us : List α} (hl : us.length = 5) : ∃ a0 a1 a2 a3 a4, us = [a0, a1, a2, a3, a4] := by
  match us, hl with
  | [a0, a1, a2, a3, a4], _ => exact ⟨a0, a1, a2, a3, a4, rfl⟩
end L2
set_option Elab.async false
set_option linter.all false
namespace L2
open Lean Meta Simp
def De : List Name := [`L2.DB, `L2.tC, `L2.tOp, `L2.tUn, `L2.gEqN, `L2.xm, `L2.zF, `L2.Fl, `L2.fOr, `L2.Fk, `L2.zR, `L2.fPickT, `L2.E4, `L2.Fn, `L2.ES, `L2.tRetN, `L2.Cf, `L2.Cm, `L2.Bt, `L2.lL, `L2.tIf, `L2.Fc, `L2.tOr, `L2.Fm, `L2.zd, `L2.yX, `L2.tCB, `L2.zw, `L2.Ff, `L2.EX, `L2.ER, `L2.Cs, `L2.tIsB, `L2.Cz, `L2.xl, `L2.tSl, `L2.cs, `L2.DG, `L2.CMul, `L2.DJ, `L2.zi, `L2.tTry, `L2.gcE, `L2.E8, `L2.tGc, `L2.tBM, `L2.Cq, `L2.fJoinRev, `L2.CDivB, `L2.wL, `L2.Dq, `L2.Cb, `L2.E2, `L2.gSub, `L2.rSetL, `L2.Ct, `L2.Cw, `L2.vS, `L2.v5, `L2.tDGet1, `L2.za, `L2.B8, `L2.tBM0, `L2.rClear]
def Dj : List Name := [`L2.Do, `L2.gI, `L2.gIC, `L2.Ed, `L2.gLe, `L2.gLt, `L2.eqS, `L2.kB, `L2.FQ, `L2.DO, `L2.DI, `L2.Bz, `L2.Bm, `L2.gInt, `L2.gIx, `L2.sp0, `L2.sp1, `L2.sp2, `L2.sp3, `L2.sp4, `L2.asI, `L2.asT, `L2.asB, `L2.asR, `L2.tyV, `L2.gSt, `L2.gEn, `L2.gZf, `L2.gStr, `L2.Ac, `L2.gIn, `L2.gSl, `L2.FS, `L2.gMulS, `L2.Eg, `L2.gRep, `L2.gRepT, `L2.gIsiT, `L2.Ad, `L2.vN, `L2.DM, `L2.gStM, `L2.En, `L2.zM, `L2.xb, `L2.D6, `L2.gMulT]
def rdI := And.intro @L2.BW (And.intro @L2.Fz (And.intro @L2.V.bl.injEq (And.intro @L2.V.str.injEq (And.intro @L2.ym (And.intro @L2.EV (And.intro @L2.CO (And.intro @L2.D5 (And.intro @L2.Ei (And.intro @L2.Dk (And.intro @L2.nA (And.intro @L2.t0 (And.intro @L2.wo (And.intro @L2.v0 (And.intro @L2.uh (And.intro @L2.rE (And.intro @L2.uN (And.intro @L2.BR (And.intro @L2.mf (And.intro @L2.r8 (And.intro @L2.uP (And.intro @L2.t_ (And.intro @L2.se (And.intro @L2.pJ (And.intro @L2.sR (And.intro @L2.DC (And.intro @L2.ni (And.intro @L2.uy (And.intro @L2.wb (And.intro @L2.vI (And.intro @L2.tM (And.intro @L2.rn (And.intro @L2.um (And.intro @L2.AY (And.intro @L2.mL (And.intro @L2.sf (And.intro @L2.tF (And.intro @L2.tJ (And.intro @L2.rV (And.intro @L2.pP (And.intro @L2.rQ (And.intro @L2.zy (And.intro @L2.km (And.intro @L2.qc (And.intro @L2.rY (And.intro @L2.rK (And.intro @L2.p_ (And.intro @L2.pe (And.intro @L2.pX (And.intro @L2.Bj (And.intro @L2.lO (And.intro @L2.sh (And.intro @L2.tm (And.intro @L2.ur (And.intro @L2.sv (And.intro @L2.pF (And.intro @L2.rC (And.intro @L2.EE (And.intro @L2.Dd (And.intro @L2.Df (And.intro @L2.Ez (And.intro @L2.Bd (And.intro @L2.DY (And.intro @L2.BM (And.intro @L2.B0 (And.intro @L2.Bb (And.intro @L2.By (And.intro @L2.D9 (And.intro @L2.B4 (And.intro @L2.BO (And.intro @L2.BD (And.intro @true_and (And.intro @and_true (And.intro @and_self (And.intro @true_or (And.intro @or_true (And.intro @decide_eq_true_eq (And.intro @Bool.true_eq_false (And.intro @Bool.false_xor (And.intro @Bool.true_xor (And.intro @Bool.not_true (And.intro @Bool.not_false (And.intro @Bool.false_eq_true (And.intro @Bool.not_eq_true' (And.intro @decide_eq_false_iff_not @Classical.not_not))))))))))))))))))))))))))))))))))))))))))))))))))))))))))))))))))))))))))))))))))))
end L2
set_option Elab.async false
set_option linter.all false
set_option maxRecDepth 100000
namespace L2
namespace Srt
open PySem PyProof.Rows
def kv (κ : Keyed -> Int) (xs : Array Keyed) (i : Nat) : Int := (xs[i]?.map κ).getD 0
def Up (κ : Keyed -> Int) (xs : Array Keyed) (k : Nat) : Prop := ∀ i j, i <= j -> j < k -> kv κ xs i <= kv κ xs j
def Dn (κ : Keyed -> Int) (xs : Array Keyed) (k : Nat) : Prop := ∀ i j, i <= j -> j < k -> kv κ xs j <= kv κ xs i
structure SB (kd : SortKind) (z : Array Keyed) (t : SortSt) : Prop where
  pm : (arrOf t).Perm z
  kn : kindOf t = kd
  fl : failedOf t = none
  pn : pendingOf t = #[]
theorem SB.sz {kd : SortKind} {z : Array Keyed} {t : SortSt} (b : SB kd z t) : (arrOf t).size = z.size := b.pm.size_eq
theorem SB.put {kd : SortKind} {z : Array Keyed} {t : SortSt} {xs : Array Keyed} (b : SB kd z t) (p : xs.Perm (arrOf t)) : SB kd z (setArr t xs) :=
  ⟨p.trans b.pm, b.kn, b.fl, b.pn⟩
theorem rf {κ : Keyed -> Int} {xs : Array Keyed} {i : Nat} (h : i < xs.size) : kv κ xs i = κ xs[i] := by
  unfold kv; rw [Array.getElem?_eq_getElem h]; rfl
theorem wy {κ : Keyed -> Int} {xs ys : Array Keyed} {i j : Nat} (h : xs[i]? = ys[j]?) : kv κ xs i = kv κ ys j := by unfold kv; rw [h]
theorem yU {κ : Keyed -> Int} {xs : Array Keyed} {u d : Nat} (hs : u < xs.size) (hd : d <= u) (k : Nat) :
    kv κ (bubble xs u d) k = if k = u - d then kv κ xs u else if u - d < k /\ k <= u then kv κ xs (k - 1) else kv κ xs k := by
  have e := getElem?_bubble hs d hd k
  by_cases h1 : k = u - d
  . rw [if_pos h1] at e ⊢
    exact wy e
  . rw [if_neg h1] at e ⊢
    by_cases h2 : u - d < k /\ k <= u
    . rw [if_pos h2] at e ⊢
      exact wy e
    . rw [if_neg h2] at e ⊢
      exact wy e
theorem zE {κ : Keyed -> Int} {xs : Array Keyed} {n : Nat} (hj : n <= xs.size) {k : Nat} (hk : k < n) :
    kv κ (mirror xs 0 n ((n - 0) / 2)) k = kv κ xs (n - 1 - k) := by
  have e := getElem?_mirror_all (i := 0) hj k
  rw [if_pos ⟨Nat.zero_le _, hk⟩, Nat.zero_add] at e
  exact wy e
section
variable {prog : Program} {w : World} {A : Around} {E : Value -> Shared -> Prop} {s : Shared} {z : Array Keyed} {κ : Keyed -> Int} {kd : SortKind} {t : SortSt}
def Lts (prog : Program) (w : World) (A : Around) (s : Shared) (kd : SortKind) (κ : Keyed -> Int) (z : Array Keyed) : Prop :=
  ∀ (E : Value -> Shared -> Prop) (p q : Keyed) (Q : Bool -> Shared -> Prop), p ∈ z.toList -> q ∈ z.toList -> Q (decide (κ p < κ q)) s -> wpAny (model prog w) A (keyLt' kd p.1 q.1) Q E s
theorem SB.mem (b : SB kd z t) {i : Nat} (h : i < (arrOf t).size) : (arrOf t)[i] ∈ z.toList :=
  (Array.perm_iff_toList_perm.mp b.pm).mem_iff.mp (by simp)
theorem uz {i j : Nat} {Q : Option Bool -> SortSt -> Prop} (L : Lts prog w A s kd κ z) (b : SB kd z t) (hi : i < z.size) (hj : j < z.size)
    (h : Q (some (decide (kv κ (arrOf t) i < kv κ (arrOf t) j))) t) : wpS (model prog w) A E s (ltAt' i j) Q t := by
  have i' : i < (arrOf t).size := b.sz ▸ hi
  have j' : j < (arrOf t).size := b.sz ▸ hj
  rw [rf i', rf j'] at h
  rw [ltAt'_eq]
  refine wpS_bind (wpS_get ?_)
  show wpS (model prog w) A E s (elem' (arrOf t) i >>= fun p => elem' (arrOf t) j >>= fun q => lt' p q) Q t
  rw [elem'_eq, elem'_eq, Array.getElem?_eq_getElem i', Array.getElem?_eq_getElem j']
  refine wpS_bind (wpS_pure (wpS_bind (wpS_pure ?_)))
  rw [lt'_eq]
  refine wpS_bind (wpS_get ?_)
  rw [b.kn]
  exact wpS_bind (wpS_lift (wpAny_attempt (L _ _ _ _ (b.mem i') (b.mem j') ⟨rfl, wpS_pure h⟩)))
def rj (κ : Keyed -> Int) (z : Array Keyed) : Prop := (z.toList.map κ).Nodup
theorem apart (b : SB kd z t) (D : rj κ z) {i j : Nat} (hj : j < z.size) (h : i < j) : kv κ (arrOf t) i ≠ kv κ (arrOf t) j := by
  have j' : j < (arrOf t).size := b.sz ▸ hj
  have i' : i < (arrOf t).size := Nat.lt_trans h j'
  have d : ((arrOf t).toList.map κ).Nodup := ((Array.perm_iff_toList_perm.mp b.pm).map κ).nodup_iff.mpr D
  rw [rf i', rf j']
  intro e
  have := List.pairwise_iff_getElem.mp d i j (by simpa using i') (by simpa using j') h
  simp at this
  exact this e
theorem Be {xs : Array Keyed} {n : Nat} (u : Up κ xs n) (h : n = 0 \/ kv κ xs (n - 1) <= kv κ xs n) : Up κ xs (n + 1) := by
  intro i j a c
  by_cases e : j < n
  . exact u i j a e
  . have : j = n := by omega
    subst this
    by_cases e2 : i = j
    . subst e2; exact Int.le_refl _
    . exact Int.le_trans (u i (j - 1) (by omega) (by omega)) (h.resolve_left (by omega))
theorem xA {xs : Array Keyed} {n : Nat} (u : Dn κ xs n) (h : n = 0 \/ kv κ xs n <= kv κ xs (n - 1)) : Dn κ xs (n + 1) := by
  intro i j a c
  by_cases e : j < n
  . exact u i j a e
  . have : j = n := by omega
    subst this
    by_cases e2 : i = j
    . subst e2; exact Int.le_refl _
    . exact Int.le_trans (h.resolve_left (by omega)) (u i (j - 1) (by omega) (by omega))
theorem asc {a r : Nat} {Q : AscSt -> SortSt -> Prop} (L : Lts prog w A s kd κ z) (hr : r <= z.size) (ha : 1 <= a) (har : a <= r) (b : SB kd z t) (u : Up κ (arrOf t) a)
    (h : ∀ n, a <= n -> n <= r -> Up κ (arrOf t) n -> (n = r \/ kv κ (arrOf t) n < kv κ (arrOf t) (n - 1)) -> Q (none, n) t) : wpS (model prog w) A E s (ascLoop a r) Q t := by
  unfold ascLoop
  refine wpS_forRange (fun x c t' => t' = t /\ c = (none, x) /\ Up κ (arrOf t) x) ?_ ?_ ⟨rfl, rfl, u⟩
  . rintro x c t' x1 x2 ⟨rfl, rfl, u'⟩
    refine wpS_bind (uz L b (by omega) (by omega) ?_)
    by_cases l : kv κ (arrOf t') x < kv κ (arrOf t') (x - 1)
    . simp only [decide_eq_true l, if_true]
      exact wpS_pure (h x x1 (by omega) u' (.inr l))
    . simp only [decide_eq_false l, Bool.false_eq_true, if_false]
      exact wpS_pure ⟨rfl, rfl, Be u' (.inr (by omega))⟩
  . rintro c t' ⟨rfl, rfl, u'⟩
    rw [Nat.max_eq_right har] at u' ⊢
    exact h r har (Nat.le_refl _) u' (.inl rfl)
theorem t3 {n r : Nat} {Q : Option Nat -> SortSt -> Prop} (L : Lts prog w A s kd κ z) (hr : r <= z.size) (h1 : 1 <= n) (hn : n <= r) (b : SB kd z t) (u : Dn κ (arrOf t) n)
    (h : ∀ m t', SB kd z t' -> 1 <= m -> m <= r -> Up κ (arrOf t') m -> Q (some m) t') : wpS (model prog w) A E s (tail3 n r) Q t := by
  unfold tail3
  refine wpS_bind (wpS_reverse ?_)
  have b' := b.put (mirror_perm (arrOf t) 0 n ((n - 0) / 2))
  refine wpS_bind (asc L hr h1 hn b' ?_ fun m m1 m2 u' _ => wpS_pure (h m _ b' (by omega) m2 u'))
  intro i j a c
  have g : n <= (arrOf t).size := by rw [b.sz]; omega
  show kv κ (mirror (arrOf t) 0 n ((n - 0) / 2)) i <= kv κ (mirror (arrOf t) 0 n ((n - 0) / 2)) j
  rw [zE g (by omega), zE g c]
  exact u _ _ (by omega) (by omega)
theorem Fs {n r : Nat} {Q : DescSt -> SortSt -> Prop} (L : Lts prog w A s kd κ z) (D : rj κ z) (hr : r <= z.size) (h1 : 1 <= n) (hn : n <= r) (b : SB kd z t) (u : Dn κ (arrOf t) n)
    (h : ∀ m, n <= m -> m <= r -> Dn κ (arrOf t) m -> Q (none, m, 0) t) : wpS (model prog w) A E s (descLoop n r) Q t := by
  unfold descLoop
  refine wpS_forRange (fun x c t' => t' = t /\ c = (none, x, 0) /\ Dn κ (arrOf t) x) ?_ ?_ ⟨rfl, rfl, u⟩
  . rintro x c t' x1 x2 ⟨rfl, rfl, u'⟩
    dsimp only
    refine wpS_bind (uz L b (by omega) (by omega) ?_)
    by_cases l : kv κ (arrOf t') x < kv κ (arrOf t') (x - 1)
    . simp only [decide_eq_true l, if_true]
      rw [if_neg (Nat.lt_irrefl 0)]
      exact wpS_pure ⟨rfl, rfl, xA u' (.inr (Int.le_of_lt l))⟩
    . simp only [decide_eq_false l, Bool.false_eq_true, if_false]
      refine wpS_bind (uz L b (by omega) (by omega) ?_)
      have d := apart b D (i := x - 1) (j := x) (by omega) (by omega)
      simp only [decide_eq_true (show kv κ (arrOf t') (x - 1) < kv κ (arrOf t') x by omega), if_true]
      exact wpS_pure (h x x1 (by omega) u')
  . rintro c t' ⟨rfl, rfl, u'⟩
    rw [Nat.max_eq_right hn] at u' ⊢
    exact h r hn (Nat.le_refl _) u'
theorem count {r : Nat} {Q : Option Nat -> SortSt -> Prop} (L : Lts prog w A s kd κ z) (D : rj κ z) (hr : r <= z.size) (h1 : 1 <= r) (b : SB kd z t)
    (h : ∀ m t', SB kd z t' -> 1 <= m -> m <= r -> Up κ (arrOf t') m -> Q (some m) t') : wpS (model prog w) A E s (countRun' 0 r) Q t := by
  rw [countRun0_eq]
  refine wpS_bind (asc L hr (Nat.le_refl 1) h1 b (fun i j a c => by have : i = j := (by omega); subst this; exact Int.le_refl _) fun n n1 n2 u o => ?_)
  dsimp only
  by_cases e : n = r
  . rw [if_pos (by simpa using e)]
    exact wpS_pure (h n t b n1 n2 u)
  rw [if_neg (by simpa using e)]
  by_cases g : n > 1
  . rw [if_pos g]
    refine wpS_bind (uz L b (by omega) (by omega) ?_)
    have d := apart b D (i := 0) (j := n - 1) (by omega) (by omega)
    have l := u 0 (n - 1) (by omega) (by omega)
    simp only [decide_eq_true (show kv κ (arrOf t) 0 < kv κ (arrOf t) (n - 1) by omega), if_true]
    exact wpS_pure (h n t b n1 n2 u)
  . rw [if_neg g]
    have : n = 1 := by omega
    subst this
    unfold descPart
    refine wpS_bind (wpS_lift (wpAny_rule ⟨rfl, ?_⟩))
    refine wpS_bind (Fs L D hr (by omega) (by omega) b ?_ fun m m1 m2 u' => ?_)
    . refine xA (fun i j a c => by have : i = j := (by omega); subst this; exact Int.le_refl _) (.inr ?_)
      have := o.resolve_left e
      omega
    . dsimp only
      rw [if_neg (Nat.lt_irrefl 0)]
      exact t3 L hr (by omega) m2 b u' h
theorem CP {n k₀ : Nat} {Q : Bool -> SortSt -> Prop} (L : Lts prog w A s kd κ z) (hn : n <= z.size) (hk : k₀ <= n) (h0 : 1 <= k₀) (b : SB kd z t) (u : Up κ (arrOf t) k₀)
    (h : ∀ t', SB kd z t' -> Up κ (arrOf t') n -> Q true t') : wpS (model prog w) A E s (binarySort' 0 n k₀) Q t := by
  rw [binarySort'_eq]
  simp only [Nat.zero_add]
  rw [Nat.max_eq_left h0]
  refine wpS_bind (wpS_mono (wpS_forRange (fun k c t' => c = (none, ()) /\ SB kd z t' /\ Up κ (arrOf t') k) (Q := fun c t' => c = (none, ()) /\ SB kd z t' /\ Up κ (arrOf t') n) ?_ ?_ ⟨rfl, b, u⟩) ?_)
  . rintro k c t' k1 k2 ⟨rfl, b', u'⟩
    refine wpS_bind (wpS_mono (wpS_forRange (fun x c t2 => t2 = t' /\ ∃ l r, c = (none, l, r) /\ l <= r /\ r <= k /\ r - l <= k - x /\
        (∀ i, i < l -> kv κ (arrOf t') i <= kv κ (arrOf t') k) /\ ∀ i, r <= i -> i < k -> kv κ (arrOf t') k <= kv κ (arrOf t') i)
      (Q := fun c t2 => t2 = t' /\ ∃ l r, c = (none, l, r) /\ l <= k /\ (∀ i, i < l -> kv κ (arrOf t') i <= kv κ (arrOf t') k) /\ ∀ i, l <= i -> i < k -> kv κ (arrOf t') k <= kv κ (arrOf t') i) ?_ ?_
        ⟨rfl, 0, k, rfl, Nat.zero_le _, Nat.le_refl _, Nat.le_refl _, fun i q => absurd q (Nat.not_lt_zero _), fun i q q' => absurd q' (Nat.not_lt.mpr q)⟩) ?_)
    . rintro x c t2 _ x2 ⟨rfl, l, r, rfl, lr, rk, m, lo, hi⟩
      dsimp only
      by_cases g : l ≥ r
      . rw [if_pos g]
        have : l = r := by omega
        subst this
        exact wpS_pure ⟨rfl, l, l, rfl, rk, lo, hi⟩
      rw [if_neg g]
      refine wpS_bind (uz L b' (by omega) (by omega) ?_)
      by_cases q : kv κ (arrOf t2) k < kv κ (arrOf t2) ((l + r) / 2)
      . simp only [decide_eq_true q, if_true]
        exact wpS_pure ⟨rfl, l, (l + r) / 2, rfl, by omega, by omega, by omega, lo, fun i a c => Int.le_trans (Int.le_of_lt q) (u' _ _ a c)⟩
      . simp only [decide_eq_false q, Bool.false_eq_true, if_false]
        exact wpS_pure ⟨rfl, (l + r) / 2 + 1, r, rfl, by omega, by omega, by omega, fun i a => Int.le_trans (u' i ((l + r) / 2) (by omega) (by omega)) (by omega), hi⟩
    . rintro c t2 ⟨rfl, l, r, rfl, lr, rk, m, lo, hi⟩
      have : l = r := by omega
      subst this
      exact ⟨rfl, l, l, rfl, rk, lo, hi⟩
    . rintro c t2 ⟨rfl, l, r, rfl, lk, lo, hi⟩
      show wpS (model prog w) A E s (moveDown' k l >>= fun _ => pure (ForInStep.yield (none, ()))) _ t2
      rw [moveDown'_eq]
      refine wpS_bind (wpS_modify (wpS_pure ⟨rfl, b'.put (bubble_perm _ _ _), ?_⟩))
      have g : k < (arrOf t2).size := by rw [b'.sz]; omega
      intro i j a c
      show kv κ (bubble (arrOf t2) k (k - l)) i <= kv κ (bubble (arrOf t2) k (k - l)) j
      rw [yU g (by omega), yU g (by omega), Nat.sub_sub_self lk]
      by_cases e1 : i = l
      . rw [if_pos e1]
        by_cases e2 : j = l
        . rw [if_pos e2]; exact Int.le_refl _
        . rw [if_neg e2, if_pos (by omega)]; exact hi _ (by omega) (by omega)
      . rw [if_neg e1]
        by_cases e3 : l < i /\ i <= k
        . rw [if_pos e3, if_neg (by omega), if_pos (by omega)]; exact u' _ _ (by omega) (by omega)
        . rw [if_neg e3]
          by_cases e2 : j = l
          . rw [if_pos e2]; exact lo _ (by omega)
          . rw [if_neg e2]
            by_cases e4 : l < j /\ j <= k
            . rw [if_pos e4]; exact u' _ _ (by omega) (by omega)
            . rw [if_neg e4]; exact u' _ _ a (by omega)
  . rintro c t' ⟨e, b', u'⟩
    rw [Nat.max_eq_right hk] at u'
    exact ⟨e, b', u'⟩
  . rintro c t' ⟨rfl, b', u'⟩
    exact wpS_pure (h t' b' u')
theorem FM {Q : Unit -> SortSt -> Prop} (L : Lts prog w A s kd κ z) (D : rj κ z) (b : SB kd z t) (h2 : 2 <= z.size) (h64 : z.size < 64)
    (h : ∀ t', (arrOf t').Perm z -> failedOf t' = none -> Up κ (arrOf t') z.size -> Q () t') : wpS (model prog w) A E s sortRuns' Q t := by
  rw [sortRuns'_eq]
  refine wpS_bind (wpS_get ?_)
  dsimp only
  have mr : minRun' z.size z.size 0 = z.size := by
    obtain ⟨f, e⟩ : ∃ f, z.size = f + 1 := ⟨z.size - 1, by omega⟩
    rw [e, minRun'_succ, if_pos (by omega), Nat.add_zero]
  simp only [b.sz, mr]
  refine wpS_bind (wpS_mono (wpS_forRange
    (fun x c t' => (x = 0 /\ c = (none, 0) /\ SB kd z t') \/ (1 <= x /\ c = (none, z.size) /\ (arrOf t').Perm z /\ failedOf t' = none /\ pendingOf t' = #[(0, z.size, 0)] /\ Up κ (arrOf t') z.size))
    (Q := fun c t' => c = (none, z.size) /\ (arrOf t').Perm z /\ failedOf t' = none /\ pendingOf t' = #[(0, z.size, 0)] /\ Up κ (arrOf t') z.size) ?_ ?_ (.inl ⟨rfl, rfl, b⟩)) ?_)
  . rintro x c t' _ x2 (⟨rfl, rfl, b'⟩ | ⟨x1, rfl, d⟩)
    . dsimp only
      rw [if_neg (by omega)]
      simp only [Nat.sub_zero, Nat.min_self, Nat.zero_add]
      refine wpS_bind (count L D (Nat.le_refl _) (by omega) b' fun m t2 b2 m1 m2 u2 => ?_)
      dsimp only
      by_cases g : m < z.size
      . rw [if_pos g]
        refine wpS_bind (wpS_lift (wpAny_rule ⟨rfl, ?_⟩))
        refine wpS_bind (CP L (Nat.le_refl _) m2 m1 b2 u2 fun t3 b3 u3 => ?_)
        simp only [Bool.not_true, Bool.false_eq_true, if_false]
        refine wpS_bind (wpS_get ?_)
        rw [show (pendingOf t3).back? = none by rw [b3.pn]; rfl]
        exact wpS_bind (wpS_modify (wpS_pure (.inr ⟨by omega, rfl, b3.pm, b3.fl, by show (pendingOf t3).push _ = _; rw [b3.pn]; rfl, u3⟩)))
      . rw [if_neg g]
        have : m = z.size := by omega
        subst this
        refine wpS_bind (wpS_get ?_)
        rw [show (pendingOf t2).back? = none by rw [b2.pn]; rfl]
        exact wpS_bind (wpS_modify (wpS_pure (.inr ⟨by omega, rfl, b2.pm, b2.fl, by show (pendingOf t2).push _ = _; rw [b2.pn]; rfl, u2⟩)))
    . dsimp only
      rw [if_pos (Nat.le_refl _)]
      exact wpS_pure ⟨rfl, d⟩
  . rintro c t' (⟨x, _, _⟩ | ⟨_, e, d⟩)
    . omega
    . exact ⟨e, d⟩
  . rintro c t' ⟨rfl, p1, p2, p3, p4⟩
    dsimp only
    refine wpS_bind (wpS_mono (wpS_forRange (fun _ c t2 => t2 = t' /\ c = (none, ())) (Q := fun c t2 => t2 = t' /\ c = (none, ())) ?_ (fun _ _ q => q) ⟨rfl, rfl⟩) ?_)
    . rintro x c t2 _ _ ⟨rfl, rfl⟩
      refine wpS_bind (wpS_get ?_)
      rw [if_pos (by rw [p3]; exact Nat.le_refl 1)]
      exact wpS_pure ⟨rfl, rfl⟩
    . rintro c t2 ⟨rfl, rfl⟩
      exact wpS_pure (h _ p1 p2 p4)
end
section
variable {prog : Program} {w : World} {A : Around} {E : Value -> Shared -> Prop} {s : Shared}
structure Cmp (prog : Program) (w : World) (h : Heap) (os : OsState) (kd : SortKind) (κ : Value -> Int) (vs : List Value) : Prop where
  kind : ∀ (A : Around) (E : Value -> Shared -> Prop) (s : Shared) (Q : SortKind -> Shared -> Prop), s.heap = h -> Q kd s -> wpAny (model prog w) A (keyKind' vs.toArray) Q E s
  lt : ∀ (A : Around) (E : Value -> Shared -> Prop) (s : Shared) (p q : Value) (Q : Bool -> Shared -> Prop), s.heap = h -> p ∈ vs -> q ∈ vs -> Q (decide (κ p < κ q)) s -> wpAny (model prog w) A (keyLt' kd p q) Q E s
theorem pairs_mem {vs : List Value} {p : Keyed} (h : p ∈ (vs.toArray.zip vs.toArray).toList) : p.1 ∈ vs /\ p.2 = p.1 := by
  rw [Array.toList_zip] at h
  simp at h
  rw [List.zip_eq_zipWith, List.zipWith_self] at h
  obtain ⟨a, ha, e⟩ := List.mem_map.mp h
  subst e
  exact ⟨ha, rfl⟩
theorem pairs_fst (vs : List Value) : (vs.toArray.zip vs.toArray).toList.map (·.1) = vs := by
  rw [Array.toList_zip]
  exact List.map_fst_zip (Nat.le_refl _)
theorem sort_by {a : Addr} {vs : List Value} {n : Nat} {kd : SortKind} {κ : Value -> Int} {P : Fin -> Shared -> Prop} (ho : s.heap.get? a = some (seqObj "list" vs.toArray n)) (h64 : vs.length < 64) (hd : (vs.map κ).Nodup)
    (hC : 2 <= vs.length -> Cmp prog w (((s.heap.update a (Obj.mapSeq fun _ => #[])).push (seqObj "tuple" vs.toArray 0)).push (seqObj "list" #[] 0)) s.os kd κ vs)
    (h : ∀ out : List Value, out.Perm vs -> out.Pairwise (fun x y => κ x < κ y) -> P (.done (.ret .none)) { s with heap := sortedHeap s.heap a vs out.toArray }) :
    wpAny (model prog w) A (Builtin.«list.sort» ⟨[.ref a], []⟩) P E s := by
  rw [list_sort_plain]
  have la : a < s.heap.objs.size := Heap.lt_size ho
  refine wpAny_bind (listItems_at ho rfl (wpAny_bind (listUpdate_at ho rfl ?_ (hsz := by rw [List.size_toArray, sizeLine_eq]; omega))))
  obtain ⟨e1, ho1⟩ : ∃ e, (s.heap.update a (Obj.mapSeq fun _ => #[])).get? a = some (seqObj "list" #[] e) := ⟨_, get?_update_seq ho fun _ => #[]⟩
  refine wpAny_bind (seqEpoch_at ho1 rfl (wpAny_bind (wpAny_newTuple (wpAny_bind (wpAny_newList (wpAny_holding ?_))) (by show vs.length <= _; rw [sizeLine_eq]; omega))))
  have ho3 : (((s.heap.update a (Obj.mapSeq fun _ => #[])).push (seqObj "tuple" vs.toArray 0)).push (seqObj "list" #[] 0)).get? a = some (seqObj "list" #[] e1) :=
    Heap.get?_push_of_some _ (Heap.get?_push_of_some _ ho1)
  show wpAny (model prog w) A _ P E { s with heap := ((s.heap.update a (Obj.mapSeq fun _ => #[])).push (seqObj "tuple" vs.toArray 0)).push (seqObj "list" #[] 0) }
  dsimp only
  have fin : ∀ t : SortSt, (arrOf t).Perm (vs.toArray.zip vs.toArray) -> failedOf t = none -> Up (fun p => κ p.1) (arrOf t) (vs.toArray.zip vs.toArray).size ->
      (((arrOf t).map (·.2)).toList.Perm vs /\ ((arrOf t).map (·.2)).toList.Pairwise fun x y => κ x < κ y) := fun t pm _ u => by
    have pl := Array.perm_iff_toList_perm.mp pm
    have e2 : ((arrOf t).map (·.2)).toList = (arrOf t).toList.map (·.1) := by
      rw [Array.toList_map]
      exact List.map_congr_left fun p hp => (pairs_mem (pl.mem_iff.mp hp)).2
    have p1 : ((arrOf t).map (·.2)).toList.Perm vs := by
      rw [e2]
      have := pl.map (·.1)
      rwa [pairs_fst] at this
    refine ⟨p1, ?_⟩
    have nd : (((arrOf t).map (·.2)).toList.map κ).Nodup := (p1.map κ).nodup_iff.mpr hd
    rw [e2] at nd ⊢
    have sz : (arrOf t).size = (vs.toArray.zip vs.toArray).size := pm.size_eq
    refine List.pairwise_iff_getElem.mpr fun i j hi hj hij => ?_
    have hi' : i < (arrOf t).size := by simpa using hi
    have hj' : j < (arrOf t).size := by simpa using hj
    have l := u i j (Nat.le_of_lt hij) (by omega)
    rw [rf hi', rf hj'] at l
    have d := List.pairwise_iff_getElem.mp nd i j (by simpa using hi) (by simpa using hj) hij
    simp at d l ⊢
    omega
  by_cases c2 : vs.toArray.size < 2
  . rw [if_pos c2, if_pos c2]
    refine wpAny_bind (wpAny_pure ?_)
    rw [StateT.run_pure]
    refine wpAny_bind (wpAny_pure ?_)
    dsimp only
    refine wpAny_bind (seqEpoch_at ho3 rfl ?_)
    obtain ⟨f1, f2⟩ := fin (SortSt.mk' general' (vs.toArray.zip vs.toArray) #[] 7 none) (Array.Perm.refl _) rfl fun i j hij hj => by
      have : i = j := by simp at hj c2; omega
      subst this; exact Int.le_refl _
    have sz2 : ((vs.toArray.zip vs.toArray).map (·.2)).size <= sizeLine + 1 := by simp; rw [sizeLine_eq]; omega
    refine wpAny_bind (listUpdate_at ho3 rfl ?_ (hsz := by rw [sizeLine_eq]; decide) (hsz2 := sz2))
    simp only [bne_self_eq_false, Bool.false_eq_true, if_false]
    exact wpAny_pure (h _ f1 f2)
  . rw [if_neg c2, if_neg c2]
    have C := hC (by simp at c2; omega)
    refine wpAny_bind (C.kind _ _ _ _ rfl ?_)
    have zs : (vs.toArray.zip vs.toArray).size = vs.length := by simp
    have L : Lts prog w A { s with heap := ((s.heap.update a (Obj.mapSeq fun _ => #[])).push (seqObj "tuple" vs.toArray 0)).push (seqObj "list" #[] 0) } kd (fun p => κ p.1) (vs.toArray.zip vs.toArray) :=
      fun E p q Q hp hq k => C.lt _ _ _ _ _ _ rfl (pairs_mem hp).1 (pairs_mem hq).1 k
    have D : rj (fun p => κ p.1) (vs.toArray.zip vs.toArray) := by
      unfold rj
      rw [show (vs.toArray.zip vs.toArray).toList.map (fun p => κ p.1) = ((vs.toArray.zip vs.toArray).toList.map (·.1)).map κ by rw [List.map_map]; rfl, pairs_fst]
      exact hd
    refine wpAny_bind (wpAny_mono (FM (z := vs.toArray.zip vs.toArray) (t := SortSt.mk' kd (vs.toArray.zip vs.toArray) #[] 7 none) (Q := fun _ t' => (arrOf t').Perm (vs.toArray.zip vs.toArray) /\ failedOf t' = none /\ Up (fun p => κ p.1) (arrOf t') (vs.toArray.zip vs.toArray).size)
      L D ⟨Array.Perm.refl _, rfl, rfl, rfl⟩ (by rw [zs]; simp at c2; omega) (by omega) fun t' a1 a2 a3 => ⟨a1, a2, a3⟩) ?_ fun _ _ e => e)
    rintro ⟨⟨⟩, t'⟩ s' ⟨rfl, a1, a2, a3⟩
    dsimp only
    refine wpAny_bind (seqEpoch_at ho3 rfl ?_)
    obtain ⟨f1, f2⟩ := fin t' a1 a2 a3
    have sz2 : ((arrOf t').map (·.2)).size <= sizeLine + 1 := by
      have := f1.length_eq
      rw [Array.length_toList] at this
      rw [this, sizeLine_eq]; omega
    refine wpAny_bind (listUpdate_at ho3 rfl ?_ (hsz := by rw [sizeLine_eq]; decide) (hsz2 := sz2))
    rw [a2]
    simp only [bne_self_eq_false, Bool.false_eq_true, if_false]
    exact wpAny_pure (h _ f1 f2)
end
end Srt
end L2
set_option Elab.async false
set_option linter.all false
set_option maxRecDepth 100000
namespace L2
namespace Srt
open PySem PyProof.Rows
def Two (h : Heap) (p : Addr) (x y : Int) : Prop := ∃ (o : Obj) (t u : Tok) (n : Nat), h.get? p = some o /\ o.cls = .type "tuple" /\ o.data = .seq #[.int x t, .int y u] n
section
variable {prog : Program} {w : World} {A : Around} {E : Value -> Shared -> Prop} {s : Shared}
end
end Srt
end L2
set_option Elab.async false
set_option linter.all false
set_option maxRecDepth 100000
namespace L2
namespace Srt
open PySem PyProof.Rows
section
variable {prog : Program} {w : World} {A : Around} {E : Value -> Shared -> Prop} {R : Result -> Shared -> Prop} {s : Shared} {I S ax : Addr} {items : Array Value} {h₀ : Heap} {κ : Value -> Int}
def Prs (h : Heap) (κ : Value -> Int) (lo : Int) (v : Value) : Prop := ∃ p x y, v = .ref p /\ Two h p x y /\ κ v = x * 64 + y /\ lo <= y /\ y < lo + 64
end
end Srt
end L2
set_option Elab.async false
set_option linter.all false
set_option maxRecDepth 100000
namespace L2
open PySem PyProof.Rows
section
variable {X : Cx} {pins : List (Addr × Obj)} {σ : St} {H : Hp} {s : Shared}
end
end L2
set_option Elab.async false
set_option linter.all false
set_option maxRecDepth 100000
namespace L2
open PySem PyProof.Rows
section
variable {X : Cx} {pins : List (Addr × Obj)} {σ : St} {H : Hp} {s : Shared}
def sN : Value -> List Nat
  | .str x _ => x.cps.toList
  | _ => []
def IsS (v : Value) : Prop := ∃ x t, v = .str x t
abbrev InO (ls : List (List Nat)) : Prop := ls.Pairwise fun a b => ¬ b < a
theorem uD : ∀ {vs : List Value}, (∀ v ∈ vs, IsS v) -> Vals ((vs.map sN).map T) vs
  | [], _ => .nil
  | v :: vs, h => by
    obtain ⟨x, t, rfl⟩ := h v (List.mem_cons_self ..)
    exact .cons ⟨t, rfl⟩ (uD fun u m => h u (List.mem_cons_of_mem _ m))
theorem uY : ∀ {ls : List (List Nat)} {vs : List Value}, Vals (ls.map T) vs -> (∀ v ∈ vs, IsS v) /\ vs.map sN = ls
  | [], _, .nil => ⟨(fun _ m => nomatch m), rfl⟩
  | l :: ls, _, .cons e t => by
    obtain ⟨k, rfl⟩ := e
    obtain ⟨a, b⟩ := uY t
    refine ⟨fun v m => ?_, by rw [List.map_cons, b]; rfl⟩
    rcases List.mem_cons.mp m with rfl | m
    . exact ⟨_, _, rfl⟩
    . exact a v m
theorem uI : ∀ {vs : List Value}, (∀ v ∈ vs, IsS v) -> ∃ ss, StrsAre vs ss
  | [], _ => ⟨[], .nil⟩
  | v :: vs, h => by
    obtain ⟨x, t, rfl⟩ := h v (List.mem_cons_self ..)
    obtain ⟨ss, r⟩ := uI fun u m => h u (List.mem_cons_of_mem _ m)
    exact ⟨x :: ss, .cons x t r⟩
theorem A4 {vs : List Value} (hv : ∀ v ∈ vs, IsS v) {xs : Array Keyed} (hp : xs.Perm (pairsOf vs)) (hs : SortedToK strKind xs (pairsOf vs).size) :
    (xs.map (·.2)).toList.Perm vs /\ InO ((xs.map (·.2)).toList.map sN) := by
  have pl : xs.toList.Perm (vs.toArray.zip vs.toArray).toList := Array.perm_iff_toList_perm.mp hp
  have e2 : (xs.map (·.2)).toList = xs.toList.map (·.1) := by
    rw [Array.toList_map]
    exact List.map_congr_left fun p m => (Srt.pairs_mem (pl.mem_iff.mp m)).2
  have p1 : (xs.map (·.2)).toList.Perm vs := by
    rw [e2]
    have := pl.map (·.1)
    rwa [Srt.pairs_fst] at this
  refine ⟨p1, ?_⟩
  rw [e2, List.map_map]
  have sz : xs.size = (pairsOf vs).size := hp.size_eq
  refine List.pairwise_iff_getElem.mpr fun i j hi hj hij => ?_
  have hi' : i < xs.size := by simpa using hi
  have hj' : j < xs.size := by simpa using hj
  have l := hs i j (Nat.le_of_lt hij) (by omega)
  have kk : ∀ k (h : k < xs.size), KK strKind xs k = sN xs[k].1 := fun k h => by
    have m : xs[k] ∈ xs.toList := by simp
    obtain ⟨x, t, e⟩ := hv _ (Srt.pairs_mem (pl.mem_iff.mp m)).1
    unfold KK
    rw [Array.getElem?_eq_getElem h]
    show (strKind.keyOf xs[k].1).getD strKind.dflt = _
    rw [e]; rfl
  rw [kk i hi', kk j hj'] at l
  have l' : decide (sN xs[j].1 < sN xs[i].1) = false := l
  simp only [List.getElem_map, Array.getElem_toList, Function.comp_apply]
  exact of_decide_eq_false l'
def Ey (K : PySem.W.Frag) : List V -> Hp -> VK -> Prop
  | [.ref p], H, Q => ∃ ls : List (List Nat), SqL K H p (ls.map T) /\ ls.length < 64 /\ ∀ out : List (List Nat), out.Perm ls -> InO out -> ∀ l, H l = none -> Q (.ref l) (upd H l (.lst (out.map T)))
  | _, _, _ => False
def vo : List V -> Hp -> VK -> Prop
  | [.ref d], H, Q => ∃ kvs : List (Key × V), H d = some (.dK kvs) /\ ∀ l, H l = none -> Q (.ref l) (upd H l (.lst (kvs.map fun e => kV e.1)))
  | _, _, _ => False
theorem lV {P : Program} {w : World} : ∀ {vs : List (Key × Value)} {us : List Value}, us.length = vs.length -> (∀ (j : Nat) (v : Value), us[j]? = some v -> ∃ k x, vs[j]? = some (k, x) /\ (bT P w).is k v = true) -> Vals (vs.map fun e => kV e.1) us
  | [], [], _, _ => .nil
  | e :: vs, u :: us, hl, h => by
    obtain ⟨k, x, e1, r⟩ := h 0 u rfl
    simp at e1
    subst e1
    refine .cons ?_ (lV (by simpa using hl) fun j v q => by simpa using h (j + 1) v (by simpa using q))
    cases k with
    | inl i => obtain ⟨t, z⟩ := Value.isInt_shape r; exact ⟨t, z⟩
    | inr x => obtain ⟨t, z⟩ := Value.isStrOf_shape r; exact ⟨t, z⟩
  | [], _ :: _, hl, _ => by simp at hl
  | _ :: _, [], hl, _ => by simp at hl
theorem zo (hc : X.calm = true) : CallR X (.type "list") vo := by
  intro pins s σ H xs us Q I r h
  unfold vo at h
  split at h
  . rename_i d
    obtain ⟨kvs, hd, q⟩ := h
    obtain ⟨u, rfl, rx⟩ := eU r
    cases (show u = Value.ref d from rx)
    obtain ⟨z, lo, vs, kv, D⟩ := xC I.hok hd
    obtain ⟨ep, hat⟩ := D.dictAt
    have len : vs.length = kvs.length := (KV.length kv).symm
    refine PySem.W.kdl_call (PySem.W.kdl_dict (knd := bT X.prog X.w) (kvs := vs) (ep := ep) lo) (I.ok.hd hc) hat (by omega) fun h' tk acc c kp ea it => ?_
    have ek : kvs.map (fun e => kV e.1) = vs.map fun e => kV e.1 := by
      have := congrArg (List.map kV) (KV.keys kv)
      simpa [List.map_map, Function.comp_def] using this
    refine ⟨.ref s.heap.objs.size, _, I.laid (t' := tk) kp (Nat.le_refl _) (show ObjOk X.prog X.w _ h' _ (.lst (kvs.map fun e => kV e.1)) from ⟨by rw [List.length_map]; exact z, acc.toList, c, ?_, by rw [Array.toArray_toList]; exact ea⟩), rfl, q _ (I.hok.fresh (Nat.le_refl _))⟩
    rw [ek]
    exact lV (P := X.prog) (w := X.w) (by rw [Array.length_toList]; exact it.1) fun j v e => it.2 j v (by rw [<- Array.getElem?_toList]; exact e)
  . exact h.elim
def vP : List V -> Hp -> VK -> Prop
  | [.ref d], H, Q => ∃ (kvs : List (Key × V)) (ls : List (List Nat)), H d = some (.dK kvs) /\ kvs.map (fun e => kV e.1) = ls.map T /\ ls.length < 64 /\ ∀ out : List (List Nat), out.Perm ls -> InO out -> ∀ l, H l = none -> Q (.ref l) (upd H l (.lst (out.map T)))
  | _, _, _ => False
theorem AT (hc : X.calm = true) : CallR X (.builtin "sorted") vP := by
  intro pins s σ H xs us Q I r h
  unfold vP at h
  split at h
  . rename_i d
    obtain ⟨kvs, ls, hd, hks, h64, q⟩ := h
    obtain ⟨u, rfl, rx⟩ := eU r
    cases (show u = Value.ref d from rx)
    obtain ⟨z, lo, vs, kv, D⟩ := xC I.hok hd
    obtain ⟨ep, hat⟩ := D.dictAt
    have len : vs.length = kvs.length := (KV.length kv).symm
    have ek : kvs.map (fun e => kV e.1) = vs.map fun e => kV e.1 := by
      have := congrArg (List.map kV) (KV.keys kv)
      simpa [List.map_map, Function.comp_def] using this
    refine Calls.call_function_entry kind_sorted plain_sorted entry_sorted (args_sorted1 _) ?_
    unfold Builtin.«sorted»
    refine wpAny_bind (m := checkCount "sorted" 1 1 _) (wpAny_pure ?_)
    refine wpAny_bind (PySem.W.kdu_collect (PySem.W.kdl_dict (knd := bT X.prog X.w) (kvs := vs) (ep := ep) lo) (I.ok.hd hc) hat (by omega) fun h' tk acc kp it => ?_)
    have rv : Vals (ls.map T) acc.toList := by
      rw [<- hks, ek]
      exact lV (P := X.prog) (w := X.w) (by rw [Array.length_toList]; exact it.1) fun j v e => it.2 j v (by rw [<- Array.getElem?_toList]; exact e)
    obtain ⟨hv, em⟩ := uY rv
    obtain ⟨ss, hS⟩ := uI hv
    have len2 : acc.toList.length < 64 := by have := rv.length; rw [List.length_map] at this; omega
    refine wpAny_bind (wpAny_newList ?_)
    have hoL : (h'.push (seqObj "list" acc.toList.toArray 0)).get? h'.objs.size = some (seqObj "list" acc.toList.toArray 0) := Heap.get?_push_size _ rfl
    refine wpAny_bind (wpAny_holding (wpAny_call_entry slot_list_sort ⟨_, hoL, rfl⟩ entry_list_sort (list_sort_treeK strKind_oneLt hoL hS.keysOf (fun v₁ v₂ rest e => keyKind_strs (by rw [<- e]; exact hS)) len2 fun st' hp hs => ⟨_, rfl, ?_⟩) (args_list_sort _)))
    refine wpAny_pure ⟨_, rfl, ?_⟩
    obtain ⟨p1, o1⟩ := A4 hv hp hs
    generalize hout : (arrOf st').map (·.2) = out at p1 o1
    obtain ⟨c, ea⟩ := sortedHeap_at (out := out) hoL
    have I1 : Inv X pins σ H { s with heap := h', toks := tk } := I.kept kp
    have kp2 : ∀ b o, h'.get? b = some o -> (sortedHeap (h'.push (seqObj "list" acc.toList.toArray 0)) h'.objs.size acc.toList out).get? b = some o := fun b o e => by
      have l1 := Heap.lt_size e
      rw [sortedHeap_old (Nat.ne_of_lt l1) (by rw [size_push']; exact Nat.lt_succ_of_lt l1), Heap.get?_push_ne _ _ _ (Nat.ne_of_lt l1)]
      exact e
    have hv2 : ∀ v ∈ out.toList, IsS v := fun v m => hv v (p1.mem_iff.mp m)
    have pm : (out.toList.map sN).Perm ls := by have := p1.map sN; rwa [em] at this
    refine ⟨.ref h'.objs.size, _, I1.laid (t' := tk) (a := h'.objs.size) kp2 (Nat.le_refl _) (show ObjOk X.prog X.w _ _ _ (.lst ((out.toList.map sN).map T)) from ⟨?_, out.toList, c, uD hv2, by rw [Array.toArray_toList]; exact ea⟩), rfl, q _ pm o1 _ (I1.hok.fresh (Nat.le_refl _))⟩
    rw [List.length_map, pm.length_eq, sizeLine_eq]; omega
  . exact h.elim
def DA (K : PySem.W.Frag) : List V -> Hp -> VK -> Prop
  | [.ref p], H, Q => ∃ bs : List Bool, SqL K H p (bs.map V.bl) /\ Q (.bl (bs.any id)) H
  | _, _, _ => False
theorem A6 (K : PySem.W.Frag) (hc : X.calm = true) (hK : X.K = K := by rfl) : CallR X (.builtin "any") (DA K) := by
  subst hK
  intro pins s σ H xs us Q I r h
  unfold DA at h
  split at h
  . rename_i p
    obtain ⟨bs, hq, q⟩ := h
    obtain ⟨u, rfl, rx⟩ := eU r
    cases (show u = Value.ref p from rx)
    obtain ⟨its, rv, pl, hz⟩ := I.list hq
    have hne : p ≠ s.heap.objs.size := Nat.ne_of_lt (by obtain ⟨_, e, _⟩ := pl.isList; exact Heap.lt_size e)
    have hb : LSm.BoolsAre its bs := nS rv
    refine call_any_walk (wpAny_pyIter_list pl.isList ?_)
    refine ⟨s.heap.objs.size, [s.heap.objs.size, p], [s.heap.objs.size], its.toArray.size, _, _, fun i => (bs[i]?).getD false, rfl, Walks.list (A := X.A.in1) (I.ok.hd hc) _ p hne its.toArray,
      ⟨⟨_, Heap.get?_push_size _ rfl, rfl, rfl⟩, pl.isList.push _⟩, fun i v s' Q' E' hP hQ => ?_, fun h' tk hk => ?_⟩
    . obtain ⟨b, e, rfl⟩ := hb.get i v (by simpa using hP)
      simp only [e, Option.getD_some] at hQ
      exact wpAny_truthy_bool hQ
    . have e : ((List.range its.toArray.size).any fun i => (bs[i]?).getD false) = bs.any id := by
        rw [List.size_toArray, hb.length]; exact LSm.range_any bs
      rw [e]
      exact ⟨.bl (bs.any id), H, I.kept (LSm.kept_iter hk), rfl, q⟩
  . exact h.elim
end
section
variable {X : Cx} {tg : Expr}
end
open Lean Meta Simp
def BK : List Name := De ++ [`L2.Fd, `L2.tDNotIn, `L2.CD, `L2.tTryN]
def BJ : List Name := Dj ++ [`L2.Ey, `L2.vP, `L2.vo, `L2.DA, `L2.zH, `L2.CZ]
end L2
set_option Elab.async false
set_option linter.all false
set_option maxRecDepth 100000
namespace L2
open PySem PyProof.Rows
section
variable {X : Cx} {pins : List (Addr × Obj)} {σ : St} {H : Hp} {s : Shared}
end
namespace Srt
section
variable {prog : Program} {w : World} {A : Around} {E : Value -> Shared -> Prop} {s : Shared}
end
end Srt
section
variable {X : Cx} {pins : List (Addr × Obj)} {σ : St} {H : Hp} {s : Shared}
end
end L2
set_option Elab.async false
set_option linter.all false
set_option maxRecDepth 100000
namespace L2
namespace Rv
open PySem PyProof.Rows
section
variable {prog : Program} {w : World} {A : Around} {E : Value -> Shared -> Prop} {s : Shared}
end
end Rv
open PySem PyProof.Rows
section
variable {X : Cx} {pins : List (Addr × Obj)} {σ : St} {H : Hp} {s : Shared}
end
end L2
set_option Elab.async false
set_option linter.all false
set_option maxRecDepth 100000
namespace L2
open PySem PyProof.Rows
def FE (J : It) (g : TG) (tb : TS) (D : fq) (σ : St) (H : Hp) : Prop := ∃ W : Nat -> Nat -> St -> Hp -> Prop, (∃ m, W 0 m σ H) /\ ∀ i m σ H, W i m σ H ->
  (J.stop i H /\ D.nx σ H) \/ (J.go i H /\ ∃ N : St -> Hp -> Prop, (∀ σ' H', N σ' H' -> ∃ m', m' < m /\ W (i + 1) m' σ' H') /\ ∀ x H', J.yld i H x H' -> g x σ H' fun σ2 H2 => tb { D with nx := N, ct := N, bk := D.nx } σ2 H2)
theorem lZ {J : It} {H1 : Hp} {D : Addr} {Q : VK} {σr : St} {tt : TT} {te : TE} (h : ∃ W : Nat -> Nat -> List V -> Hp -> Prop, (∃ m, W 0 m [] (upd H1 D (.lst []))) /\
      ∀ i m ys H2, W i m ys H2 -> H2 D = some (.lst ys) /\ ((J.stop i H2 /\ Q (.ref D) H2) \/ (J.go i H2 /\ ∀ x H3, J.yld i H2 x H3 ->
        tt (some x :: σr) H3 fun b H4 => if b = true then te (some x :: σr) H4 fun y H5 => H5 D = some (.lst ys) /\ ys.length < sizeLine /\ ∃ m', m' < m /\ W (i + 1) m' (ys ++ [y]) (upd H5 D (.lst (ys ++ [y])))
          else ∃ m', m' < m /\ W (i + 1) m' ys H4))) :
    ∃ W : Nat -> Nat -> List V -> Hp -> Prop, (∃ m, W 0 m [] (upd H1 D (.lst []))) /\
      ∀ i m ys H2, W i m ys H2 -> H2 D = some (.lst ys) /\ ((J.stop i H2 /\ Q (.ref D) H2) \/ (J.go i H2 /\ ∀ x H3, J.yld i H2 x H3 -> ∀ zs : St, zs.length = 1 ->
        lL 0 x (zs ++ σr) H3 fun σ4 H4 => (∃ zs4 : St, zs4.length = 1 /\ σ4 = zs4 ++ σr) /\
          tt σ4 H4 fun b H5 => if b = true then te σ4 H5 fun y H6 => H6 D = some (.lst ys) /\ ys.length < sizeLine /\ ∃ m', m' < m /\ W (i + 1) m' (ys ++ [y]) (upd H6 D (.lst (ys ++ [y])))
            else ∃ m', m' < m /\ W (i + 1) m' ys H5)) := by
  obtain ⟨W, h0, h⟩ := h
  refine ⟨W, h0, fun i m ys H2 w => ?_⟩
  obtain ⟨h1, h2⟩ := h i m ys H2 w
  refine ⟨h1, h2.imp id fun ⟨g1, g2⟩ => ⟨g1, fun x H3 y zs hz => ?_⟩⟩
  obtain ⟨z, rfl⟩ := ex1 hz
  exact ⟨⟨[some x], rfl, rfl⟩, g2 x H3 y⟩
theorem cmS {tl : TE} {ks : List Nat} {σ : St} {H : Hp} {Q : VK} {tt : TT} {te : TE} (C : Hp -> Prop) (hC : ∀ D ys, H D = none -> C (upd H D (.lst ys))) (l : List Nat) (p : Nat -> Bool) (f : Nat -> V) (hl : ∀ R : VK, R (T l) H -> tl σ H R) (ha : ∀ c ∈ l, c < 128) (hz : l.length <= sizeLine)
    (hp : ∀ c ∈ l, ∀ H (R : Bool -> Hp -> Prop), C H -> R (p c) H -> tt (some (T [c]) :: ks.map fun k => (σ[k]?).join) H R) (hf : ∀ c ∈ l, p c = true -> ∀ H (R : VK), C H -> R (f c) H -> te (some (T [c]) :: ks.map fun k => (σ[k]?).join) H R)
    (q : ∀ D, H D = none -> Q (.ref D) (upd H D (.lst ((l.filter p).map f)))) : g_ (Fa tl) 1 (lL 0) ks tt te σ H Q := by
  refine hl _ ⟨by simpa [cs] using ha, fun D hD => ?_⟩
  have P : ∀ x ∈ l.map fun c => T [c], ∃ c ∈ l, x = T [c] := fun x hx => by
    obtain ⟨c, hc, rfl⟩ := List.mem_map.mp hx; exact ⟨c, hc, rfl⟩
  let hd : V -> Nat := fun v => match v with | .str y => (cs y).headD 0 | _ => 0
  have hhd : ∀ c, hd (T [c]) = c := fun c => rfl
  refine lZ (qX (zV l) C (fun v => p (hd v)) (fun v => f (hd v)) (by simpa using hz) (fun x hx H R c r => ?_) (fun x hx hb H R c r => ?_) D hD (fun ys => hC D ys hD) ?_)
  . obtain ⟨y, hy, rfl⟩ := P x hx
    exact hp y hy H R c r
  . obtain ⟨y, hy, rfl⟩ := P x hx
    exact hf y hy hb H R c r
  . have e : ((l.map fun c => T [c]).filter fun v => p (hd v)).map (fun v => f (hd v)) = (l.filter p).map f := by
      rw [List.filter_map, List.map_map]
      rfl
    rw [e]; exact q D hD
theorem cmL {K : PySem.W.Frag} {tl : TE} {ks : List Nat} {σ : St} {H H1 : Hp} {Q : VK} {tt : TT} {te : TE} (a : Addr) (vs : List V) (C : Hp -> Prop) (hC : ∀ D ys, H1 D = none -> C (upd H1 D (.lst ys))) (hT : ∀ H, C H -> SqL K H a vs) (p : V -> Bool) (f : V -> V)
    (hl : ∀ R : VK, R (.ref a) H1 -> tl σ H R) (h1 : SqL K H1 a vs) (hz : vs.length <= sizeLine)
    (hp : ∀ x ∈ vs, ∀ H (R : Bool -> Hp -> Prop), C H -> R (p x) H -> tt (some x :: ks.map fun k => (σ[k]?).join) H R) (hf : ∀ x ∈ vs, p x = true -> ∀ H (R : VK), C H -> R (f x) H -> te (some x :: ks.map fun k => (σ[k]?).join) H R)
    (q : ∀ D, H1 D = none -> Q (.ref D) (upd H1 D (.lst ((vs.filter p).map f)))) : g_ (oJ K tl) 1 (lL 0) ks tt te σ H Q :=
  hl _ ⟨a, rfl, ⟨vs, h1⟩, fun D hD => lZ (wl C (AB hT) p f hz hp hf D hD (fun ys => hC D ys hD) (q D hD))⟩
theorem FR {ta : TA} {ks : List Nat} {σ : St} {H : Hp} {Q : VK} {tt : TT} {te : TE} (C : Hp -> Prop) (hC : ∀ D ys, H D = none -> C (upd H D (.lst ys))) (lo hi : Int) (n : Nat) (hn : (hi - lo).toNat = n) (p : V -> Bool) (f : V -> V) (hl : ∀ R : List V -> Hp -> Prop, R [.int lo, .int hi] H -> ta σ H R) (hb : -(2 ^ 62) <= lo /\ lo < 2 ^ 62 /\ -(2 ^ 62) <= hi /\ hi < 2 ^ 62) (hz : n <= sizeLine)
    (hp : ∀ k : Nat, k < n -> ∀ H (R : Bool -> Hp -> Prop), C H -> R (p (.int (lo + k))) H -> tt (some (.int (lo + k)) :: ks.map fun k => (σ[k]?).join) H R) (hf : ∀ k : Nat, k < n -> p (.int (lo + k)) = true -> ∀ H (R : VK), C H -> R (f (.int (lo + k))) H -> te (some (.int (lo + k)) :: ks.map fun k => (σ[k]?).join) H R)
    (q : ∀ D, H D = none -> Q (.ref D) (upd H D (.lst ((((List.range n).map fun k : Nat => V.int (lo + k)).filter p).map f)))) : g_ (Cu ta) 1 (lL 0) ks tt te σ H Q := by
  refine hl _ ⟨lo, hi, rfl, hb, ?_⟩
  rw [hn]
  intro D hD
  have P : ∀ x ∈ (List.range n).map fun k : Nat => V.int (lo + k), ∃ k : Nat, k < n /\ x = .int (lo + k) := fun x hx => by
    obtain ⟨c, hc, rfl⟩ := List.mem_map.mp hx; exact ⟨c, by simpa using hc, rfl⟩
  refine lZ (qX (yh lo n) C p f (by simpa using hz) (fun x hx H R c' r => ?_) (fun x hx hb H R c' r => ?_) D hD (fun ys => hC D ys hD) (q D hD))
  . obtain ⟨c, hc, rfl⟩ := P x hx
    exact hp c hc H R c' r
  . obtain ⟨c, hc, rfl⟩ := P x hx
    exact hf c hc hb H R c' r
inductive A2 {α β : Type} (R : α -> β -> Prop) : List α -> List β -> Prop
  | nil : A2 R [] []
  | cons {a : α} {b : β} {as : List α} {bs : List β} : R a b -> A2 R as bs -> A2 R (a :: as) (b :: bs)
namespace A2
variable {α β : Type} {R S : α -> β -> Prop}
theorem len {as : List α} {bs : List β} (h : A2 R as bs) : as.length = bs.length := by
  induction h with
  | nil => rfl
  | cons _ _ ih => simp [ih]
theorem imp {as : List α} {bs : List β} (h : A2 R as bs) (f : ∀ a b, a ∈ as -> b ∈ bs -> R a b -> S a b) : A2 S as bs := by
  induction h with
  | nil => exact .nil
  | cons r _ ih => exact .cons (f _ _ (.head _) (.head _) r) (ih fun a b ha hb => f a b (.tail _ ha) (.tail _ hb))
theorem at_ {as : List α} {bs : List β} (h : A2 R as bs) : ∀ {i : Nat} {a : α}, as[i]? = some a -> ∃ b, bs[i]? = some b /\ R a b := by
  induction h with
  | nil => intro i a e; simp at e
  | cons r _ ih =>
    intro i a e
    cases i with
    | zero => cases e; exact ⟨_, rfl, r⟩
    | succ i => exact ih (i := i) (by simpa using e)
theorem app {as : List α} {bs : List β} (h : A2 R as bs) {cs : List α} {ds : List β} (g : A2 R cs ds) : A2 R (as ++ cs) (bs ++ ds) := by
  induction h with
  | nil => exact g
  | cons r _ ih => exact .cons r ih
theorem snoc {as : List α} {bs : List β} {a : α} {b : β} (h : A2 R as bs) (r : R a b) : A2 R (as ++ [a]) (bs ++ [b]) := h.app (.cons r .nil)
end A2
def sp6 (f : V -> V -> V -> V -> V -> V -> Hp -> VK -> XK -> Prop) : Sp := fun vs H Q E => match vs with
  | [x, y, z, u, v, a] => f x y z u v a H Q E
  | _ => False
def sp7 (f : V -> V -> V -> V -> V -> V -> V -> Hp -> VK -> XK -> Prop) : Sp := fun vs H Q E => match vs with
  | [x, y, z, u, v, a, b] => f x y z u v a b H Q E
  | _ => False
open Lean Meta Simp
def BE : List Name := BK ++ [`L2.iz, `Option.join]
def BH : List Name := BJ ++ [`L2.gCnt, `L2.gSortT, `L2.sp5, `L2.sp6, `L2.sp7]
def DP : Name -> Bool
  | .str _ s => s.startsWith "sp_"
  | _ => false
end L2
set_option Elab.async false
set_option linter.all false
set_option maxRecDepth 100000
namespace L2
open PySem PyProof.Rows Builtin Builtin.Str
section
variable {X : Cx}
end
end L2
set_option Elab.async false
set_option linter.all false
set_option maxRecDepth 100000
namespace L2
open PySem PyProof.Rows
section
variable {prog : Program} {w : World} {A : Around} {E : Value -> Shared -> Prop} {s : Shared} {it d : Addr} {i ep : Nat} {od : Obj} {es : Array DictEntry}
theorem xf {Q : Value -> Shared -> Prop} (lo : (d == sysModules) = false) (ho : s.heap.get? d = some od) (ex : od.ExactDict) (hd : od.data = .dict es ep)
    (q : Q (.ref s.heap.objs.size) { s with heap := s.heap.push { cls := .type "dict_keyiterator", data := .fields #[.ref d, .int 0 0, .int es.size 0, .int ep 0] } }) : wpAny (model prog w) A (pyIter (.ref d)) Q E s := by
  have ty : s.TypeIs (.ref d) "dict" := ⟨od, ho, ex.1⟩
  refine wpAny_pyIter_slot ty F.slot_dict_iter (wpAny_call_entry F.slot_dict_iter ty F.entry_dict_iter ?_ (F.args_dict_iter_1 _))
  unfold Builtin.«dict.__iter__» Builtin.Dict.dictSlotNone
  refine wpAny_bind (wpAny_bind (wpAny_notOrdered_dict ty ?_)); show wpAny _ _ (pure (Value.ref d)) _ _ s
  refine wpAny_pure ?_; show wpAny _ _ (Builtin.Dict.showsAll d >>= _) _ _ s
  unfold Builtin.Dict.showsAll; rw [if_neg (by rw [lo]; exact Bool.false_ne_true)]
  refine wpAny_bind (wpAny_pure (wpAny_bind (wpAny_dictEntries ho hd (wpAny_bind (wpAny_dictEpoch ho hd ?_)))))
  refine wpAny_bind (wpAny_newObj_type (wpAny_pure ⟨_, rfl, "dict_keyiterator", _, ⟨_, Heap.get?_push_size _ rfl, rfl⟩, F.slot_dict_keyiterator_next.lookup, by simpa [rawInt] using q⟩))
theorem wv {e : DictEntry} {Q : Option Value -> Shared -> Prop} (hi : s.heap.IsKeyIter it d i es.size ep) (hod : s.heap.get? d = some od) (hdd : od.data = .dict es ep) (hx : es[i]? = some e)
    (q : ∀ h', h'.IsKeyIter it d (i + 1) es.size ep -> Heap.SameBut it s.heap h' -> Q (some e.key) { s with heap := h' }) : wpAny (model prog w) A (pyNext (.ref it)) Q E s := by
  obtain ⟨o, ho, hc, hd⟩ := id hi
  have ty := hi.typeIs
  unfold pyNext
  refine wpAny_bind (wpAny_attempt (wpAny_callSpecial?_slot (name := Str.ofString "__next__") ty F.slot_dict_keyiterator_next (wpAny_call_entry F.slot_dict_keyiterator_next ty F.entry_dict_keyiterator_next ?_ (F.args_dict_keyiterator_next_1 _))))
  refine wpAny_bind (wpAny_pure (wpAny_bind (wpAny_bind ?_)))
  first | refine wpAny_bind (wpAny_typeNameOfWhole_keyiter ty (wpAny_pure (wpAny_bind (wpAny_fieldsOf ho hd ?_)))) | refine wpAny_bind (wpAny_typeNameOf_keyiter ty (wpAny_pure (wpAny_bind (wpAny_fieldsOf ho hd ?_))))
  simp only [show Builtin.Dict_items.ownsTuple "dict_keyiterator" = false by decide, Bool.false_eq_true, if_false]
  show wpAny _ _ (if (Value.ref d == Value.none) = true then _ else _) _ _ s; rw [if_neg (show ¬ ((Value.ref d == Value.none) = true) from Bool.false_ne_true)]
  refine wpAny_bind (wpAny_pure (wpAny_bind (wpAny_dictEntries hod hdd ?_))); rw [if_neg (by simp)]
  refine wpAny_bind (wpAny_pure (wpAny_bind (wpAny_dictEpoch hod hdd ?_))); rw [if_neg (by simp)]
  refine wpAny_pure ?_
  have lt : i < es.size := (Array.getElem?_eq_some_iff.mp hx).1
  have ee : es[i] = e := (Array.getElem?_eq_some_iff.mp hx).2
  simp only [show ¬ ((i : Int) < 0) from by omega, if_false, Int.toNat_natCast, Array.getElem?_eq_getElem lt]; refine wpAny_bind ?_
  first | refine wpAny_bind (wpAny_typeNameOfWhole_keyiter ty (wpAny_pure (wpAny_bind (wpAny_isOneOf_keyiter ty ?_)))) | refine wpAny_bind (wpAny_typeNameOf_keyiter ty (wpAny_pure (wpAny_bind (wpAny_isOneOf_keyiter ty ?_))))
  show wpAny _ _ (setField (.ref it) 1 (rawInt ((i : Int) + 1)) >>= _) _ _ s; refine wpAny_bind (wpAny_setField ho hd (by simp) ?_)
  have hi' : (s.heap.update it (Obj.mapFields (·.setIfInBounds 1 (rawInt ((i : Int) + 1))))).IsKeyIter it d (i + 1) es.size ep := ⟨_, Heap.get?_update_self _ ho (Obj.isFreed_of_fields (Obj.data_mapFields hd _)), (Obj.cls_mapFields ..).trans hc, by rw [Obj.data_mapFields hd]; simp [rawInt]⟩
  refine wpAny_bind (wpAny_holding (wpAny_bind (wpAny_isOneOf_keyiter (s := { s with heap := s.heap.update it (Obj.mapFields (·.setIfInBounds 1 (rawInt ((i : Int) + 1)))) }) hi'.typeIs ?_)))
  show wpAny _ _ (pure es[i].key) _ _ _; rw [ee]
  exact wpAny_pure (wpAny_pure ⟨_, rfl, wpAny_pure (q _ hi' (Heap.SameBut.update ..))⟩)
theorem zv {Q : Option Value -> Shared -> Prop} (hh : A.handled = none) (hi : s.heap.IsKeyIter it d i es.size ep) (hod : s.heap.get? d = some od) (hdd : od.data = .dict es ep) (hx : es.size <= i)
    (q : ∀ h', Heap.ExtBut it s.heap h' -> Q none { s with heap := h' }) : wpAny (model prog w) A (pyNext (.ref it)) Q E s := by
  obtain ⟨o, ho, hc, hd⟩ := id hi
  have ty := hi.typeIs
  unfold pyNext
  refine wpAny_bind (wpAny_attempt (wpAny_callSpecial?_slot (name := Str.ofString "__next__") ty F.slot_dict_keyiterator_next (wpAny_call_entry F.slot_dict_keyiterator_next ty F.entry_dict_keyiterator_next ?_ (F.args_dict_keyiterator_next_1 _))))
  refine wpAny_bind (wpAny_pure (wpAny_bind (wpAny_bind ?_)))
  first | refine wpAny_bind (wpAny_typeNameOfWhole_keyiter ty (wpAny_pure (wpAny_bind (wpAny_fieldsOf ho hd ?_)))) | refine wpAny_bind (wpAny_typeNameOf_keyiter ty (wpAny_pure (wpAny_bind (wpAny_fieldsOf ho hd ?_))))
  simp only [show Builtin.Dict_items.ownsTuple "dict_keyiterator" = false by decide, Bool.false_eq_true, if_false]
  show wpAny _ _ (if (Value.ref d == Value.none) = true then _ else _) _ _ s; rw [if_neg (show ¬ ((Value.ref d == Value.none) = true) from Bool.false_ne_true)]
  refine wpAny_bind (wpAny_pure (wpAny_bind (wpAny_dictEntries hod hdd ?_))); rw [if_neg (by simp)]
  refine wpAny_bind (wpAny_pure (wpAny_bind (wpAny_dictEpoch hod hdd ?_))); rw [if_neg (by simp)]
  refine wpAny_pure ?_
  simp only [show ¬ ((i : Int) < 0) from by omega, if_false, Int.toNat_natCast, Array.getElem?_eq_none hx]; refine wpAny_bind ?_
  first | refine wpAny_bind (wpAny_typeNameOfWhole_keyiter ty (wpAny_pure ?_)) | refine wpAny_bind (wpAny_typeNameOf_keyiter ty (wpAny_pure ?_))
  show wpAny _ _ (setField (.ref it) 0 .none >>= _) _ _ s; refine wpAny_bind (wpAny_setField ho hd (by simp) ?_)
  show wpAny _ _ (newExc (.type "StopIteration") [] >>= _) _ _ _; refine wpAny_bind ?_
  simp only [newExc, newTuple]; refine wpAny_bind (wpAny_newObj_type ?_ (by size_fits))
  refine wpAny_bind (m := firstArgMember _ _) (wpAny_of_eq (a := Value.none) (by first | rfl | (simp only [firstArgMember]; rfl)) (wpAny_newObj_type ?_ (by size_fits)))
  simp only [raiseNew]; refine wpAny_bind (wpAny_handled ?_)
  rw [show A.in1.handled = none from hh]; refine wpAny_bind (wpAny_pure (wpAny_throw ?_))
  refine wpAny_bind (wpAny_isInstance (T := "StopIteration") (b := true) ⟨_, Heap.get?_push_size _ rfl, rfl⟩ isSubtype_stop (wpAny_pure (q _ (((Heap.SameBut.update ..).extBut.push _).push _))))
theorem zm (hh : A.handled = none) (I d : Addr) (ne : d ≠ I) (od : Obj) (es : Array DictEntry) (ep : Nat) (hdd : od.data = .dict es ep) :
    Walks prog w A I [I, d] [I] es.size (fun i v => ∃ e, es[i]? = some e /\ v = e.key) (fun i h => h.IsKeyIter I d i es.size ep /\ h.get? d = some od) where
  sub := fun b hb => by rw [List.mem_singleton.mp hb]; exact .head _
  frame := fun _ _ _ st hk => ⟨st.1.at fun o e => hk I (.head _) o e, hk d (.tail _ (.head _)) _ st.2⟩
  item := fun i s Q E hi st q => by
    have hx : es[i]? = some es[i] := by simp [hi]
    exact wv st.1 st.2 hdd hx fun h' a b => q _ h' s.toks ⟨_, hx, rfl⟩ ⟨a, (b.2 d ne).trans st.2⟩ fun c o hc z => (b.2 c fun y => hc (by rw [y]; exact .head _)).trans z
  done := fun s Q E st q => zv hh st.1 st.2 hdd (Nat.le_refl _) fun h' b => q h' s.toks fun c o hc z => b c o (fun y => hc (by rw [y]; exact .head _)) z
  self := fun _ _ _ _ st q => wpAny_pyIter_keyiter st.1 q
theorem Dt (lo : (d == sysModules) = false) (ex : od.ExactDict) (hd : od.data = .dict es ep) : PySem.W.KdlSrc prog w "dict" d d es.size (fun i v => ∃ e, es[i]? = some e /\ v = e.key) (fun h => h.get? d = some od) where
  type := fun _ h => ⟨od, h, ex.1⟩
  there := fun _ h => ⟨Heap.lt_size h, Heap.lt_size h⟩
  keep := fun _ _ h k => k d (.inl rfl) _ h
  notList := by decide
  notTuple := by decide
  hint := fun _ _ _ _ h q => PySem.W.kdl_hint_dict ⟨od, h, ex.1⟩ q
  iter := fun _ _ hh h => ⟨_, _, (fun _ _ q => xf lo h ex hd q), zm hh _ d (Nat.ne_of_lt (Heap.lt_size h)) od es ep hd, ⟨⟨_, Heap.get?_push_size _ rfl, rfl, rfl⟩, Heap.get?_push_of_some _ h⟩⟩
end
theorem Az {α : Type} {p q : α -> Bool} (h : ∀ e, p e = true -> q e = true) : ∀ {l : List α} {u : α}, u ∈ l -> q u = true -> p u = false -> l.countP p < l.countP q
  | x :: r, u, m, hq, hp => by
    rw [List.countP_cons, List.countP_cons]
    have le : r.countP p <= r.countP q := List.countP_mono_left fun e _ => h e
    rcases List.mem_cons.mp m with rfl | m
    . rw [if_pos hq, if_neg (by rw [hp]; decide)]; omega
    . have := Az h m hq hp
      by_cases c : p x = true
      . rw [if_pos c, if_pos (h x c)]; omega
      . rw [if_neg c]; split <;> omega
abbrev Pt := List Nat × List Nat
def ltP (a b : Pt) : Prop := a.1 < b.1 \/ (a.1 = b.1 /\ a.2 < b.2)
instance (a b : Pt) : Decidable (ltP a b) := by unfold ltP; infer_instance
theorem vX (a : Pt) : ¬ ltP a a := fun h => h.elim (List.lt_irrefl _) fun h => List.lt_irrefl _ h.2
theorem zW {a b c : Pt} (h : ltP a b) (g : ltP b c) : ltP a c := by
  unfold ltP at *
  rcases h with h | ⟨h1, h2⟩
  . rcases g with g | ⟨g1, g2⟩
    . exact .inl (List.lt_trans h g)
    . exact .inl (g1 ▸ h)
  . rcases g with g | ⟨g1, g2⟩
    . exact .inl (h1 ▸ g)
    . exact .inr ⟨h1.trans g1, List.lt_trans h2 g2⟩
theorem wM (a b : List Nat) : a < b \/ a = b \/ b < a := by
  by_cases h : a < b
  . exact .inl h
  . by_cases g : b < a
    . exact .inr (.inr g)
    . exact .inr (.inl (List.le_antisymm (List.not_lt.mp g) (List.not_lt.mp h)))
theorem xK (a b : Pt) : ltP a b \/ a = b \/ ltP b a := by
  obtain ⟨a1, a2⟩ := a
  obtain ⟨b1, b2⟩ := b
  rcases wM a1 b1 with h | rfl | h
  . exact .inl (.inl h)
  . rcases wM a2 b2 with h | rfl | h
    . exact .inl (.inr ⟨rfl, h⟩)
    . exact .inr (.inl rfl)
    . exact .inr (.inr (.inr ⟨rfl, h⟩))
  . exact .inr (.inr (.inl h))
def rnk (l : List Pt) (u : Pt) : Nat := l.countP fun e => decide (ltP e u)
theorem Ae {l : List Pt} {u v : Pt} (mu : u ∈ l) (h : ltP u v) : rnk l u < rnk l v :=
  Az (fun e he => decide_eq_true (zW (of_decide_eq_true he) h)) mu (decide_eq_true h) (decide_eq_false (vX u))
theorem nL {l : List Pt} {u v : Pt} (mu : u ∈ l) (mv : v ∈ l) : ltP u v ↔ (rnk l u : Int) < rnk l v := by
  refine ⟨fun h => by have := Ae mu h; omega, fun h => ?_⟩
  rcases xK u v with g | rfl | g
  . exact g
  . exact absurd h (Int.lt_irrefl _)
  . have := Ae mv g; omega
abbrev qa (l : List Pt) : Prop := l.Pairwise ltP
theorem gZ : ∀ {a b : List Pt}, a.Perm b -> qa a -> qa b -> a = b
  | [], _, p, _, _ => p.nil_eq
  | x :: r, b, p, ha, hb => by
    cases b with
    | nil => exact absurd p.length_eq (by simp)
    | cons y t =>
      have e : x = y := by
        rcases List.mem_cons.mp (p.mem_iff.mp (.head _)) with h | h
        . exact h
        . rcases List.mem_cons.mp (p.mem_iff.mpr (.head _)) with h' | h'
          . exact h'.symm
          . exact absurd (zW ((List.pairwise_cons.mp ha).1 y h') ((List.pairwise_cons.mp hb).1 x h)) (vX x)
      subst e
      rw [gZ (List.Perm.cons_inv p) (List.pairwise_cons.mp ha).2 (List.pairwise_cons.mp hb).2]
namespace Srt
def TwoS (h : Heap) (p : Addr) (e : Pt) : Prop := ∃ (o : Obj) (t u : Tok) (n : Nat), h.get? p = some o /\ o.cls = .type "tuple" /\ o.data = .seq #[.str ⟨⟨e.1⟩⟩ t, .str ⟨⟨e.2⟩⟩ u] n
section
variable {prog : Program} {w : World} {A : Around} {E : Value -> Shared -> Prop} {s : Shared}
theorem ug : ∀ (vs : List Value), (∀ v ∈ vs, ∃ p e, v = .ref p /\ TwoS s.heap p e) -> ∀ {Q : List (Option Value) -> Shared -> Prop}, (∀ fs ns, StrsAre fs ns -> fs.length = vs.length -> Q (fs.map some) s) ->
    wpAny (model prog w) A (vs.mapM firstOfTuple') Q E s
  | [], _, Q, h => by rw [List.mapM_nil]; exact wpAny_pure (h [] [] .nil rfl)
  | v :: vs, hv, Q, h => by
    obtain ⟨p, e, rfl, o, t, u, n, ho, hc, hd⟩ := hv v (List.mem_cons_self ..)
    rw [List.mapM_cons]
    refine wpAny_bind ?_
    show wpAny _ _ (typeOf (.ref p) >>= _) _ _ s
    refine wpAny_bind (wpAny_typeOf (⟨o, ho, hc⟩ : s.TypeIs (.ref p) "tuple") ?_)
    rw [if_neg (by decide)]
    refine wpAny_bind (listItems_at ho hd (wpAny_pure ?_))
    show wpAny _ _ (vs.mapM firstOfTuple' >>= fun bs => pure (some (Value.str ⟨⟨e.1⟩⟩ t) :: bs)) Q E s
    exact wpAny_bind (ug vs (fun v hv' => hv v (List.mem_cons_of_mem _ hv')) fun fs ns hI hl => wpAny_pure (h (.str ⟨⟨e.1⟩⟩ t :: fs) (⟨⟨e.1⟩⟩ :: ns) (.cons _ t hI) (by simp [hl])))
theorem Dr {vs : List Value} (hv : ∀ v ∈ vs, ∃ p e, v = .ref p /\ TwoS s.heap p e) (h2 : 2 <= vs.length) {Q : SortKind -> Shared -> Prop} (h : Q (tuples' true) s) : wpAny (model prog w) A (keyKind' vs.toArray) Q E s := by
  rw [keyKind'_eq, List.mapM_toArray, map_eq_pure_bind]
  refine wpAny_bind (wpAny_bind (ug vs hv fun fs ns hI hl => wpAny_pure ?_))
  rw [if_pos (by simp)]
  refine wpAny_bind (wpAny_rule ?_)
  have e : (fs.map some).toArray.filterMap id = fs.toArray := by simp
  rw [e, oneTypeOnly'_eq, List.mapM_toArray, mapM_typeOf_strs hI]
  simp only [map_pure, pure_bind]
  have all : ((fs.map fun _ => Value.type "str").toArray.all fun x => x == Value.type "str") = true := by
    simp only [List.all_toArray, List.all_map, List.all_eq_true]
    exact fun _ _ => rfl
  have at0 : (fs.map fun _ => Value.type "str").toArray[0]? = some (Value.type "str") := by
    have : 0 < fs.length := by omega
    simp [this]
  rw [at0]
  simp only [all, if_true, pure_bind]
  exact wpAny_pure h
theorem Aa {x y : List Nat} (h : x ≠ y) : decide ((⟨⟨x⟩⟩ : Str) = ⟨⟨y⟩⟩) = false := decide_eq_false fun z => h (by injection z with z; injection z)
theorem FJ {p q : Addr} {a b : Pt} {Q : Bool -> Shared -> Prop} (hp : TwoS s.heap p a) (hq : TwoS s.heap q b) (h : Q (decide (ltP a b)) s) :
    wpAny (model prog w) A (keyLt' (tuples' true) (.ref p) (.ref q)) Q E s := by
  obtain ⟨x, y⟩ := a
  obtain ⟨x', y'⟩ := b
  obtain ⟨o, t, u, n, ho, hc, hd⟩ := hp
  obtain ⟨o', t', u', n', ho', hc', hd'⟩ := hq
  show wpAny _ _ (Builtin.List.listItems (.ref p) >>= fun xs => Builtin.List.listItems (.ref q) >>= fun ys => _) _ _ s
  refine wpAny_bind (listItems_at ho hd (wpAny_bind (listItems_at ho' hd' ?_)))
  show wpAny _ _ (forIn [((Value.str ⟨⟨x⟩⟩ t, Value.str ⟨⟨x'⟩⟩ t'), 0), ((Value.str ⟨⟨y⟩⟩ u, Value.str ⟨⟨y'⟩⟩ u'), 1)] (none, ()) _ >>= _) _ _ s
  rw [List.forIn_cons]
  refine wpAny_bind (wpAny_bind (wpAny_bind (wpAny_eqBool_str ?_)))
  by_cases e : x = x'
  . subst e
    simp only [decide_true, Bool.not_true, Bool.false_eq_true, if_false]
    refine wpAny_pure ?_
    simp only [List.forIn_cons]
    refine wpAny_bind (wpAny_bind (wpAny_eqBool_str ?_))
    by_cases e2 : y = y'
    . subst e2
      simp only [decide_true, Bool.not_true, Bool.false_eq_true, if_false]
      refine wpAny_pure ?_
      simp only [List.forIn_nil]
      refine wpAny_pure (wpAny_pure ?_)
      rw [decide_eq_false (vX _)] at h
      exact h
    . simp only [Aa e2, Bool.not_false, if_true]
      refine wpAny_bind ?_
      show wpAny _ _ (oneLt' false (.str ⟨⟨y⟩⟩ u) (.str ⟨⟨y'⟩⟩ u')) _ _ s
      rw [oneLt'_eq]
      simp only [Bool.false_eq_true, if_false]
      refine wpAny_bind (PySem.P.lt_str (wpAny_truthy_bool (wpAny_pure (wpAny_pure (wpAny_pure ?_)))))
      rw [show decide (ltP (x, y) (x, y')) = decide (y < y') from decide_eq_decide.mpr ⟨fun z => z.elim (fun z => absurd z (List.lt_irrefl _)) (·.2), fun z => .inr ⟨rfl, z⟩⟩] at h
      exact h
  . simp only [Aa e, Bool.not_false, if_true]
    refine wpAny_bind ?_
    show wpAny _ _ (oneLt' true (.str ⟨⟨x⟩⟩ t) (.str ⟨⟨x'⟩⟩ t')) _ _ s
    refine oneLt_str (wpAny_pure (wpAny_pure (wpAny_pure ?_)))
    rw [show decide (ltP (x, y) (x', y')) = decide (x < x') from decide_eq_decide.mpr ⟨fun z => z.elim id fun z => absurd z.1 e, .inl⟩] at h
    exact h
theorem cmp_S {h : Heap} {os : OsState} {vs : List Value} {κ : Value -> Int} {f : Value -> Pt} (h2 : 2 <= vs.length) (hv : ∀ v ∈ vs, ∃ p, v = .ref p /\ TwoS h p (f v)) (hk : ∀ u ∈ vs, ∀ v ∈ vs, (ltP (f u) (f v) ↔ κ u < κ v)) : Cmp prog w h os (tuples' true) κ vs where
  kind A E s Q e q := by
    subst e
    exact Dr (fun v m => let ⟨p, a, b⟩ := hv v m; ⟨p, _, a, b⟩) h2 q
  lt A E s u v Q e mu mv q := by
    subst e
    obtain ⟨p, rfl, b⟩ := hv u mu
    obtain ⟨p', rfl, b'⟩ := hv v mv
    refine FJ b b' ?_
    rwa [decide_eq_decide.mpr (hk _ mu _ mv)]
end
end Srt
section
variable {X : Cx} {pins : List (Addr × Obj)} {σ : St} {H : Hp} {s : Shared}
abbrev tP (e : Pt) : List V := [T e.1, T e.2]
abbrev kP (e : Pt) : List Key := [.inr ⟨⟨e.1⟩⟩, .inr ⟨⟨e.2⟩⟩]
theorem Fe (e : Pt) : (kP e).map kV = tP e := rfl
theorem o4 {a b : Pt} (h : kP a = kP b) : a = b := by
  obtain ⟨a1, a2⟩ := a
  obtain ⟨b1, b2⟩ := b
  simp only [kP, List.cons.injEq, and_true] at h
  obtain ⟨h1, h2⟩ := h
  injection h1 with h1; injection h1 with h1; injection h1 with h1
  injection h2 with h2; injection h2 with h2; injection h2 with h2
  rw [h1, h2]
theorem DX {a b : Pt} (h : tP a = tP b) : a = b := o4 (w8 (by rw [Fe, Fe, h]))
abbrev KAt (H : Hp) (a : Addr) (e : Pt) : Prop := H a = some (.tup (tP e))
theorem Fi {H : Hp} {kvs : List (List Key × V)} {xs : List (List Key × Addr × Value)} (r : KT H kvs xs) : ∀ {ks : List Pt}, kvs.map (·.1) = ks.map kP ->
    ∃ ps : List (Addr × Pt), ps.map (·.2) = ks /\ xs.map (fun x => Value.ref x.2.1) = ps.map (fun e => Value.ref e.1) /\ (xs.map (·.1) = ks.map kP) /\ ∀ e ∈ ps, KAt H e.1 e.2 := by
  induction r with
  | nil =>
    intro ks h
    cases ks with
    | nil => exact ⟨[], rfl, rfl, rfl, fun _ m => nomatch m⟩
    | cons => simp at h
  | @cons p q ps qs h t ih =>
    intro ks e
    cases ks with
    | nil => simp at e
    | cons k ks =>
      rw [List.map_cons, List.map_cons] at e
      injection e with e1 e2
      obtain ⟨l, a1, a2, a3, a4⟩ := ih e2
      obtain ⟨h1, h2, _⟩ := h
      rw [e1] at h1 h2
      refine ⟨(q.2.1, k) :: l, by rw [List.map_cons, a1], by rw [List.map_cons, List.map_cons, a2], by rw [List.map_cons, List.map_cons, a3, h1], fun z m => ?_⟩
      rcases List.mem_cons.mp m with rfl | m
      . exact h2
      . exact a4 z m
def fOf (ps : List (Addr × Pt)) : Value -> Pt
  | .ref a => ((ps.find? fun e => e.1 == a).map (·.2)).getD ([], [])
  | _ => ([], [])
theorem yW {H : Hp} {ps : List (Addr × Pt)} (hp : ∀ e ∈ ps, KAt H e.1 e.2) {e : Addr × Pt} (m : e ∈ ps) : fOf ps (.ref e.1) = e.2 := by
  show ((ps.find? fun z => z.1 == e.1).map (·.2)).getD ([], []) = e.2
  cases f : ps.find? fun z => z.1 == e.1 with
  | none => exact absurd (List.find?_eq_none.mp f e m) (by simp)
  | some z =>
    have e1 : z.1 = e.1 := by simpa using List.find?_some f
    have t1 := hp z (List.mem_of_find?_eq_some f)
    have t2 := hp e m
    rw [e1] at t1
    have t3 := t1.symm.trans t2
    injection t3 with t3; injection t3 with t3
    exact DX t3
theorem CC {H : Hp} {ps : List (Addr × Pt)} (hp : ∀ e ∈ ps, KAt H e.1 e.2) : ∀ {out : List Value}, (∀ v ∈ out, v ∈ ps.map fun e => Value.ref e.1) -> ∃ as : List Addr, Vals (as.map V.ref) out /\ A2 (KAt H) as (out.map (fOf ps))
  | [], _ => ⟨[], .nil, .nil⟩
  | v :: out, h => by
    obtain ⟨as, a1, a2⟩ := CC hp fun u m => h u (List.mem_cons_of_mem _ m)
    obtain ⟨e, m, rfl⟩ := List.mem_map.mp (h v (List.mem_cons_self ..))
    refine ⟨e.1 :: as, .cons rfl a1, ?_⟩
    rw [List.map_cons, yW hp m]
    exact .cons (hp e m) a2
theorem Inv.twoS (I : Inv X pins σ H s) {p : Addr} {e : Pt} (h : KAt H p e) : Srt.TwoS s.heap p e := by
  obtain ⟨_, its, r0, o, ho, hc, n, hd⟩ := (show ObjOk X.prog X.w H s.heap p (.tup (tP e)) from I.hok p _ h)
  have r : Vals [T e.1, T e.2] its := r0
  clear r0
  cases r with
  | cons r1 r =>
    cases r with
    | cons r2 r =>
      cases r
      obtain ⟨t, rfl⟩ := r1
      obtain ⟨u, rfl⟩ := r2
      exact ⟨o, t, u, n, ho, hc, hd⟩
theorem Srt.TwoS.keep {h h' : Heap} {p : Addr} {e : Pt} (x : Srt.TwoS h p e) (k : ∀ b o, h.get? b = some o -> h'.get? b = some o) : Srt.TwoS h' p e := by
  obtain ⟨o, t, u, n, ho, r⟩ := x
  exact ⟨o, t, u, n, k _ _ ho, r⟩
def rp : List V -> Hp -> VK -> Prop
  | [.ref d], H, Q => ∃ (kvs : List (List Key × V)) (ks : List Pt), H d = some (.dT kvs) /\ kvs.map (·.1) = ks.map kP /\ ks.length < 64 /\
      ∀ (out : List Pt) (as : List Addr), out.Perm ks -> qa out -> A2 (KAt H) as out -> ∀ l, H l = none -> Q (.ref l) (upd H l (.lst (as.map V.ref)))
  | _, _, _ => False
theorem qm (hc : X.calm = true) : CallR X (.builtin "sorted") rp := by
  intro pins s σ H xs us Q I r h
  unfold rp at h
  split at h
  . rename_i d
    obtain ⟨kvs, ks, hd, hks, h64, q⟩ := h
    obtain ⟨u, rfl, rx⟩ := eU r
    cases (show u = Value.ref d from rx)
    obtain ⟨z, lo, xs, rel, o, es, ep, ho, ex, hdat, he, _, hn⟩ := Ck I.hok hd
    obtain ⟨ps, p1, p2, p3, p4⟩ := Fi rel hks
    have ndk : ks.Nodup := by
      rw [p3] at hn
      exact (List.pairwise_map.mp hn).imp fun h e => h (by rw [e])
    have len : es.size = ks.length := by
      rw [<- Array.length_toList, he, List.length_map, <- List.length_map (f := fun x => Value.ref x.2.1), p2, List.length_map, <- List.length_map (f := (·.2)), p1]
    refine Calls.call_function_entry kind_sorted plain_sorted entry_sorted (args_sorted1 _) ?_
    unfold Builtin.«sorted»
    refine wpAny_bind (m := checkCount "sorted" 1 1 _) (wpAny_pure ?_)
    refine wpAny_bind (PySem.W.kdu_collect (Dt lo ex hdat) (I.ok.hd hc) ho (by rw [len, sizeLine_eq]; omega) fun h' tk acc kp it => ?_)
    have ea : acc.toList = ps.map fun e => Value.ref e.1 := by
      rw [<- p2]
      have ek : xs.map (fun x => Value.ref x.2.1) = es.toList.map (·.key) := by rw [he, List.map_map]; rfl
      rw [ek]
      refine List.ext_getElem? fun j => ?_
      rw [List.getElem?_map, Array.getElem?_toList, Array.getElem?_toList]
      cases ej : acc[j]? with
      | none =>
        have : acc.size <= j := Array.getElem?_eq_none_iff.mp ej
        rw [it.1] at this
        rw [Array.getElem?_eq_none this]; rfl
      | some v =>
        obtain ⟨e, g1, g2⟩ := it.2 j v ej
        rw [g1, g2]; rfl
    have inv : ∀ e ∈ ps, fOf ps (.ref e.1) = e.2 := fun e m => yW p4 m
    have em : (ps.map fun e => Value.ref e.1).map (fOf ps) = ks := by
      rw [List.map_map, <- p1]
      exact List.map_congr_left fun e m => inv e m
    have mk : ∀ v ∈ ps.map (fun e => Value.ref e.1), fOf ps v ∈ ks := fun v m => by rw [<- em]; exact List.mem_map_of_mem m
    have nd : ((ps.map fun e => Value.ref e.1).map fun v => (rnk ks (fOf ps v) : Int)).Nodup := by
      rw [show (ps.map fun e => Value.ref e.1).map (fun v => (rnk ks (fOf ps v) : Int)) = ((ps.map fun e => Value.ref e.1).map (fOf ps)).map (fun e => (rnk ks e : Int)) by simp only [List.map_map]; rfl, em]
      refine List.pairwise_map.mpr (List.Pairwise.imp_of_mem (fun {a b} ma mb ne e => ?_) ndk)
      rcases xK a b with g | g | g
      . have := (nL ma mb).mp g; omega
      . exact ne g
      . have := (nL mb ma).mp g; omega
    have lv : (ps.map fun e => Value.ref e.1).length < 64 := by rw [List.length_map, <- List.length_map (f := (·.2)), p1]; exact h64
    rw [ea]
    refine wpAny_bind (wpAny_newList ?_ (by rw [sizeLine_eq]; omega))
    have hoL : (h'.push (seqObj "list" (ps.map fun e => Value.ref e.1).toArray 0)).get? h'.objs.size = some (seqObj "list" (ps.map fun e => Value.ref e.1).toArray 0) := Heap.get?_push_size _ rfl
    have kL : ∀ b ob, s.heap.get? b = some ob -> (((h'.push (seqObj "list" (ps.map fun e => Value.ref e.1).toArray 0)).update h'.objs.size (Obj.mapSeq fun _ => #[])).push (seqObj "tuple" (ps.map fun e => Value.ref e.1).toArray 0) |>.push (seqObj "list" #[] 0)).get? b = some ob := fun b ob e => by
      have l1 := Heap.lt_size (kp _ _ e)
      refine Heap.get?_push_of_some _ (Heap.get?_push_of_some _ ?_)
      rw [Heap.get?_update_ne _ _ _ _ (Nat.ne_of_lt l1)]
      exact Heap.get?_push_of_some _ (kp _ _ e)
    refine wpAny_bind (wpAny_holding (wpAny_call_entry slot_list_sort ⟨_, hoL, rfl⟩ entry_list_sort (Srt.sort_by (kd := tuples' true) (κ := fun v => (rnk ks (fOf ps v) : Int)) hoL lv nd (fun h2 => Srt.cmp_S (f := fOf ps) h2 (fun v m => ?_) fun u mu v mv => nL (mk u mu) (mk v mv)) fun out pm sr => ⟨_, rfl, ?_⟩) (args_list_sort _)))
    . obtain ⟨e, me, rfl⟩ := List.mem_map.mp m
      refine ⟨e.1, rfl, ?_⟩
      rw [inv e me]
      exact (I.twoS (p4 e me)).keep kL
    . refine wpAny_pure ⟨_, rfl, ?_⟩
      obtain ⟨c, el⟩ := sortedHeap_at (out := out.toArray) hoL
      have I1 : Inv X pins σ H { s with heap := h', toks := tk } := I.kept kp
      have kp2 : ∀ b o, h'.get? b = some o -> (sortedHeap (h'.push (seqObj "list" (ps.map fun e => Value.ref e.1).toArray 0)) h'.objs.size (ps.map fun e => Value.ref e.1) out.toArray).get? b = some o := fun b o e => by
        have l1 := Heap.lt_size e
        rw [sortedHeap_old (Nat.ne_of_lt l1) (by rw [size_push']; exact Nat.lt_succ_of_lt l1), Heap.get?_push_ne _ _ _ (Nat.ne_of_lt l1)]
        exact e
      obtain ⟨as, a1, a2⟩ := CC p4 (out := out) fun v m => pm.mem_iff.mp m
      have po : (out.map (fOf ps)).Perm ks := by have := pm.map (fOf ps); rwa [em] at this
      have so : qa (out.map (fOf ps)) := List.pairwise_map.mpr (List.Pairwise.imp_of_mem (fun {a b} ma mb l => (nL (mk a (pm.mem_iff.mp ma)) (mk b (pm.mem_iff.mp mb))).mpr l) sr)
      refine ⟨.ref h'.objs.size, _, I1.laid (t' := tk) (a := h'.objs.size) kp2 (Nat.le_refl _) (show ObjOk X.prog X.w _ _ _ (.lst (as.map V.ref)) from ⟨?_, out, c, a1, el⟩), rfl, q _ as po so a2 _ (I1.hok.fresh (Nat.le_refl _))⟩
      have := a1.length
      have := pm.length_eq
      rw [sizeLine_eq]; omega
  . exact h.elim
def B9 : V -> List V -> Hp -> VK -> Prop := fun x vs H Q => ∃ l b xs zs, x = .ref l /\ vs = [.ref b] /\ H l = some (.lst xs) /\ H b = some (.tup zs) /\ xs.length + zs.length <= sizeLine /\ Q .non (upd H l (.lst (xs ++ zs)))
theorem A9 : MtM X "list.extend" B9 := by
  intro pins s σ H x vs v us Q I rx rv h
  obtain ⟨l, b, xs, zs, rfl, rfl, hH, hB, hz, q⟩ := h
  cases rx
  obtain ⟨u, rfl, ru⟩ := rv.one
  cases ru
  obtain ⟨z, its, n, r, hl, e⟩ := I.lstM hH
  obtain ⟨z2, its2, r2, ⟨ob, eb, cb, n2, db⟩⟩ := (show ObjOk X.prog X.w H s.heap b (.tup zs) from I.hok b _ hB)
  have hl2 := r2.length
  have fin : Inv X pins σ (upd H l (.lst (xs ++ zs))) { s with heap := s.heap.update l (Obj.mapSeq (· ++ its2.toArray)) } := I.lset (its' := its ++ its2) hH e (by simp) (r.append r2) (by rw [List.length_append]; omega)
  refine wpAny_call_entry F.slot_list_extend ⟨_, e, rfl⟩ F.entry_list_extend ?_ (F.args_list_extend_2 _ _)
  show wpAny _ _ (Builtin.List.listExtendWith (.ref l) (.ref b) .none) _ _ s
  unfold Builtin.List.listExtendWith
  refine wpAny_bind (wpAny_typeOf ⟨ob, eb, cb⟩ ?_)
  rw [if_pos (by rw [show (Value.type "tuple" == Value.type "tuple") = true by decide, Bool.or_true])]
  refine wpAny_bind (listItems_at eb db (wpAny_bind (listItems_at e rfl ?_)))
  have hsz : its.toArray.size + its2.toArray.size <= sizeLine := by rw [List.size_toArray, List.size_toArray]; omega
  rw [if_neg (by rw [vg hsz, Bool.and_false]; exact Bool.false_ne_true)]
  refine wpAny_bind (listUpdate_at e rfl ?_ (hsz := by rw [List.size_toArray]; omega) (hsz2 := by rw [Array.size_append]; omega))
  exact wpAny_pure ⟨_, rfl, .non, _, fin, rfl, q⟩
end
def CEl (J : It) (n : Nat) (g : TG) (ks : List Nat) (tt : TT) (te : TE) (σ : St) (H1 : Hp) (Q : VK) : Prop := ∀ D, H1 D = none -> ∃ W : Nat -> Nat -> List V -> Hp -> Prop, (∃ m, W 0 m [] (upd H1 D (.lst []))) /\
  ∀ i m ys H2, W i m ys H2 -> H2 D = some (.lst ys) /\ ((J.stop i H2 /\ Q (.ref D) H2) \/ (J.go i H2 /\ ∀ x H3, J.yld i H2 x H3 -> ∀ zs : St, zs.length = n ->
    g x (zs ++ ks.map fun k => (σ[k]?).join) H3 fun σ4 H4 => (∃ zs4 : St, zs4.length = n /\ σ4 = zs4 ++ ks.map fun k => (σ[k]?).join) /\
      tt σ4 H4 fun b H5 => if b = true then te σ4 H5 fun y H6 => H6 D = some (.lst ys) /\ ys.length < sizeLine /\ ∃ m', m' < m /\ W (i + 1) m' (ys ++ [y]) (upd H6 D (.lst (ys ++ [y])))
        else ∃ m', m' < m /\ W (i + 1) m' ys H5))
theorem i9 {K : PySem.W.Frag} {tl : TE} {n : Nat} {g : TG} {ks : List Nat} {tt : TT} {te : TE} {σ : St} {H : Hp} {Q : VK} (h : tl σ H fun x H1 => ∃ a, x = .ref a /\ (∃ xs, SqL K H1 a xs) /\ CEl (Itl K a) n g ks tt te σ H1 Q) : g_ (oJ K tl) n g ks tt te σ H Q := h
theorem wY {K : PySem.W.Frag} {n : Nat} {g : TG} {ks : List Nat} {tt : TT} {te : TE} {σ : St} {H1 : Hp} {Q : VK} (a : Addr) (xs : List V) (P : Addr -> Nat -> List V -> Hp -> Prop) (hz : xs.length < sizeLine)
    (h0 : ∀ D, H1 D = none -> P D 0 [] (upd H1 D (.lst []))) (hD : ∀ D i ys H', P D i ys H' -> H' D = some (.lst ys) /\ SqL K H' a xs /\ ys.length <= i)
    (hs : ∀ D i y ys H' (zs : St) (N1 : VK) (N0 : Hp -> Prop), xs[i]? = some y -> P D i ys H' -> zs.length = n -> (∀ v H6, H6 D = some (.lst ys) -> P D (i + 1) (ys ++ [v]) (upd H6 D (.lst (ys ++ [v]))) -> N1 v H6) -> (∀ H6, P D (i + 1) ys H6 -> N0 H6) ->
      g y (zs ++ ks.map fun k => (σ[k]?).join) H' fun σ4 H4 => (∃ zs4 : St, zs4.length = n /\ σ4 = zs4 ++ ks.map fun k => (σ[k]?).join) /\ tt σ4 H4 fun b H5 => if b = true then te σ4 H5 N1 else N0 H5)
    (hd : ∀ D ys H', P D xs.length ys H' -> Q (.ref D) H') : CEl (Itl K a) n g ks tt te σ H1 Q := by
  intro D hDn
  refine ⟨fun i m ys H' => m = xs.length - i /\ i <= xs.length /\ P D i ys H', ⟨_, rfl, Nat.zero_le _, h0 D hDn⟩, ?_⟩
  rintro i m ys H' ⟨rfl, hi, p⟩
  obtain ⟨d1, d2, d3⟩ := hD D i ys H' p
  refine ⟨d1, ?_⟩
  rcases Nat.lt_or_ge i xs.length with lt | ge
  . refine .inr ⟨⟨xs, xs[i], d2, by simp [lt]⟩, ?_⟩
    rintro x H3 ⟨rfl, hx⟩ zs hzs
    exact hs D i x ys _ zs _ _ (hx xs d2) p hzs (fun v H6 h6 p6 => ⟨h6, by omega, _, by omega, rfl, lt, p6⟩) fun H6 p6 => ⟨_, by omega, rfl, lt, p6⟩
  . obtain rfl : i = xs.length := Nat.le_antisymm hi ge
    exact .inl ⟨⟨xs, d2, Nat.le_refl _⟩, hd D ys H' p⟩
section
variable {X : Cx} {pos : Pos}
end
open Lean Meta Simp
def Bn : List Name := BE ++ [`L2.zT, `L2.B9, `L2.tPar3]
def BS : List Name := BH ++ [`L2.rp, `L2.gRp]
def A7 (e : Lean.Expr) : MetaM (Option Lean.Expr) := do
  let .const n us := e.getAppFn | return none
  let fr := DP n || Bn.contains n
  unless fr || BS.contains n do return none
  let some (.defnInfo d) := (<- getEnv).find? n | return none
  let v := d.value.instantiateLevelParams d.levelParams us
  if e.getAppNumArgs < v.getNumHeadLambdas then return none
  let b := v.beta e.getAppArgs
  if fr then return some b
  match <- reduceMatcher? b with
  | .reduced r => return some r
  | .notMatcher => return some b
  | _ => return none
dsimproc_decl zg (_) := fun e => do
  match <- A7 e with
  | some r => return .visit r
  | none => return .continue
end L2
set_option Elab.async false
set_option linter.all false
namespace K19
open PySem L2
structure Row where
  pa : List Nat
  cu : List Nat
  am : Int
structure Bk where
  k : Int
  d : Int
  rs : List Row
def sg (a s : Int) (k : Nat) : Nat := 97 + ((a + s * k) % 26).toNat
def wd (a s : Int) (n : Nat) : List Nat := (List.range n).map fun k => sg a s k
def uq (d : List (Pt × Int)) (k : Pt) (v : Int) : List (Pt × Int) := if (d.any fun e => decide (e.1 = k)) = true then d.map (fun e => if e.1 = k then (e.1, v) else e) else d ++ [(k, v)]
def mn (d : List (Pt × Int)) (k : Pt) : Option Int := (d.find? fun e => decide (e.1 = k)).map (·.2)
def jp (e : Pt × Int) : List Key × V := (kP e.1, .int e.2)
theorem Bq (e : Pt × Int) (k : Pt) : decide ((jp e).1 = kP k) = decide (e.1 = k) := decide_eq_decide.mpr ⟨fun h => o4 h, fun h => by show kP e.1 = kP k; rw [h]⟩
theorem oC (d : List (Pt × Int)) (k : Pt) (v : Int) : fU (d.map jp) (kP k) (.int v) = (uq d k v).map jp := by
  unfold fU uq
  have e1 : ((d.map jp).any fun kv => decide (kv.1 = kP k)) = d.any fun e => decide (e.1 = k) := by
    rw [List.any_map]
    exact congrArg (d.any ·) (funext fun e => Bq e k)
  rw [e1]
  split
  . rw [List.map_map, List.map_map]
    apply List.map_congr_left
    intro e _
    show (if (jp e).1 = kP k then ((jp e).1, V.int v) else jp e) = jp (if e.1 = k then (e.1, v) else e)
    by_cases h : e.1 = k
    . rw [if_pos h, if_pos (by show kP e.1 = kP k; rw [h])]; rfl
    . rw [if_neg h]; exact if_neg fun z => h (o4 z)
  . rw [List.map_append]; rfl
theorem fS (k : Pt) : ∀ d : List (Pt × Int), eg (d.map jp) (kP k) = (mn d k).map V.int
  | [] => rfl
  | e :: r => by
    have ih := fS k r
    by_cases h : e.1 = k
    . rw [List.map_cons, b9 (by show kP e.1 = kP k; rw [h])]
      simp [mn, h, jp]
    . rw [List.map_cons, bY (fun z => h (o4 z)), ih]
      simp [mn, h]
def stp (d : List (Pt × Int)) (r : Row) : List (Pt × Int) := uq d (r.pa, r.cu) ((mn d (r.pa, r.cu)).getD 0 + r.am)
def dk (rs : List Row) : List (Pt × Int) := rs.foldl stp []
theorem ka (rs : List Row) (r : Row) : dk (rs ++ [r]) = stp (dk rs) r := by unfold dk; rw [List.foldl_append]; rfl
theorem yf (d : List (Pt × Int)) (k : Pt) (v : Int) : (uq d k v).map (·.1) = if k ∈ d.map (·.1) then d.map (·.1) else d.map (·.1) ++ [k] := by
  unfold uq
  have e : ((d.any fun e => decide (e.1 = k)) = true) ↔ k ∈ d.map (·.1) := by
    rw [List.any_eq_true]
    constructor
    . rintro ⟨x, hx, h⟩; exact List.mem_map.mpr ⟨x, hx, of_decide_eq_true h⟩
    . intro h
      obtain ⟨x, hx, h⟩ := List.mem_map.mp h
      exact ⟨x, hx, decide_eq_true h⟩
  by_cases h : k ∈ d.map (·.1)
  . rw [if_pos (e.mpr h), if_pos h, List.map_map]
    apply List.map_congr_left
    intro x _
    show (if x.1 = k then (x.1, v) else x).1 = x.1
    split <;> rfl
  . rw [if_neg fun z => h (e.mp z), if_neg h, List.map_append]; rfl
theorem xF {rs : List Row} {r : Row} : (dk (rs ++ [r])).map (·.1) = if (r.pa, r.cu) ∈ (dk rs).map (·.1) then (dk rs).map (·.1) else (dk rs).map (·.1) ++ [(r.pa, r.cu)] := by
  rw [ka]; exact yf _ _ _
theorem o7 {α : Type} {P : List α -> Prop} (h0 : P []) (h1 : ∀ l x, P l -> P (l ++ [x])) (l : List α) : P l := by
  have : ∀ r : List α, P r.reverse := by
    intro r
    induction r with
    | nil => exact h0
    | cons x r ih => rw [List.reverse_cons]; exact h1 _ _ ih
  have h := this l.reverse
  rwa [List.reverse_reverse] at h
theorem gE (rs : List Row) : ((dk rs).map (·.1)).Nodup /\ (∀ e ∈ (dk rs).map (·.1), ∃ r ∈ rs, e = (r.pa, r.cu)) /\ (dk rs).length <= rs.length := by
  induction rs using o7 with
  | h0 => exact ⟨.nil, (fun _ m => nomatch m), Nat.le_refl _⟩
  | h1 l x ih =>
    obtain ⟨i1, i2, i3⟩ := ih
    rw [<- List.length_map (f := (·.1)) (as := dk (l ++ [x])), xF]
    rw [<- List.length_map (f := (·.1))] at i3
    by_cases h : (x.pa, x.cu) ∈ (dk l).map (·.1)
    . rw [if_pos h]
      refine ⟨i1, fun e m => ?_, by rw [List.length_append]; omega⟩
      obtain ⟨r, hr, g⟩ := i2 e m
      exact ⟨r, List.mem_append_left _ hr, g⟩
    . rw [if_neg h]
      refine ⟨List.nodup_append.mpr ⟨i1, List.nodup_cons.mpr ⟨List.not_mem_nil, List.nodup_nil⟩, fun a ha b hb => by rw [List.mem_singleton.mp hb]; rintro rfl; exact h ha⟩, fun e m => ?_, by rw [List.length_append, List.length_append, List.length_singleton, List.length_singleton]; omega⟩
      rcases List.mem_append.mp m with m | m
      . obtain ⟨r, hr, g⟩ := i2 e m
        exact ⟨r, List.mem_append_left _ hr, g⟩
      . exact ⟨x, by simp, List.mem_singleton.mp m⟩
theorem qL {α : Type} [DecidableEq α] : ∀ {l m : List α}, l.Nodup -> (∀ x ∈ l, x ∈ m) -> l.length <= m.length
  | [], m, _, _ => Nat.zero_le _
  | x :: r, m, h, s => by
    obtain ⟨h1, h2⟩ := List.nodup_cons.mp h
    have hx := s x (.head _)
    have := qL (l := r) (m := m.erase x) h2 fun y hy => (List.mem_erase_of_ne (by rintro rfl; exact h1 hy)).mpr (s y (.tail _ hy))
    rw [List.length_erase_of_mem hx] at this
    have : 0 < m.length := List.length_pos_of_mem hx
    rw [List.length_cons]; omega
theorem uW (cu : List (List Nat)) : ∀ ps : List (List Nat), (ps.flatMap fun p => cu.map fun c => (p, c)).length = ps.length * cu.length
  | [] => by simp
  | p :: r => by rw [List.flatMap_cons, List.length_append, List.length_map, uW cu r, List.length_cons, Nat.succ_mul, Nat.add_comm]
theorem v3 {rs : List Row} {ps cu : List (List Nat)} (h : ∀ r ∈ rs, r.pa ∈ ps /\ r.cu ∈ cu) : (dk rs).length <= ps.length * cu.length := by
  obtain ⟨h1, h2, _⟩ := gE rs
  rw [<- uW, <- List.length_map (f := (·.1))]
  refine qL h1 fun e m => ?_
  obtain ⟨r, hr, rfl⟩ := h2 e m
  exact List.mem_flatMap.mpr ⟨r.pa, (h r hr).1, List.mem_map.mpr ⟨r.cu, (h r hr).2, rfl⟩⟩
theorem Ab {d : List (Pt × Int)} {k : Pt} (h : k ∈ d.map (·.1)) : ∃ n, mn d k = some n := by
  obtain ⟨e, he, rfl⟩ := List.mem_map.mp h
  unfold mn
  cases f : d.find? fun x => decide (x.1 = e.1) with
  | none => exact absurd (List.find?_eq_none.mp f e he) (by simp)
  | some z => exact ⟨z.2, rfl⟩
def val (rs : List Row) (k : Pt) : Int := (mn (dk rs) k).getD 0
def res (rs : List Row) (out : List Pt) : List Row := (out.filter fun k => decide (val rs k ≠ 0)).map fun k => ⟨k.1, k.2, val rs k⟩
theorem fo (rs : List Row) (out : List Pt) : (res rs out).length <= out.length := by unfold res; rw [List.length_map]; exact List.length_filter_le _ _
theorem we {rs : List Row} {k : Pt} (h : k ∈ (dk rs).map (·.1)) : mn (dk rs) k = some (val rs k) := by
  obtain ⟨n, e⟩ := Ab h
  unfold val; rw [e]; rfl
theorem ud (rs : List Row) (out : List Pt) (k : Pt) : res rs (out ++ [k]) = res rs out ++ if val rs k ≠ 0 then [⟨k.1, k.2, val rs k⟩] else [] := by
  unfold res
  rw [List.filter_append, List.map_append]
  congr 1
  by_cases h : val rs k ≠ 0
  . rw [if_pos h]; simp [h]
  . rw [if_neg h]; simp at h; simp [h]
def rsd (t : Int) (bs : List Bk) : List Row := bs.flatMap fun b => if b.d <= t then b.rs else []
theorem ui (t : Int) (bs : List Bk) (b : Bk) : rsd t (bs ++ [b]) = rsd t bs ++ if b.d <= t then b.rs else [] := by
  unfold rsd; rw [List.flatMap_append]; simp
theorem oU (t : Int) : ∀ bs : List Bk, (bs.filter fun b => decide (b.d <= t)).flatMap (·.rs) = rsd t bs
  | [] => rfl
  | b :: r => by
    have ih := oU t r
    unfold rsd at ih ⊢
    rw [List.flatMap_cons]
    by_cases h : b.d <= t
    . rw [if_pos h, List.filter_cons_of_pos (by simpa using h), List.flatMap_cons, ih]
    . rw [if_neg h, List.filter_cons_of_neg (by simpa using h), ih]; rfl
theorem BV {t : Int} {bs : List Bk} {r : Row} (h : r ∈ rsd t bs) : ∃ b ∈ bs, r ∈ b.rs := by
  obtain ⟨b, hb, hr⟩ := List.mem_flatMap.mp h
  refine ⟨b, hb, ?_⟩
  split at hr
  . exact hr
  . exact nomatch hr
end K19
set_option Elab.async false
set_option linter.all false
set_option maxRecDepth 100000
namespace L2
open PySem PyProof.Rows
theorem tW {H : Hp} {a : Addr} {o : HO} (h : H a = some o) : upd H a o = H := by
  funext b
  by_cases e : b = a
  . subst e; rw [ad, h]
  . rw [aj e]
def isD : HO -> Bool
  | .dK _ => true
  | .dT _ => true
  | _ => false
def gb : HO -> Nat
  | .dK kvs => kvs.length
  | .dT kvs => kvs.length
  | _ => 0
def rh (H : Hp) (u : HO) (i : Nat) (x v : V) : Prop := match u with
  | .dK kvs => ∃ k, kvs[i]? = some (k, v) /\ x = kV k
  | .dT kvs => ∃ k q, kvs[i]? = some (k, v) /\ x = .ref q /\ H q = some (.tup (k.map kV))
  | _ => False
theorem A1 {P : Program} {w : World} {k : Key} {u : Value} (h : (bT P w).is k u = true) : RelV (kV k) u := by
  cases k with
  | inl i => obtain ⟨t, z⟩ := Value.isInt_shape h; exact ⟨t, z⟩
  | inr x => obtain ⟨t, z⟩ := Value.isStrOf_shape h; exact ⟨t, z⟩
theorem CJ {α β : Type} {R : α -> β -> Prop} {xs : List α} {ys : List β} (h : Paired R xs ys) : ∀ {i : Nat} {y : β}, ys[i]? = some y -> ∃ x, xs[i]? = some x /\ R x y := by
  induction h with
  | nil => intro i y e; simp at e
  | cons r _ ih =>
    intro i y e
    cases i with
    | zero => cases e; exact ⟨_, rfl, r⟩
    | succ i => exact ih (i := i) (by simpa using e)
section
variable {X : Cx} {pins : List (Addr × Obj)} {σ : St} {H : Hp} {s : Shared} {a : Addr}
theorem xH (I : Inv X pins σ H s) {u : HO} (hu : isD u = true) (x : ObjOk X.prog X.w H s.heap a u) : ∃ (o : Obj) (es : Array DictEntry) (ep : Nat), s.heap.get? a = some o /\ o.ExactDict /\ o.data = .dict es ep /\ (a == sysModules) = false /\ es.size = gb u /\
    ∀ i e, es[i]? = some e -> ∃ x v, rh H u i x v /\ RelV x e.key /\ RelV v e.val := by
  cases u with
  | dK kvs =>
    obtain ⟨z, lo, vs, rel, o, es, ep, ho, ex, hd, hk, hp, hn⟩ := x
    have hl : es.size = vs.length := by rw [<- hp.length]; simp
    refine ⟨o, es, ep, ho, ex, hd, lo, by rw [hl]; exact rel.length.symm, fun i e he => ?_⟩
    have hi : i < vs.length := by rw [<- hl]; exact (Array.getElem?_eq_some_iff.mp he).1
    obtain ⟨p1, p2⟩ := hp.get? (e := e) (k := vs[i].1) (v := vs[i].2) (by rw [Array.getElem?_toList]; exact he) (by simp [hi])
    obtain ⟨⟨k, v⟩, hx, e1, e2⟩ := CJ rel (y := vs[i]) (List.getElem?_eq_getElem hi)
    have e1' : k = vs[i].1 := e1
    refine ⟨kV k, v, ⟨k, hx, rfl⟩, by rw [e1']; exact A1 p1, by rw [p2]; exact e2⟩
  | dT kvs =>
    obtain ⟨z, lo, xs, rel, o, es, ep, ho, ex, hd, he, hn⟩ := x
    have hl : es.size = xs.length := size_of_entries he
    refine ⟨o, es, ep, ho, ex, hd, lo, by rw [hl]; exact (Paired.length rel).symm, fun i e h => ?_⟩
    rw [entry_at he i] at h
    obtain ⟨q, hq, rfl⟩ := Option.map_eq_some_iff.mp h
    obtain ⟨⟨k, v⟩, hx, e1, e2, e3⟩ := CJ rel hq
    exact ⟨.ref q.2.1, v, ⟨k, q.2.1, hx, rfl, e2⟩, rfl, e3⟩
  | _ => cases hu
theorem Inv.freeze (I : Inv X pins σ H s) {u : HO} (hu : isD u = true) (e : Rd H a u) : ∃ (o : Obj) (es : Array DictEntry) (ep : Nat), s.heap.get? a = some o /\ o.ExactDict /\ o.data = .dict es ep /\ (a == sysModules) = false /\ es.size = gb u /\ (H a = some u \/ H a = some (.frz o u)) /\ Inv X pins σ (upd H a (.frz o u)) s := by
  have x := zG I.hok e
  obtain ⟨o, es, ep, ho, ex, hd, lo, hz, _⟩ := xH I hu x
  rcases e with e | ⟨o', e⟩
  . refine ⟨o, es, ep, ho, ex, hd, lo, hz, .inl e, ?_⟩
    have no : ∀ b w, H b = some w -> isD w = false -> b ≠ a := fun b w q n z => by rw [z, e] at q; cases q; rw [hu] at n; cases n
    exact I.write (x := a) (e := a) (t' := s.toks) (h' := s.heap) (by rw [e]; cases u <;> first | exact True.intro | cases hu) (.inl rfl) (fun _ _ _ q => q) ⟨o, ho⟩ ⟨ho, x.stay (fun _ _ _ q => q) (fun c z => by rw [aj (no c _ z rfl)]; exact z) fun c xs z => by rw [aj (no c _ z rfl)]; exact z⟩
  . have h1 := (show ObjOk X.prog X.w H s.heap a (.frz o' u) from I.hok a _ e).1
    rw [ho] at h1; cases h1
    refine ⟨o, es, ep, ho, ex, hd, lo, hz, .inr e, ?_⟩
    rw [tW e]; exact I
theorem Inv.thaw (I : Inv X pins σ H s) {o : Obj} {u : HO} (e : H a = some (.frz o u)) (nf : ∀ o' u', X.H₀ a ≠ some (.frz o' u')) : Inv X pins σ (upd H a u) s := by
  have na : ∀ b, H b = none -> b ≠ a := fun b n z => by rw [z, e] at n; cases n
  have no : ∀ b w, H b = some w -> (∀ o x, w ≠ .frz o x) -> b ≠ a := fun b w q n z => by rw [z, e] at q; cases q; exact n _ _ rfl
  have own : ∀ {d : Addr} c, H c = some (.own d) -> upd H a u c = some (.own d) := fun c z => by rw [aj (no c _ z (by intro _ _ y; cases y))]; exact z
  have tup : ∀ c xs, H c = some (.tup xs) -> upd H a u c = some (.tup xs) := fun c xs z => by rw [aj (no c _ z (by intro _ _ y; cases y))]; exact z
  refine ⟨I.ok, I.os, I.bare, ⟨I.base.keep, I.base.slot, fun b ob q n hx => ?_, I.base.there, fun b xs q => tup b xs (I.base.tups b xs q), fun b ob x q => ?_, fun b ps q => ?_⟩, I.loc, I.cell, ?_, fun x c ec => ?_, fun p hp => ?_, fun b ob q => ?_, I.len⟩
  . have h := I.base.free b ob q n hx
    rw [aj (na b h)]; exact h
  . have h := I.base.frzs b ob x q
    by_cases eb : b = a
    . subst eb; exact absurd q (nf _ _)
    . rw [aj eb]; exact h
  . obtain ⟨m, h⟩ := I.base.tbls b ps q
    exact ⟨m, by rw [aj (no b _ h (by intro _ _ z; cases z))]; exact h⟩
  . rw [aj (na _ I.free)]; exact I.free
  . have h := I.freeC x c ec
    rw [aj (na _ h)]; exact h
  . obtain ⟨p1, p2, p3⟩ := I.pin p hp
    exact ⟨p1, by rw [aj (na _ p2)]; exact p2, p3⟩
  . by_cases eb : b = a
    . subst eb
      rw [ad] at q; cases q
      exact (show ObjOk X.prog X.w H s.heap b (.frz o u) from I.hok _ _ e).2.stay (fun _ _ _ z => z) own tup
    . rw [aj eb] at q
      exact (I.hok b ob q).stay (fun _ _ _ z => z) own tup
def Th (H H1 : Hp) (P : Hp -> Prop) : Prop := ∃ a o u, H1 a = some (.frz o u) /\ ((H a = some u /\ isD u = true /\ P (upd H1 a u)) \/ (H a = some (.frz o u) /\ P H1))
theorem Inv.th {H1 : Hp} {s1 : Shared} {σ1 : St} {P : Hp -> Prop} (I : Inv X pins σ H s) (I1 : Inv X pins σ1 H1 s1) (h : Th H H1 P) : ∃ H2, Inv X pins σ1 H2 s1 /\ P H2 := by
  obtain ⟨a, o, u, e1, ⟨e2, hu, q⟩ | ⟨e2, q⟩⟩ := h
  . exact ⟨_, I1.thaw e1 (fun o' u' z => by rw [I.base.frzs _ _ _ z] at e2; cases e2; cases hu), q⟩
  . exact ⟨_, I1, q⟩
def Cc (te : TE) : TE := fun σ H Q => te σ H fun v H1 => Th H H1 (Q v)
def B6 (ts : TS) : TS := fun D σ H => ts { nx := fun σ' H1 => Th H H1 (D.nx σ'), rt := fun v H1 => Th H H1 (D.rt v), bk := fun σ' H1 => Th H H1 (D.bk σ'), ct := fun σ' H1 => Th H H1 (D.ct σ') } σ H
theorem nJ {st : Stmt} {ts : TS} (h : PS X st ts) : PS X st (B6 ts) := by
  intro pins s σ H D I q
  refine thn (h pins s σ H _ I q) fun f s1 hf => ?_
  cases f with
  | next =>
    obtain ⟨σ', H', I', z⟩ := hf
    obtain ⟨H2, I2, q2⟩ := I.th I' z
    exact ⟨σ', H2, I2, q2⟩
  | brk =>
    obtain ⟨σ', H', I', z⟩ := hf
    obtain ⟨H2, I2, q2⟩ := I.th I' z
    exact ⟨σ', H2, I2, q2⟩
  | cont =>
    obtain ⟨σ', H', I', z⟩ := hf
    obtain ⟨H2, I2, q2⟩ := I.th I' z
    exact ⟨σ', H2, I2, q2⟩
  | ret u =>
    obtain ⟨v, σ', H', I', r, z⟩ := hf
    obtain ⟨H2, I2, q2⟩ := I.th I' z
    exact ⟨v, σ', H2, I2, r, q2⟩
def Itk (a : Addr) (o : Obj) (u : HO) : It :=
  ⟨fun i H => i < gb u /\ H a = some (.frz o u), fun i H x H' => H' = H /\ ∃ v, rh H u i x v, fun i H => gb u <= i /\ H a = some (.frz o u)⟩
theorem z_ (I : Inv X pins σ H s) {o : Obj} {es : Array DictEntry} {ep : Nat} {u : HO} (hu : isD u = true) (hd : o.data = .dict es ep) (e : H a = some (.frz o u)) : s.heap.get? a = some o /\ es.size = gb u /\ ∀ i e, es[i]? = some e -> ∃ x v, rh H u i x v /\ RelV x e.key /\ RelV v e.val := by
  obtain ⟨ho, x⟩ := (show ObjOk X.prog X.w H s.heap a (.frz o u) from I.hok a _ e)
  obtain ⟨o', es', ep', ho', ex, hd', lo, hz, h⟩ := xH I hu x
  rw [ho] at ho'; cases ho'
  rw [hd] at hd'
  injection hd' with h2 h3
  subst h2
  exact ⟨ho, hz, h⟩
theorem yo {P : Program} {w : World} {K : PySem.W.Frag} {tg : Expr} (a it : Addr) (o : Obj) (es : Array DictEntry) (ep : Nat) (u : HO) (hu : isD u = true) (hd : o.data = .dict es ep) : yn P w K tg (Itk a o u) [it] it (fun i h => h.IsKeyIter it a i es.size ep) where
  mem := by simp
  obj := fun i h st b hb => by
    have e : b = it := by simpa using hb
    subst e
    obtain ⟨o, e, c, d⟩ := st
    exact ⟨o, e, fun v z => by rw [d] at z; cases z⟩
  keep := fun i h h' st k => st.at fun o e => k it (by simp) o e
  item := by
    intro X hP hw hK hc i pins s σ H E I hf st hg
    subst hP hw hK
    obtain ⟨hi, hq⟩ := hg
    obtain ⟨ho, hz, hen⟩ := z_ I hu hd hq
    obtain ⟨f0, f1, f2, f3, f4, f5⟩ := hf it (by simp)
    have hx : es[i]? = some es[i] := by simp [show i < es.size by omega]
    obtain ⟨x, v, en, rx, rv⟩ := hen i _ hx
    refine wv st ho hd hx fun h' st' sb => ?_
    have I1 : Inv X pins σ H { s with heap := h' } := I.turned (t' := s.toks) (fun b o hb e => (sb.2 b hb).trans e) f0 f1 f3 f4 f5
    obtain ⟨oi, e, c, d⟩ := id st'
    exact ⟨_, rfl, nY (s := { s with heap := h' }) e c d (by decide) ⟨x, H, I1, rx, ⟨rfl, v, en⟩, st', fun b hb => (hf b hb).1⟩⟩
  done := by
    intro X hP hw hK hc i pins s σ H E I hf st hg
    subst hP hw hK
    obtain ⟨hi, hq⟩ := hg
    obtain ⟨ho, hz, hen⟩ := z_ I hu hd hq
    obtain ⟨f0, f1, f2, f3, f4, f5⟩ := hf it (by simp)
    exact zv (I.ok.hd hc) st ho hd (by omega) fun h' eb => ⟨rfl, I.turned (t' := s.toks) (fun b o hb e => eb b o hb e) f0 f1 f3 f4 f5⟩
  self := fun _ _ _ _ _ st h => wpAny_pyIter_keyiter st h
def xr (td : TE) : TI := fun σ H R => td σ H fun x H1 => ∃ b u, x = .ref b /\ isD u = true /\ Rd H1 b u /\ ∀ o, (H1 b = some u \/ H1 b = some (.frz o u)) -> R (Itk b o u) (upd H1 b (.frz o u))
theorem nQ {tg l : Expr} {td : TE} (hl : PE X l td) : PI X tg l (xr td) := by
  intro pins s σ H R I h
  refine thn (hl pins s σ H _ I h) fun v s1 ⟨x, H1, I1, rx, b, u, ex, hu, hr, q⟩ => ?_
  subst ex
  cases (show v = Value.ref b from rx)
  obtain ⟨o, es, ep, ho, ex, hd, lo, hz, hor, I2⟩ := I1.freeze hu hr
  refine xf lo ho ex hd ?_
  refine ⟨s1.heap.objs.size, [s1.heap.objs.size], _, Itk b o u, _, rfl, I2.kept (t' := s1.toks) (fun c ob e => Heap.get?_push_of_some _ e), yo b _ o es ep u hu hd, ⟨_, Heap.get?_push_size _ rfl, rfl, rfl⟩, fun c hc => ?_, q o hor⟩
  rw [List.mem_singleton.mp hc]
  exact I2.fpOk (Nat.le_refl _) (I2.hok.fresh (Nat.le_refl _))
end
theorem Cv {td : TE} {n : Nat} {g : TG} {ks : List Nat} {tt : TT} {te : TE} {σ : St} {H : Hp} {Q : VK} (h : td σ H fun x H1 => ∃ b u, x = .ref b /\ isD u = true /\ Rd H1 b u /\ ∀ o, (H1 b = some u \/ H1 b = some (.frz o u)) -> CEl (Itk b o u) n g ks tt te σ (upd H1 b (.frz o u)) fun v H2 => Th H H2 (Q v)) : Cc (g_ (xr td) n g ks tt te) σ H Q := h
theorem CB {n : Nat} {g : TG} {ks : List Nat} {tt : TT} {te : TE} {σ : St} {H1 : Hp} {Q : VK} (b : Addr) (o : Obj) (u : HO) (P : Addr -> Nat -> List V -> Hp -> Prop) (hz : gb u < sizeLine)
    (h0 : ∀ D, H1 D = none -> P D 0 [] (upd H1 D (.lst []))) (hD : ∀ D i ys H', P D i ys H' -> H' D = some (.lst ys) /\ H' b = some (.frz o u) /\ ys.length <= i)
    (hs : ∀ D i y v ys H' (zs : St) (N1 : VK) (N0 : Hp -> Prop), i < gb u -> rh H' u i y v -> P D i ys H' -> zs.length = n -> (∀ v H6, H6 D = some (.lst ys) -> P D (i + 1) (ys ++ [v]) (upd H6 D (.lst (ys ++ [v]))) -> N1 v H6) -> (∀ H6, P D (i + 1) ys H6 -> N0 H6) ->
      g y (zs ++ ks.map fun k => (σ[k]?).join) H' fun σ4 H4 => (∃ zs4 : St, zs4.length = n /\ σ4 = zs4 ++ ks.map fun k => (σ[k]?).join) /\ tt σ4 H4 fun b H5 => if b = true then te σ4 H5 N1 else N0 H5)
    (hd : ∀ D ys H', P D (gb u) ys H' -> Q (.ref D) H') : CEl (Itk b o u) n g ks tt te σ H1 Q := by
  intro D hDn
  refine ⟨fun i m ys H' => m = gb u - i /\ i <= gb u /\ P D i ys H', ⟨_, rfl, Nat.zero_le _, h0 D hDn⟩, ?_⟩
  rintro i m ys H' ⟨rfl, hi, p⟩
  obtain ⟨d1, d2, d3⟩ := hD D i ys H' p
  refine ⟨d1, ?_⟩
  rcases Nat.lt_or_ge i (gb u) with lt | ge
  . refine .inr ⟨⟨lt, d2⟩, ?_⟩
    rintro x H3 ⟨rfl, v, hx⟩ zs hzs
    exact hs D i x v ys _ zs _ _ lt hx p hzs (fun v H6 h6 p6 => ⟨h6, by omega, _, by omega, rfl, lt, p6⟩) fun H6 p6 => ⟨_, by omega, rfl, lt, p6⟩
  . obtain rfl : i = gb u := Nat.le_antisymm hi ge
    exact .inl ⟨⟨Nat.le_refl _, d2⟩, hd D ys H' p⟩
theorem cmK {td : TE} {ks : List Nat} {tt : TT} {te : TE} {σ : St} {H : Hp} {Q : VK} (b : Addr) (kvs : List (Key × V)) (p : V -> Bool) (f : V -> V) (hl : ∀ R : VK, R (.ref b) H -> td σ H R) (hr : Rd H b (.dK kvs)) (hz : kvs.length < sizeLine)
    (hp : ∀ x ∈ kvs.map (fun e => kV e.1), ∀ D ys o (R : Bool -> Hp -> Prop), H D = none -> D ≠ b -> R (p x) (upd (upd H b (.frz o (.dK kvs))) D (.lst ys)) -> tt (some x :: ks.map fun k => (σ[k]?).join) (upd (upd H b (.frz o (.dK kvs))) D (.lst ys)) R)
    (hf : ∀ x ∈ kvs.map (fun e => kV e.1), p x = true -> ∀ D ys o (R : VK), H D = none -> D ≠ b -> R (f x) (upd (upd H b (.frz o (.dK kvs))) D (.lst ys)) -> te (some x :: ks.map fun k => (σ[k]?).join) (upd (upd H b (.frz o (.dK kvs))) D (.lst ys)) R)
    (q : ∀ D, H D = none -> Q (.ref D) (upd H D (.lst (((kvs.map fun e => kV e.1).filter p).map f)))) : Cc (g_ (xr td) 1 (lL 0) ks tt te) σ H Q := by
  have hb : ∃ u, H b = some u := by rcases hr with e | ⟨o, e⟩ <;> exact ⟨_, e⟩
  obtain ⟨u, hb⟩ := hb
  refine Cv (hl _ ⟨b, .dK kvs, rfl, rfl, hr, fun o hor => CB b o (.dK kvs) (fun D i ys G => G = upd (upd H b (.frz o (.dK kvs))) D (.lst ys) /\ H D = none /\ ys = (((kvs.map fun e => kV e.1).take i).filter p).map f) hz (fun D hD => ⟨rfl, ?_, by simp⟩) ?_ ?_ ?_⟩)
  . have nb : D ≠ b := fun z => by rw [z, ad] at hD; cases hD
    rwa [aj nb] at hD
  . rintro D i ys G ⟨rfl, hD, rfl⟩
    have nb : b ≠ D := av hb hD
    refine ⟨ad, (aj nb).trans ad, ?_⟩
    rw [List.length_map]
    exact Nat.le_trans (List.length_filter_le _ _) (by rw [List.length_take]; omega)
  . rintro D i y vv ys G zs N1 N0 hi ⟨kk, hk, rfl⟩ ⟨rfl, hD, rfl⟩ hzs n1 n0
    have hy : (kvs.map fun e => kV e.1)[i]? = some (kV kk) := by rw [List.getElem?_map, hk]; rfl
    generalize kV kk = y at hy
    obtain ⟨z, rfl⟩ := ex1 hzs
    have nb : D ≠ b := Ne.symm (av hb hD)
    have my := List.mem_of_getElem? hy
    have et : (kvs.map fun e => kV e.1).take (i + 1) = (kvs.map fun e => kV e.1).take i ++ [y] := by rw [List.take_succ, hy]; rfl
    rw [et, List.filter_append] at n1 n0
    refine ⟨⟨[some y], rfl, rfl⟩, hp y my D _ o _ hD nb ?_⟩
    cases py : p y with
    | true =>
      rw [if_pos rfl]
      refine hf y my py D _ o _ hD nb (n1 _ _ ad ⟨nN, hD, ?_⟩)
      rw [List.filter_cons_of_pos py, List.map_append]; rfl
    | false =>
      rw [if_neg (by decide)]
      refine n0 _ ⟨rfl, hD, ?_⟩
      rw [List.filter_cons_of_neg (by rw [py]; decide), List.filter_nil, List.append_nil]
  . rintro D ys G ⟨rfl, hD, rfl⟩
    rw [show gb (.dK kvs) = kvs.length from rfl, List.take_of_length_le (by rw [List.length_map]; exact Nat.le_refl _)]
    have nb : b ≠ D := av hb hD
    have q1 := q D hD
    refine ⟨b, o, .dK kvs, (aj nb).trans ad, ?_⟩
    have e1 : ∀ w z, upd (upd (upd H b w) D z) b u = upd H D z := fun w z => by
      funext c
      by_cases h1 : c = b
      . subst h1; rw [ad, aj nb, hb]
      . rw [aj h1]
        by_cases h2 : c = D
        . subst h2; rw [ad, ad]
        . rw [aj h2, aj h1, aj h2]
    rcases hor with e | e
    . refine .inl ⟨e, rfl, ?_⟩
      rw [hb] at e; cases e
      rw [e1]; exact q1
    . refine .inr ⟨e, ?_⟩
      rw [tW e]; exact q1
section
variable {X : Cx} {pos : Pos}
def zJ (K : PySem.W.Frag) (n : Nat) (t : TGs) : TG := fun v σ H Q => ∃ a xs, v = .ref a /\ SqL K H a xs /\ xs.length = n /\ t xs σ H Q
theorem wC (K : PySem.W.Frag) {es : List Expr} {k : Nat} {t : TGs} {n : Nat} (hc : X.calm = true) (h : PGs X es t) (hK : X.K = K := by rfl)
    (hn : (assignEach es X.env).length = n := by rfl) (hst : (assignEach es X.env).findIdx? (·.1) = none := by rfl) : PG X (.Tuple es k pos) (zJ K n t) := by
  subst hK
  intro pins s σ H v u Q I r hw
  obtain ⟨a, xs, e1, hq, hl, hw⟩ := hw
  subst e1
  cases r
  obtain ⟨its, rv, pl, hz⟩ := I.list hq
  have hl2 := rv.length
  rw [PyProof.Rows.assign_Tuple]
  refine wpAny_bind (wpAny_standAt ?_)
  have hs : (assignEach es X.env).length = its.toArray.size := by rw [hn, List.size_toArray]; omega
  unfold unpack
  rw [hs, hst]
  refine wpAny_bind (wpAny_holding (PySem.W.kun_itemsOf (I.ok.hd hc) pl.isList fun h' hx => ?_))
  exact h pins _ σ H xs _ Q (I.kept (t' := s.toks) fun b o e => hx b o (Nat.ne_of_lt (Heap.lt_size e)) e) (by simpa using rv) hw
end
section
variable {X : Cx}
end
end L2
set_option Elab.async false
set_option linter.all false
set_option maxRecDepth 100000
namespace L2
open PySem
theorem zL {td : TE} {g : TG} {tb : TS} {D : fq} {σ : St} {H : Hp} (h : td σ H fun x H1 => ∃ b u, x = .ref b /\ isD u = true /\ Rd H1 b u /\ ∀ o, (H1 b = some u \/ H1 b = some (.frz o u)) -> FE (Itk b o u) g tb { nx := fun σ' H2 => Th H H2 (D.nx σ'), rt := fun v H2 => Th H H2 (D.rt v), bk := fun σ' H2 => Th H H2 (D.bk σ'), ct := fun σ' H2 => Th H H2 (D.ct σ') } σ (upd H1 b (.frz o u))) : B6 (rm (xr td) g tb) D σ H := h
theorem Ai {b : Addr} {o : Obj} {u : HO} {g : TG} {tb : TS} {D : fq} {σ : St} {H : Hp} (Pv : Nat -> St -> Hp -> Prop) (h0 : Pv 0 σ H) (hl : ∀ i σ H, Pv i σ H -> H b = some (.frz o u))
    (hs : ∀ i x v σ H, i < gb u -> rh H u i x v -> Pv i σ H -> g x σ H fun σ2 H2 => tb { D with nx := Pv (i + 1), ct := Pv (i + 1), bk := D.nx } σ2 H2) (hd : ∀ σ H, Pv (gb u) σ H -> D.nx σ H) : FE (Itk b o u) g tb D σ H := by
  refine ⟨fun i m σ H => m = gb u - i /\ i <= gb u /\ Pv i σ H, ⟨_, rfl, Nat.zero_le _, h0⟩, ?_⟩
  rintro i m σ H ⟨rfl, hi, p⟩
  have q := hl i σ H p
  rcases Nat.lt_or_ge i (gb u) with lt | ge
  . refine .inr ⟨⟨lt, q⟩, Pv (i + 1), fun σ' H' p' => ⟨_, by omega, rfl, lt, p'⟩, ?_⟩
    rintro y H' ⟨rfl, v, en⟩
    exact hs i y v σ _ lt en p
  . obtain rfl : i = gb u := Nat.le_antisymm hi ge
    exact .inl ⟨⟨Nat.le_refl _, q⟩, hd σ H p⟩
end L2
set_option Elab.async false
set_option linter.all false
set_option maxRecDepth 100000
namespace L2
open PySem PySem.Spec PyProof.Rows
section
variable {X : Cx}
def xj : List V -> Hp -> VK -> Prop
  | [.ref p], H, Q => ∃ kvs : List (Key × V), H p = some (.dK kvs) /\ Q (.int kvs.length) H
  | _, _, _ => False
theorem B2 : CallR X (.builtin "len") xj := by
  intro pins s σ H xs us Q I r h
  unfold xj at h
  split at h
  . rename_i p
    obtain ⟨kvs, hp, q⟩ := h
    obtain ⟨u, rfl, rx⟩ := eU r
    cases rx
    obtain ⟨z, lo, vs, rel, dd⟩ := xC I.hok hp
    have hn := lR
    have hl := rel.length
    exact PySem.call_len_dict lo dd (by omega) ⟨.int kvs.length, H, I.tok _, ⟨s.toks + 1, by rw [hl]⟩, q⟩
  . exact h.elim
end
end L2
set_option Elab.async false
set_option maxHeartbeats 4000000
namespace K3
def S (a : Int) : Int :=
  if a <= 0 then 0 else if a = 1 then 31 else if a = 2 then 59 else if a = 3 then 90 else if a = 4 then 120
  else if a = 5 then 151 else if a = 6 then 181 else if a = 7 then 212 else if a = 8 then 243 else if a = 9 then 273
  else if a = 10 then 304 else 334
def LD (y : Int) : Int := (y + 3) / 4 - (y + 99) / 100 + (y + 399) / 400
def FD (m : Int) : Int := 365 * (m / 12) + (if m % 12 > 1 then LD (m / 12 + 1) else LD (m / 12)) + S (m % 12)
def LG (y m : Int) : Int :=
  if m = 2 then (if (y % 4 = 0 /\ y % 100 ≠ 0) \/ y % 400 = 0 then 29 else 28)
  else if m = 4 \/ m = 6 \/ m = 9 \/ m = 11 then 30 else 31
theorem xq {m y a : Int} (h : m = 12 * y + a) (h0 : 0 <= a) (h1 : a < 12) :
    FD m = 365 * y + (if a > 1 then LD (y + 1) else LD y) + S a := by
  have e1 : m / 12 = y := by omega
  have e2 : m % 12 = a := by omega
  unfold FD; rw [e1, e2]
theorem q4 (y : Int) : (y + 4) / 4 = (y + 3) / 4 + if y % 4 = 0 then 1 else 0 := by split <;> omega
theorem FH (y : Int) : (y + 100) / 100 = (y + 99) / 100 + if y % 100 = 0 then 1 else 0 := by split <;> omega
theorem Fq (y : Int) : (y + 400) / 400 = (y + 399) / 400 + if y % 400 = 0 then 1 else 0 := by split <;> omega
theorem w4 (y : Int) : LD (y + 1) = LD y + (if (y % 4 = 0 /\ y % 100 ≠ 0) \/ y % 400 = 0 then 1 else 0) := by
  unfold LD
  rw [Int.add_assoc, Int.add_assoc, Int.add_assoc]
  show (y + 4) / 4 - (y + 100) / 100 + (y + 400) / 400 = _
  rw [q4, FH, Fq]
  generalize (y + 3) / 4 = A
  generalize (y + 99) / 100 = B
  generalize (y + 399) / 400 = C
  by_cases a : y % 400 = 0
  . have b : y % 100 = 0 := by omega
    have c : y % 4 = 0 := by clear b; omega
    rw [if_pos a, if_pos b, if_pos c, if_pos (.inr a)]
    clear a b c; omega
  . by_cases b : y % 100 = 0
    . have c : y % 4 = 0 := by clear a; omega
      rw [if_neg a, if_pos b, if_pos c, if_neg (fun z => z.elim (fun w => w.2 b) a)]
      clear a b c; omega
    . by_cases c : y % 4 = 0
      . rw [if_neg a, if_neg b, if_pos c, if_pos (.inl ⟨c, b⟩)]
        clear a b c; omega
      . rw [if_neg a, if_neg b, if_neg c, if_neg (fun z => z.elim (fun w => c w.1) a)]
        clear a b c; omega
theorem DV : ∀ a : Nat, a < 11 -> a ≠ 1 -> S (a + 1) = S a + LG 1 (1 + a) := by decide
theorem yT (y z m : Int) (h : m ≠ 2) : LG y m = LG z m := by unfold LG; rw [if_neg h, if_neg h]
theorem zY (y : Int) : LG (2000 + y) 2 = 28 + (LD (y + 1) - LD y) := by
  have h : (((2000 + y) % 4 = 0 /\ (2000 + y) % 100 ≠ 0) \/ (2000 + y) % 400 = 0) ↔ ((y % 4 = 0 /\ y % 100 ≠ 0) \/ y % 400 = 0) := by
    have e (k : Int) (d : 2000 = k * (2000 / k)) : (2000 + y) % k = y % k := by rw [Int.add_comm, d, Int.add_mul_emod_self_left]
    rw [e 4 rfl, e 100 rfl, e 400 rfl]
  rw [w4, LG, if_pos rfl]
  by_cases c : (y % 4 = 0 /\ y % 100 ≠ 0) \/ y % 400 = 0
  . rw [if_pos c, if_pos (h.mpr c)]; omega
  . rw [if_neg c, if_neg (fun q => c (h.mp q))]; omega
theorem BN (m : Int) : FD (m + 1) = FD m + LG (2000 + m / 12) (1 + m % 12) := by
  have b0 : 0 <= m % 12 := Int.emod_nonneg _ (by decide)
  have b1 : m % 12 < 12 := Int.emod_lt_of_pos _ (by decide)
  have e : m = 12 * (m / 12) + m % 12 := (Int.mul_ediv_add_emod m 12).symm
  have a1 := xq e b0 b1
  generalize m / 12 = y at *
  generalize m % 12 = z at *
  obtain ⟨a, rfl⟩ := Int.eq_ofNat_of_zero_le b0
  by_cases c : a = 11
  . subst c
    rw [a1, xq (m := m + 1) (y := y + 1) (a := 0) (by omega) (by decide) (by decide)]
    show _ + LD (y + 1) + 0 = _ + LD (y + 1) + 334 + 31
    omega
  . have a2 := xq (m := m + 1) (y := y) (a := a + 1) (by omega) (by omega) (by omega)
    by_cases c1 : a = 1
    . subst c1
      rw [a1, a2]
      show _ + LD (y + 1) + 59 = _ + LD y + 31 + LG (2000 + y) 2
      rw [zY]; omega
    . have s := DV a (by omega) c1
      rw [a1, a2, yT _ 1 _ (by omega), s]
      by_cases c2 : a = 0
      . subst c2; exact (Int.add_assoc _ _ _).symm
      . rw [if_pos (by omega), if_pos (by omega)]; omega
def R10 : List Int := [31, 30, 31, 30, 31, 31, 30, 31, 30, 31]
theorem Bc : ∀ a : Nat, a < 10 -> (R10.take a).sum + 59 = S ((a : Int) + 2) := by decide
theorem CT : ∀ a : Nat, a < 10 -> R10.getD a 0 = LG 1 (1 + ((a : Int) + 2)) := by decide
theorem EF (m : Int) : 365 * (m / 12) + LD (m / 12) + ((31 :: (28 + (LD (m / 12 + 1) - LD (m / 12))) :: R10).take (m % 12).toNat).sum = FD m := by
  have b0 : 0 <= m % 12 := Int.emod_nonneg _ (by decide)
  have b1 : m % 12 < 12 := Int.emod_lt_of_pos _ (by decide)
  have a1 := xq (Int.mul_ediv_add_emod m 12).symm b0 b1
  generalize m / 12 = y at *
  generalize m % 12 = z at *
  obtain ⟨a, rfl⟩ := Int.eq_ofNat_of_zero_le b0
  rw [a1]
  match a, b1 with
  | 0, _ => rfl
  | 1, _ => rfl
  | a + 2, b1 =>
    have s := Bc a (by omega)
    rw [if_pos (by omega)]
    show _ + _ + (31 + (_ + (R10.take a).sum)) = _ + S ((a : Int) + 2)
    rw [<- s]; omega
theorem Ft (m : Int) : (31 :: (28 + (LD (m / 12 + 1) - LD (m / 12))) :: R10).getD (m % 12).toNat 0 = LG (2000 + m / 12) (1 + m % 12) := by
  have b0 : 0 <= m % 12 := Int.emod_nonneg _ (by decide)
  have b1 : m % 12 < 12 := Int.emod_lt_of_pos _ (by decide)
  generalize m / 12 = y at *
  generalize m % 12 = z at *
  obtain ⟨a, rfl⟩ := Int.eq_ofNat_of_zero_le b0
  match a, b1 with
  | 0, _ => rfl
  | 1, _ => exact (zY y).symm
  | a + 2, b1 =>
    rw [yT _ 1 _ (by omega)]
    exact CT a (by omega)
end K3
set_option Elab.async false
set_option linter.all false
namespace K22
open PySem L2 K19
theorem oQ {t : Int} {N : Nat} : ∀ {bs : List Bk}, (∀ b ∈ bs, b.rs.length <= N) -> (rsd t bs).length <= N * bs.length
  | [], _ => Nat.le_refl _
  | b :: r, h => by
    have ih := oQ (t := t) (bs := r) fun x m => h x (.tail _ m)
    have hb := h b (.head _)
    unfold rsd at ih ⊢
    rw [List.flatMap_cons, List.length_append, List.length_cons, Nat.mul_add, Nat.mul_one]
    split
    . omega
    . rw [List.length_nil]; omega
def sm (rs : List Row) (k : Pt) : Int := match rs with
  | [] => 0
  | r :: q => (if (r.pa, r.cu) = k then r.am else 0) + sm q k
theorem o8 (k : Pt) (y : List Row) : ∀ x : List Row, sm (x ++ y) k = sm x k + sm y k
  | [] => by rw [List.nil_append]; simp [sm]
  | r :: q => by rw [List.cons_append, sm, sm, o8 k y q]; omega
theorem yV (k : Pt) (v : Int) (k' : Pt) (d : List (Pt × Int)) : mn (uq d k v) k' = if k' = k then some v else mn d k' := by
  have inj : ∀ {x y : Option Int}, x.map V.int = y.map V.int -> x = y := fun {x y} h => by
    cases x <;> cases y <;> first | rfl | cases h
    rfl
  refine inj ?_
  rw [<- fS, <- oC, zQ]
  by_cases c : k' = k
  . rw [if_pos c, if_pos (by rw [c])]; rfl
  . rw [if_neg c, if_neg (fun z => c (o4 z)), fS]
theorem zD (rs : List Row) (k : Pt) : val rs k = sm rs k := by
  unfold val
  induction rs using o7 with
  | h0 => rfl
  | h1 l x ih =>
    rw [ka, o8]
    unfold stp
    rw [yV]
    by_cases c : k = (x.pa, x.cu)
    . rw [if_pos c, <- c, <- ih]; simp [sm, c]
    . rw [if_neg c, ih, show sm [x] k = 0 by simp only [sm]; rw [if_neg fun z => c z.symm]; rfl]; omega
theorem sj {rs : List Row} {k : Pt} (h : ∀ r ∈ rs, (r.pa, r.cu) ≠ k) : sm rs k = 0 := by
  induction rs with
  | nil => rfl
  | cons r q ih => rw [sm, if_neg (h r (.head _)), ih fun x m => h x (.tail _ m)]; rfl
theorem Dg {rs : List Row} : ∀ r ∈ rs, (r.pa, r.cu) ∈ (dk rs).map (·.1) := by
  induction rs using o7 with
  | h0 => exact fun _ m => nomatch m
  | h1 l x ih =>
    intro r m
    rw [xF]
    rcases List.mem_append.mp m with m | m
    . split
      . exact ih r m
      . exact List.mem_append_left _ (ih r m)
    . rw [List.mem_singleton.mp m]
      split
      . assumption
      . exact List.mem_append_right _ (List.mem_singleton.mpr rfl)
theorem D7 {rs : List Row} {out : List Pt} (po : out.Perm ((dk rs).map (·.1))) {k : Pt} (h : k ∉ out) : sm rs k = 0 :=
  sj fun r m e => h (po.mem_iff.mpr (e ▸ Dg r m))
theorem A3 (rs : List Row) : res rs [] = [] := rfl
theorem Ao (rs : List Row) (k : Pt) (out : List Pt) : res rs (k :: out) = (if val rs k ≠ 0 then [⟨k.1, k.2, val rs k⟩] else []) ++ res rs out := by
  unfold res
  by_cases h : val rs k ≠ 0
  . rw [if_pos h, List.filter_cons_of_pos (by exact decide_eq_true h)]; rfl
  . rw [if_neg h, List.filter_cons_of_neg (by simpa using h)]; rfl
theorem h7 {rs : List Row} {out : List Pt} {r : Row} (h : r ∈ res rs out) : (r.pa, r.cu) ∈ out /\ r.am = val rs (r.pa, r.cu) /\ r.am ≠ 0 := by
  unfold res at h
  obtain ⟨k, mk, rfl⟩ := List.mem_map.mp h
  obtain ⟨m1, m2⟩ := List.mem_filter.mp mk
  exact ⟨m1, rfl, of_decide_eq_true m2⟩
theorem wH {rs : List Row} {k : Pt} : ∀ {out : List Pt}, out.Nodup -> sm (res rs out) k = if k ∈ out then val rs k else 0
  | [], _ => by rw [A3]; simp [sm]
  | x :: out, nd => by
    obtain ⟨n1, n2⟩ := List.nodup_cons.mp nd
    rw [Ao, o8, wH n2]
    by_cases c : k = x
    . subst c
      rw [if_neg n1, if_pos (show k ∈ k :: out from List.mem_cons_self ..)]
      by_cases h : val rs k ≠ 0
      . rw [if_pos h]; simp [sm]
      . rw [if_neg h]; simp [sm]; omega
    . have e : sm (if val rs x ≠ 0 then [(⟨x.1, x.2, val rs x⟩ : Row)] else []) k = 0 := by
        split
        . exact sj fun r m => by rw [List.mem_singleton.mp m]; exact fun z => c z.symm
        . rfl
      rw [e]
      by_cases h : k ∈ out
      . rw [if_pos h, if_pos (.tail _ h)]; omega
      . rw [if_neg h, if_neg (fun z => (List.mem_cons.mp z).elim c h)]; omega
theorem y2 {rs : List Row} {out : List Pt} (po : out.Perm ((dk rs).map (·.1))) (k : Pt) : sm (res rs out) k = sm rs k := by
  rw [wH (po.nodup_iff.mpr (gE rs).1)]
  split
  . exact zD _ _
  . rename_i h; exact (D7 po h).symm
def trn (rs : List Row) : List Row := rs.map fun r => ⟨r.pa, r.cu, -r.am⟩
def mvd (p : List Nat) (rs : List Row) : List Row := rs.map fun r => ⟨p, r.cu, r.am⟩
theorem y_ (k : Pt) : ∀ rs : List Row, sm (trn rs) k = - sm rs k
  | [] => rfl
  | r :: q => by
    have ih := y_ k q
    unfold trn at ih ⊢
    rw [List.map_cons, sm, sm, ih]
    dsimp only
    by_cases c : (r.pa, r.cu) = k
    . rw [if_pos c, if_pos c]; omega
    . rw [if_neg c, if_neg c]; omega
def cyS (rs : List Row) (c : List Nat) : Int := match rs with
  | [] => 0
  | r :: q => (if r.cu = c then r.am else 0) + cyS q c
theorem wW (c : List Nat) (y : List Row) : ∀ x : List Row, cyS (x ++ y) c = cyS x c + cyS y c
  | [] => by rw [List.nil_append]; simp [cyS]
  | r :: q => by rw [List.cons_append, cyS, cyS, wW c y q]; omega
theorem xI (c : List Nat) : ∀ rs : List Row, cyS (trn rs) c = - cyS rs c
  | [] => rfl
  | r :: q => by
    have ih := xI c q
    unfold trn at ih ⊢
    rw [List.map_cons, cyS, cyS, ih]
    dsimp only
    by_cases h : r.cu = c
    . rw [if_pos h, if_pos h]; omega
    . rw [if_neg h, if_neg h]; omega
theorem wn {p c : List Nat} : ∀ {rs : List Row}, (∀ r ∈ rs, r.pa = p) -> cyS rs c = sm rs (p, c)
  | [], _ => rfl
  | r :: q, h => by
    rw [cyS, sm, wn fun x m => h x (.tail _ m), h r (.head _)]
    by_cases e : r.cu = c
    . rw [if_pos e, if_pos (by rw [e])]
    . rw [if_neg e, if_neg fun z => e (Prod.mk.inj z).2]
theorem wN (p c : List Nat) : ∀ rs : List Row, cyS (mvd p rs) c = cyS rs c
  | [] => rfl
  | r :: q => by
    have ih := wN p c q
    unfold mvd at ih ⊢
    rw [List.map_cons, cyS, cyS, ih]
theorem wk {p : List Nat} {rs : List Row} : ∀ r ∈ mvd p rs, r.pa = p := fun r m => by
  obtain ⟨x, _, rfl⟩ := List.mem_map.mp m; rfl
theorem zS {p : List Nat} {rs : List Row} {out : List Pt} (po : out.Perm ((dk (mvd p rs)).map (·.1))) : ∀ r ∈ res (mvd p rs) out, r.pa = p := fun r m => by
  obtain ⟨x, mx, e⟩ := (gE (mvd p rs)).2.1 _ (po.mem_iff.mp (h7 m).1)
  exact (Prod.mk.inj e).1.trans (wk x mx)
def da (g : List Nat -> Bool) (rs : List Row) (out : List Pt) : List Row := (res rs out).filter fun r => g r.pa
def due (g : List Nat -> Bool) (p : List Nat) (rs : List Row) (out out2 : List Pt) : List Row := trn (da g rs out) ++ res (mvd p (da g rs out)) out2
theorem CN {g : List Nat -> Bool} {p : List Nat} {rs : List Row} {out out2 : List Pt} (po : out2.Perm ((dk (mvd p (da g rs out))).map (·.1))) (c : List Nat) : cyS (due g p rs out out2) c = 0 := by
  unfold due
  rw [wW, xI, wn (zS po), y2 po, <- wn wk, wN]; omega
theorem qy {g : List Nat -> Bool} {k : Pt} (hk : g k.1 = true) : ∀ rs : List Row, sm (rs.filter fun r => g r.pa) k = sm rs k
  | [] => rfl
  | r :: q => by
    have ih := qy hk q
    by_cases c : g r.pa = true
    . rw [List.filter_cons_of_pos (by exact c), sm, sm, ih]
    . rw [List.filter_cons_of_neg (by exact c), sm, ih, if_neg fun z => c (by rw [show r.pa = k.1 from congrArg (·.1) z]; exact hk)]; omega
theorem Aw {g : List Nat -> Bool} {p : List Nat} (hp : g p = false) {rs : List Row} {out out2 out3 : List Pt} (p1 : out.Perm ((dk rs).map (·.1))) (p2 : out2.Perm ((dk (mvd p (da g rs out))).map (·.1))) : da g (rs ++ due g p rs out out2) out3 = [] := by
  refine List.filter_eq_nil_iff.mpr fun r m gr => (h7 m).2.2 ?_
  rw [(h7 m).2.1, zD, o8]
  have e0 : sm (res (mvd p (da g rs out)) out2) (r.pa, r.cu) = 0 := sj fun x mx e => by
    have e1 : x.pa = r.pa := (Prod.mk.inj e).1
    rw [zS p2 x mx] at e1
    rw [e1, gr] at hp; cases hp
  unfold due
  rw [o8, y_, e0]
  unfold da
  rw [qy (k := (r.pa, r.cu)) gr, y2 p1]; omega
def jn (e : Pt × Int) : Key × V := (.inr ⟨⟨e.1.2⟩⟩, .int e.2)
theorem FF {p : List Nat} (c : List Nat) (v : Int) {d : List (Pt × Int)} (h : ∀ e ∈ d, e.1.1 = p) : fU (d.map jn) (.inr ⟨⟨c⟩⟩) (.int v) = (uq d (p, c) v).map jn := by
  have ke : ∀ e ∈ d, ((jn e).1 = .inr ⟨⟨c⟩⟩ ↔ e.1 = (p, c)) := fun e m => by
    constructor
    . intro z
      have z2 : e.1.2 = c := by injection z with z; injection z with z; injection z
      exact Prod.ext (h e m) z2
    . intro z; unfold jn; rw [z]
  unfold fU uq
  have e1 : ((d.map jn).any fun kv => decide (kv.1 = .inr ⟨⟨c⟩⟩)) = d.any fun e => decide (e.1 = (p, c)) := by
    rw [List.any_map, Bool.eq_iff_iff, List.any_eq_true, List.any_eq_true]
    constructor
    . rintro ⟨x, mx, hx⟩; exact ⟨x, mx, decide_eq_true ((ke x mx).mp (of_decide_eq_true hx))⟩
    . rintro ⟨x, mx, hx⟩; exact ⟨x, mx, decide_eq_true ((ke x mx).mpr (of_decide_eq_true hx))⟩
  rw [e1]
  split
  . rw [List.map_map, List.map_map]
    refine List.map_congr_left fun e m => ?_
    show (if (jn e).1 = .inr ⟨⟨c⟩⟩ then ((jn e).1, V.int v) else jn e) = jn (if e.1 = (p, c) then (e.1, v) else e)
    by_cases z : e.1 = (p, c)
    . rw [if_pos z, if_pos ((ke e m).mpr z)]; rfl
    . rw [if_neg z, if_neg fun q => z ((ke e m).mp q)]
  . rw [List.map_append]; rfl
theorem DH {p : List Nat} (c : List Nat) : ∀ {d : List (Pt × Int)}, (∀ e ∈ d, e.1.1 = p) -> eg (d.map jn) (.inr ⟨⟨c⟩⟩) = (mn d (p, c)).map V.int
  | [], _ => rfl
  | e :: r, h => by
    have ih := DH c fun x m => h x (.tail _ m)
    have he := h e (.head _)
    by_cases z : e.1 = (p, c)
    . rw [List.map_cons, b9 (by unfold jn; rw [z])]
      simp [mn, z, jn]
    . have nz : ¬ (jn e).1 = .inr ⟨⟨c⟩⟩ := fun q => z (by
        have z2 : e.1.2 = c := by injection q with q; injection q with q; injection q
        exact Prod.ext he z2)
      rw [List.map_cons, bY nz, ih]
      simp [mn, z]
theorem lE {p : List Nat} {rs : List Row} : ∀ e ∈ dk (mvd p rs), e.1.1 = p := fun e m => by
  obtain ⟨r, mr, h⟩ := (gE (mvd p rs)).2.1 e.1 (List.mem_map.mpr ⟨e, m, rfl⟩)
  rw [h]; exact wk r mr
theorem Bp {p : List Nat} {rs : List Row} {cz : List (List Nat)} (po : cz.Perm ((dk (mvd p rs)).map fun e => e.1.2)) (oo : InO cz) : (cz.map fun c => (p, c)).Perm ((dk (mvd p rs)).map (·.1)) /\ qa (cz.map fun c => (p, c)) := by
  have e : (dk (mvd p rs)).map (·.1) = ((dk (mvd p rs)).map fun e => e.1.2).map fun c => (p, c) := by
    rw [List.map_map]
    exact List.map_congr_left fun e m => Prod.ext (lE e m) rfl
  refine ⟨by rw [e]; exact po.map _, ?_⟩
  have nd : cz.Nodup := by
    have := (gE (mvd p rs)).1
    rw [e] at this
    have := (List.Perm.map (fun c => (p, c)) po).nodup_iff.mpr this
    exact (List.pairwise_map.mp this).imp fun h z => h (by rw [z])
  refine List.pairwise_map.mpr ((List.Pairwise.and oo nd).imp fun {a b} h => .inr ⟨rfl, ?_⟩)
  by_cases l : a < b
  . exact l
  . exact absurd (List.le_antisymm (List.not_lt.mp h.1) (List.not_lt.mp l)) h.2
theorem ceA {K : PySem.W.Frag} {β γ : Type} {n : Nat} {g : TG} {ks : List Nat} {tt : TT} {te : TE} {σ : St} {H : Hp} {Q : VK} {S : Hp -> V -> γ -> Prop} (hS : ∀ (G G' : Hp) (v : V) (c : γ), (∀ t l, G t = some (.tup l) -> G' t = some (.tup l)) -> S G v c -> S G' v c)
    (a : Addr) (vs : List V) (R : List β) (Rel : V -> β -> Prop) (p : β -> Bool) (f : β -> γ) (ha : H a = some (.lst vs)) (hN : NoT H) (hR : A2 Rel vs R) (hz : vs.length < sizeLine)
    (hs : ∀ v b, b ∈ R -> Rel v b -> ∀ G (zs : St) (N1 : VK) (N0 : Hp -> Prop), Same H G -> NoT G -> zs.length = n -> (p b = true -> ∀ u G', Same G G' -> NoT G' -> S G' u (f b) -> N1 u G') -> (p b = false -> ∀ G', Same G G' -> NoT G' -> N0 G') ->
      g v (zs ++ ks.map fun k => (σ[k]?).join) G fun σ4 H4 => (∃ zs4 : St, zs4.length = n /\ σ4 = zs4 ++ ks.map fun k => (σ[k]?).join) /\ tt σ4 H4 fun b H5 => if b = true then te σ4 H5 N1 else N0 H5)
    (q : ∀ D ws G, H D = none -> Same H G -> NoT G -> G D = some (.lst ws) -> A2 (S G) ws ((R.filter p).map f) -> Q (.ref D) G) : CEl (Itl K a) n g ks tt te σ H Q := by
  refine wY a vs (fun D i ys G => H D = none /\ Same H G /\ NoT G /\ G D = some (.lst ys) /\ ys.length <= i /\ A2 (S G) ys (((R.take i).filter p).map f)) hz ?_ ?_ ?_ ?_
  . exact fun D hD => ⟨hD, aq _ hD, az hN rfl, ad, Nat.le_refl _, .nil⟩
  . rintro D i ys G ⟨hD, sm, _, gd, ly, _⟩
    exact ⟨gd, SqL.of (sm _ _ ha), ly⟩
  . rintro D i y ys G zs N1 N0 hy ⟨hD, sm, nG, gd, ly, A⟩ hzs n1 n0
    obtain ⟨b, hb, rb⟩ := hR.at_ hy
    have mb := List.mem_of_getElem? hb
    have et : R.take (i + 1) = R.take i ++ [b] := by rw [List.take_succ, hb]; rfl
    rw [et, List.filter_append, List.map_append] at n1 n0
    refine hs y b mb rb G zs N1 N0 sm nG hzs (fun pb u G' s' nG' hu => ?_) fun pb G' s' nG' => n0 G' ⟨hD, sm.trans s', nG', s' _ _ gd, Nat.le_succ_of_le ly, ?_⟩
    . have gd' := s' _ _ gd
      have kt : ∀ t l, G' t = some (.tup l) -> upd G' D (.lst (ys ++ [u])) t = some (.tup l) := fun t l e => by
        rw [aj fun z => by rw [z, gd'] at e; cases e]; exact e
      refine n1 _ _ gd' ⟨hD, fun c o e => ?_, az nG' rfl, ad, by rw [List.length_append]; exact Nat.succ_le_succ ly, ?_⟩
      . rw [aj (av e hD)]; exact s' _ _ (sm _ _ e)
      . rw [List.filter_cons_of_pos pb, List.filter_nil]
        exact (A.imp fun _ _ _ _ h => hS _ _ _ _ kt (hS _ _ _ _ (fun t l e => s' _ _ e) h)).snoc (hS _ _ _ _ kt hu)
    . rw [List.filter_cons_of_neg (by rw [pb]; decide), List.filter_nil, List.map_nil, List.append_nil]
      exact A.imp fun _ _ _ _ h => hS _ _ _ _ (fun t l e => s' _ _ e) h
  . rintro D ys G ⟨hD, sm, nG, gd, _, A⟩
    rw [hR.len, List.take_length] at A
    exact q D ys G hD sm nG gd A
end K22
set_option maxHeartbeats 400000
namespace K22
open PySem L2
structure Adr where
  jL : Addr
  m5 : FuncData
  jZ : Addr
  mX : FuncData
  iY : Addr
  kX : FuncData
  lQ : Addr
  o_ : FuncData
  gB : Addr
  iK : FuncData
  n9 : Addr
  rg : FuncData
  mj : Addr
  oK : FuncData
  ot : Addr
  ri : FuncData
  iN : Addr
  kj : FuncData
  iJ : Addr
  ll : FuncData
  j5 : Addr
  m6 : FuncData
  i6 : Addr
  lM : FuncData
  mE : Addr
  oH : FuncData
  jN : Addr
  mY : FuncData
  rN : Addr
  uX : FuncData
  mw : Addr
  oR : FuncData
  d7 : Addr
  gf : FuncData
  jO : Addr
  m4 : FuncData
  ie : Addr
  jw : FuncData
  fE : Addr
  iF : FuncData
  im : Addr
  jA : FuncData
  h9 : Addr
  jG : FuncData
  dU : Addr
  fP : FuncData
  ic : Addr
  jx : FuncData
  fO : Addr
  ir : FuncData
  dX : Addr
  fW : FuncData
  h8 : Addr
  jH : FuncData
  ja : Addr
  lA : FuncData
  j7 : Addr
  mZ : FuncData
  bx : Addr
  g9 : FuncData
  fe : Addr
  jD : FuncData
  fX : Addr
  iu : FuncData
  fM : Addr
  iy : FuncData
  eR : Addr
  gL : FuncData
  jP : Addr
  m7 : FuncData
  fT : Addr
  zn : FuncData
  cR : Addr
  e7 : FuncData
  dC : Addr
  eG : FuncData
  cU : Addr
  dL : FuncData
  dt : Addr
  gs : FuncData
  eK : Addr
  gU : FuncData
  gi : Addr
  kh : FuncData
  ig : Addr
  jF : FuncData
  iS : Addr
  j8 : FuncData
  eN : Addr
  gM : FuncData
  eS : Addr
  gX : FuncData
  iE : Addr
  mO : FuncData
  cQ : Addr
  eX : FuncData
  gA : Addr
  iO : FuncData
  jc : Addr
  nj : FuncData
  gt : Addr
  jQ : FuncData
  eQ : Addr
  gY : FuncData
  rX : Addr
  qD : Addr
  uw : Addr
  jy : Addr
  qI : Addr
  qi : Addr
  iQ : Addr
  wO : Addr
  qF : Addr
  o3 : Addr
  mT : Addr
  aL : Addr
  aY : Addr
  aW : Addr
  dJ : Addr
  k_ : Addr
structure Txt (K : PySem.W.Frag) (mg : Str -> Option Value) (a : Adr) : Prop where
  jV : Fun K "is_whole" "is_whole" cS a.jL a.m5
  vA : mg "is_whole" = some (.ref a.jL)
  j2 : Fun K "is_among" "is_among" cK a.jZ a.mX
  vW : mg "is_among" = some (.ref a.jZ)
  eI : Fun K "signs_lie" "signs_lie" cq a.iY a.kX
  mU : mg "signs_lie" = some (.ref a.iY)
  g8 : Fun K "is_name" "is_name" dA a.lQ a.o_
  qO : mg "is_name" = some (.ref a.lQ)
  gw : Fun K "is_currency" "is_currency" bN a.gB a.iK
  pN : mg "is_currency" = some (.ref a.gB)
  oY : Fun K "turned" "turned" dW a.n9 a.rg
  AI : mg "turned" = some (.ref a.n9)
  gR : Fun K "sums_of" "sums_of" dB a.mj a.oK
  qH : mg "sums_of" = some (.ref a.mj)
  iM : Fun K "is_day" "is_day" dO a.ot a.ri
  uT : mg "is_day" = some (.ref a.ot)
  gh : Fun K "leap_days" "leap_days" cp a.iN a.kj
  ng : mg "leap_days" = some (.ref a.iN)
  i_ : Fun K "first_day" "first_day" cA a.iJ a.ll
  uA : mg "first_day" = some (.ref a.iJ)
  jM : Fun K "last_day" "last_day" cM a.j5 a.m6
  wc : mg "last_day" = some (.ref a.j5)
  iZ : Fun K "are_names" "are_names" cw a.i6 a.lM
  tI : mg "are_names" = some (.ref a.i6)
  g7 : Fun K "is_path" "is_path" dh a.mE a.oH
  qx : mg "is_path" = some (.ref a.mE)
  jT : Fun K "names_of" "names_of" cP a.jN a.mY
  vy : mg "names_of" = some (.ref a.jN)
  sd : Fun K "above" "above" fm a.rN a.uX
  BB : mg "above" = some (.ref a.rN)
  mF : Fun K "rows_of" "rows_of" dw a.mw a.oR
  xZ : mg "rows_of" = some (.ref a.mw)
  d9 : Fun K "bookings_up_to" "bookings_up_to" bi a.d7 a.gf
  lT : mg "bookings_up_to" = some (.ref a.d7)
  j0 : Fun K "balances" "balances" cN a.jO a.m4
  v9 : mg "balances" = some (.ref a.jO)
  cL : Fun K "carry_rows" "carry_rows" b6 a.ie a.jw
  ij : mg "carry_rows" = some (.ref a.ie)
  aI : Fun K "_law_cell_at" "_law_cell_at" bD a.fE a.iF
  aX : mg "_law_cell_at" = some (.ref a.fE)
  ia : Fun K "_law_whole" "_law_whole" b8 a.im a.jA
  sQ : mg "_law_whole" = some (.ref a.im)
  hU : Fun K "_law_names" "_law_names" b5 a.h9 a.jG
  sO : mg "_law_names" = some (.ref a.h9)
  ck : Fun K "_law_currencies" "_law_currencies" bd a.dU a.fP
  gk : mg "_law_currencies" = some (.ref a.dU)
  bL : Fun K "_law_start" "_law_start" b7 a.ic a.jx
  di : mg "_law_start" = some (.ref a.ic)
  fZ : Fun K "_law_lengths" "_law_lengths" bH a.fO a.ir
  oF : mg "_law_lengths" = some (.ref a.fO)
  cE : Fun K "_law_month_ends" "_law_month_ends" bc a.dX a.fW
  gq : mg "_law_month_ends" = some (.ref a.dX)
  hJ : Fun K "_law_month" "_law_month" bZ a.h8 a.jH
  rW : mg "_law_month" = some (.ref a.h8)
  de : Fun K "_law_base" "_law_base" cB a.ja a.lA
  iR : mg "_law_base" = some (.ref a.ja)
  jR : Fun K "_law_day" "_law_day" cT a.j7 a.mZ
  wj : mg "_law_day" = some (.ref a.j7)
  eJ : Fun K "_law_accounts" "_law_accounts" aO a.bx a.g9
  nq : mg "_law_accounts" = some (.ref a.bx)
  hV : Fun K "_law_chart" "_law_chart" bI a.fe a.jD
  sB : mg "_law_chart" = some (.ref a.fe)
  fJ : Fun K "_law_is_open" "_law_is_open" bE a.fX a.iu
  pA : mg "_law_is_open" = some (.ref a.fX)
  fH : Fun K "_law_rows_by" "_law_rows_by" bJ a.fM a.iy
  n6 : mg "_law_rows_by" = some (.ref a.fM)
  cX : Fun K "_law_balances" "_law_balances" bq a.eR a.gL
  iB : mg "_law_balances" = some (.ref a.eR)
  j1 : Fun K "_law_due" "_law_due" cO a.jP a.m7
  v7 : mg "_law_due" = some (.ref a.jP)
  Fg : Fun K "law" "law" cI a.fT a.zn
  FV : mg "law" = some (.ref a.fT)
  dI : Fun K "__init__" "Account.__init__" aZ a.cR a.e7
  vi : hG K a.aL "__init__" a.cR
  eY : Fun K "stands_on" "Account.stands_on" aV a.dC a.eG
  i7 : hG K a.aL "stands_on" a.dC
  dQ : Fun K "stands_later" "Account.stands_later" aS a.cU a.dL
  gW : hG K a.aL "stands_later" a.cU
  gQ : Fun K "__init__" "Chart.__init__" bh a.dt a.gs
  xn : hG K a.aY "__init__" a.dt
  iC : Fun K "add_top" "Chart.add_top" br a.eK a.gU
  lU : hG K a.aY "add_top" a.eK
  mP : Fun K "add" "Chart.add" bS a.gi a.kh
  sD : hG K a.aY "add" a.gi
  j9 : Fun K "shut" "Chart.shut" b4 a.ig a.jF
  pM : hG K a.aY "shut" a.ig
  nc : Fun K "has" "Chart.has" cC a.iS a.j8
  sK : hG K a.aY "has" a.iS
  dE : Fun K "account" "Chart.account" bp a.eN a.gM
  d6 : hG K a.aY "account" a.eN
  iw : Fun K "kind_of" "Chart.kind_of" bv a.eS a.gX
  l_ : hG K a.aY "kind_of" a.eS
  yJ : Fun K "beneath" "Chart.beneath" bX a.iE a.mO
  yp : hG K a.aY "beneath" a.iE
  fA : Fun K "__init__" "Journal.__init__" a_ a.cQ a.eX
  vh : hG K a.aW "__init__" a.cQ
  gC : Fun K "put" "Journal.put" bO a.gA a.iO
  iI : hG K a.aW "put" a.gA
  AU : Fun K "many" "Journal.many" cf a.jc a.nj
  yK : hG K a.aW "many" a.jc
  xh : Fun K "booking" "Journal.booking" bG a.gt a.jQ
  vV : hG K a.aW "booking" a.gt
  cW : Fun K "every" "Journal.every" bt a.eQ a.gY
  dv : hG K a.aW "every" a.eQ
  AW : mg "HouseError" = some (.ref a.rX)
  yu : mg "BadName" = some (.ref a.qD)
  uS : mg "BadDay" = some (.ref a.uw)
  qg : mg "BadCurrency" = some (.ref a.jy)
  lX : mg "BadPath" = some (.ref a.qI)
  yt : mg "BadKind" = some (.ref a.qi)
  ue : mg "NoAccount" = some (.ref a.iQ)
  wx : mg "Twice" = some (.ref a.wO)
  qA : mg "NotOpen" = some (.ref a.qF)
  vj : mg "HasBelow" = some (.ref a.o3)
  CA : mg "NoBooking" = some (.ref a.mT)
  rl : mg "Account" = some (.ref a.aL)
  AZ : mg "Chart" = some (.ref a.aY)
  yB : mg "Journal" = some (.ref a.aW)
  ba : Cls K a.aL
  fV : NoAttr K a.aL "kind"
  j4 : NoAttr K a.aL "currency"
  eP : NoAttr K a.aL "first"
  cj : NoAttr K a.aL "until"
  eT : NoAttr K a.aL "below"
  px : Mk K a.aL a.cR
  b_ : Cls K a.aY
  bU : NoAttr K a.aY "by_path"
  y6 : Mk K a.aY a.dt
  ce : Cls K a.aW
  cV : NoAttr K a.aW "bookings"
  jU : NoAttr K a.aW "undoings"
  v4 : Mk K a.aW a.cQ
  pH : PySem.W.excIn K a.jy [.type "ValueError", .type "Exception", .type "BaseException", .type "object"] "ValueError.__new__" = true
  tX : PySem.W.excIn K a.uw [.type "ValueError", .type "Exception", .type "BaseException", .type "object"] "ValueError.__new__" = true
  yj : PySem.W.excIn K a.qi [.type "ValueError", .type "Exception", .type "BaseException", .type "object"] "ValueError.__new__" = true
  yd : PySem.W.excIn K a.qD [.type "ValueError", .type "Exception", .type "BaseException", .type "object"] "ValueError.__new__" = true
  mD : PySem.W.excIn K a.qI [.type "ValueError", .type "Exception", .type "BaseException", .type "object"] "ValueError.__new__" = true
  vt : PySem.W.excIn K a.o3 [.type "ValueError", .type "Exception", .type "BaseException", .type "object"] "ValueError.__new__" = true
  uL : PySem.W.excIn K a.iQ [.type "ValueError", .type "Exception", .type "BaseException", .type "object"] "ValueError.__new__" = true
  Cj : PySem.W.excIn K a.mT [.type "ValueError", .type "Exception", .type "BaseException", .type "object"] "ValueError.__new__" = true
  qZ : PySem.W.excIn K a.qF [.type "ValueError", .type "Exception", .type "BaseException", .type "object"] "ValueError.__new__" = true
  wD : PySem.W.excIn K a.wO [.type "ValueError", .type "Exception", .type "BaseException", .type "object"] "ValueError.__new__" = true
  yc : mg "LENGTHS" = some (.ref a.dJ)
  dJ : ∃ (o : Obj) (its : Array Value) (n : Nat), K.lookup a.dJ = some o /\ o.cls = .type "tuple" /\ o.data = .seq its n /\ its.size <= sizeLine /\ Vals (([31, 28, 31, 30, 31, 30, 31, 31, 30, 31, 30, 31] : List Int).map V.int) its.toList
  BP : mg "KINDS" = some (.ref a.k_)
  k_ : ∃ (o : Obj) (its : Array Value) (n : Nat), K.lookup a.k_ = some o /\ o.cls = .type "tuple" /\ o.data = .seq its n /\ its.size <= sizeLine /\ Vals (([[104, 97, 118, 101], [111, 119, 101], [111, 119, 110], [103, 97, 105, 110], [99, 111, 115, 116]] : List (List Nat)).map T) its.toList
  Af : mg "all" = none
  Fh : mg "any" = none
  ze : mg "bool" = none
  zA : mg "int" = none
  bQ : mg "isinstance" = none
  iD : mg "len" = none
  sU : mg "list" = none
  Cg : mg "max" = none
  Cn : mg "min" = none
  jj : mg "range" = none
  nV : mg "sorted" = none
  xi : mg "str" = none
  yO : mg "sum" = none
  rH : mg "tuple" = none
theorem vn : bootBuiltins "all" = some (.builtin "all") := by decide +kernel
theorem DL : bootBuiltins "any" = some (.builtin "any") := by decide +kernel
theorem wV : bootBuiltins "bool" = some (.type "bool") := by decide +kernel
theorem vk : bootBuiltins "int" = some (.type "int") := by decide +kernel
theorem bC : bootBuiltins "isinstance" = some (.builtin "isinstance") := by decide +kernel
theorem eM : bootBuiltins "len" = some (.builtin "len") := by decide +kernel
theorem nP : bootBuiltins "list" = some (.type "list") := by decide +kernel
theorem yQ : bootBuiltins "max" = some (.builtin "max") := by decide +kernel
theorem AJ : bootBuiltins "min" = some (.builtin "min") := by decide +kernel
theorem mi : bootBuiltins "sorted" = some (.builtin "sorted") := by decide +kernel
theorem r6 : bootBuiltins "str" = some (.type "str") := by decide +kernel
theorem vO : bootBuiltins "sum" = some (.builtin "sum") := by decide +kernel
theorem oS : bootBuiltins "tuple" = some (.type "tuple") := by decide +kernel
theorem uC : aH ["thing"] ["thing"] (ag cS) := ⟨rfl, rfl, rfl, by decide +kernel, rfl, by decide +kernel, by decide +kernel⟩
theorem uJ {K : PySem.W.Frag} {f : Addr} {fd : FuncData} (F : Fun K "is_whole" "is_whole" cS f fd) : Binds K fd ["thing"] [] := F.binds (ps := ["thing"]) fun _ _ _ _ _ _ us hl => by obtain ⟨_, rfl⟩ := ex1 hl; rfl
theorem u6 : aH ["thing", "least", "most"] ["thing", "least", "most"] (ag cK) := ⟨rfl, rfl, rfl, by decide +kernel, rfl, by decide +kernel, by decide +kernel⟩
theorem tY {K : PySem.W.Frag} {f : Addr} {fd : FuncData} (F : Fun K "is_among" "is_among" cK f fd) : Binds K fd ["thing", "least", "most"] [] := F.binds (ps := ["thing", "least", "most"]) fun _ _ _ _ _ _ us hl => by obtain ⟨_, _, _, rfl⟩ := ex3 hl; rfl
theorem rJ : aH ["text", "least", "most"] ["text", "least", "most"] (ag cq) := ⟨rfl, rfl, rfl, by decide +kernel, rfl, by decide +kernel, by decide +kernel⟩
theorem lD {K : PySem.W.Frag} {f : Addr} {fd : FuncData} (F : Fun K "signs_lie" "signs_lie" cq f fd) : Binds K fd ["text", "least", "most"] [] := F.binds (ps := ["text", "least", "most"]) fun _ _ _ _ _ _ us hl => by obtain ⟨_, _, _, rfl⟩ := ex3 hl; rfl
theorem wa : aH ["thing"] ["thing"] (ag dA) := ⟨rfl, rfl, rfl, by decide +kernel, rfl, by decide +kernel, by decide +kernel⟩
theorem oj {K : PySem.W.Frag} {f : Addr} {fd : FuncData} (F : Fun K "is_name" "is_name" dA f fd) : Binds K fd ["thing"] [] := F.binds (ps := ["thing"]) fun _ _ _ _ _ _ us hl => by obtain ⟨_, rfl⟩ := ex1 hl; rfl
theorem pC : aH ["thing"] ["thing"] (ag bN) := ⟨rfl, rfl, rfl, by decide +kernel, rfl, by decide +kernel, by decide +kernel⟩
theorem nW {K : PySem.W.Frag} {f : Addr} {fd : FuncData} (F : Fun K "is_currency" "is_currency" bN f fd) : Binds K fd ["thing"] [] := F.binds (ps := ["thing"]) fun _ _ _ _ _ _ us hl => by obtain ⟨_, rfl⟩ := ex1 hl; rfl
theorem xQ : aH ["rows"] ["rows"] (ag dW) := ⟨rfl, rfl, rfl, by decide +kernel, rfl, by decide +kernel, by decide +kernel⟩
theorem yA {K : PySem.W.Frag} {f : Addr} {fd : FuncData} (F : Fun K "turned" "turned" dW f fd) : Binds K fd ["rows"] [] := F.binds (ps := ["rows"]) fun _ _ _ _ _ _ us hl => by obtain ⟨_, rfl⟩ := ex1 hl; rfl
theorem pD : aH ["rows", "together", "path", "currency", "amount"] ["rows"] (ag dB) := ⟨rfl, rfl, rfl, by decide +kernel, rfl, by decide +kernel, by decide +kernel⟩
theorem oE {K : PySem.W.Frag} {f : Addr} {fd : FuncData} (F : Fun K "sums_of" "sums_of" dB f fd) : Binds K fd ["rows"] [] := F.binds (ps := ["rows"]) fun _ _ _ _ _ _ us hl => by obtain ⟨_, rfl⟩ := ex1 hl; rfl
theorem yg : aH ["thing"] ["thing"] (ag dO) := ⟨rfl, rfl, rfl, by decide +kernel, rfl, by decide +kernel, by decide +kernel⟩
theorem ql {K : PySem.W.Frag} {f : Addr} {fd : FuncData} (F : Fun K "is_day" "is_day" dO f fd) : Binds K fd ["thing"] [] := F.binds (ps := ["thing"]) fun _ _ _ _ _ _ us hl => by obtain ⟨_, rfl⟩ := ex1 hl; rfl
theorem sS : aH ["years"] ["years"] (ag cp) := ⟨rfl, rfl, rfl, by decide +kernel, rfl, by decide +kernel, by decide +kernel⟩
theorem sT {K : PySem.W.Frag} {f : Addr} {fd : FuncData} (F : Fun K "leap_days" "leap_days" cp f fd) : Binds K fd ["years"] [] := F.binds (ps := ["years"]) fun _ _ _ _ _ _ us hl => by obtain ⟨_, rfl⟩ := ex1 hl; rfl
theorem lB : aH ["month", "years", "ahead", "leaps"] ["month"] (ag cA) := ⟨rfl, rfl, rfl, by decide +kernel, rfl, by decide +kernel, by decide +kernel⟩
theorem sI {K : PySem.W.Frag} {f : Addr} {fd : FuncData} (F : Fun K "first_day" "first_day" cA f fd) : Binds K fd ["month"] [] := F.binds (ps := ["month"]) fun _ _ _ _ _ _ us hl => by obtain ⟨_, rfl⟩ := ex1 hl; rfl
theorem tL : aH ["month"] ["month"] (ag cM) := ⟨rfl, rfl, rfl, by decide +kernel, rfl, by decide +kernel, by decide +kernel⟩
theorem uH {K : PySem.W.Frag} {f : Addr} {fd : FuncData} (F : Fun K "last_day" "last_day" cM f fd) : Binds K fd ["month"] [] := F.binds (ps := ["month"]) fun _ _ _ _ _ _ us hl => by obtain ⟨_, rfl⟩ := ex1 hl; rfl
theorem rS : aH ["names"] ["names"] (ag cw) := ⟨rfl, rfl, rfl, by decide +kernel, rfl, by decide +kernel, by decide +kernel⟩
theorem sP {K : PySem.W.Frag} {f : Addr} {fd : FuncData} (F : Fun K "are_names" "are_names" cw f fd) : Binds K fd ["names"] [] := F.binds (ps := ["names"]) fun _ _ _ _ _ _ us hl => by obtain ⟨_, rfl⟩ := ex1 hl; rfl
theorem vJ : aH ["thing"] ["thing"] (ag dh) := ⟨rfl, rfl, rfl, by decide +kernel, rfl, by decide +kernel, by decide +kernel⟩
theorem ph {K : PySem.W.Frag} {f : Addr} {fd : FuncData} (F : Fun K "is_path" "is_path" dh f fd) : Binds K fd ["thing"] [] := F.binds (ps := ["thing"]) fun _ _ _ _ _ _ us hl => by obtain ⟨_, rfl⟩ := ex1 hl; rfl
theorem uM : aH ["path"] ["path"] (ag cP) := ⟨rfl, rfl, rfl, by decide +kernel, rfl, by decide +kernel, by decide +kernel⟩
theorem tG {K : PySem.W.Frag} {f : Addr} {fd : FuncData} (F : Fun K "names_of" "names_of" cP f fd) : Binds K fd ["path"] [] := F.binds (ps := ["path"]) fun _ _ _ _ _ _ us hl => by obtain ⟨_, rfl⟩ := ex1 hl; rfl
theorem sZ : aH ["path", "names"] ["path"] (ag fm) := ⟨rfl, rfl, rfl, by decide +kernel, rfl, by decide +kernel, by decide +kernel⟩
theorem zK {K : PySem.W.Frag} {f : Addr} {fd : FuncData} (F : Fun K "above" "above" fm f fd) : Binds K fd ["path"] [] := F.binds (ps := ["path"]) fun _ _ _ _ _ _ us hl => by obtain ⟨_, rfl⟩ := ex1 hl; rfl
theorem on : aH ["bookings", "rows", "booking"] ["bookings"] (ag dw) := ⟨rfl, rfl, rfl, by decide +kernel, rfl, by decide +kernel, by decide +kernel⟩
theorem vz {K : PySem.W.Frag} {f : Addr} {fd : FuncData} (F : Fun K "rows_of" "rows_of" dw f fd) : Binds K fd ["bookings"] [] := F.binds (ps := ["bookings"]) fun _ _ _ _ _ _ us hl => by obtain ⟨_, rfl⟩ := ex1 hl; rfl
theorem kc : aH ["journal", "day"] ["journal", "day"] (ag bi) := ⟨rfl, rfl, rfl, by decide +kernel, rfl, by decide +kernel, by decide +kernel⟩
theorem kF {K : PySem.W.Frag} {f : Addr} {fd : FuncData} (F : Fun K "bookings_up_to" "bookings_up_to" bi f fd) : Binds K fd ["journal", "day"] [] := F.binds (ps := ["journal", "day"]) fun _ _ _ _ _ _ us hl => by obtain ⟨_, _, rfl⟩ := ex2 hl; rfl
theorem vd : aH ["chart", "journal", "day"] ["chart", "journal", "day"] (ag cN) := ⟨rfl, rfl, rfl, by decide +kernel, rfl, by decide +kernel, by decide +kernel⟩
theorem tw {K : PySem.W.Frag} {f : Addr} {fd : FuncData} (F : Fun K "balances" "balances" cN f fd) : Binds K fd ["chart", "journal", "day"] [] := F.binds (ps := ["chart", "journal", "day"]) fun _ _ _ _ _ _ us hl => by obtain ⟨_, _, _, rfl⟩ := ex3 hl; rfl
theorem jB : aH ["chart", "journal", "path", "year", "day", "carried"] ["chart", "journal", "path", "year"] (ag b6) := ⟨rfl, rfl, rfl, by decide +kernel, rfl, by decide +kernel, by decide +kernel⟩
theorem gu {K : PySem.W.Frag} {f : Addr} {fd : FuncData} (F : Fun K "carry_rows" "carry_rows" b6 f fd) : Binds K fd ["chart", "journal", "path", "year"] [] := F.binds (ps := ["chart", "journal", "path", "year"]) fun _ _ _ _ _ _ us hl => by obtain ⟨_, _, _, _, rfl⟩ := ex4 hl; rfl
theorem ny : aH ["_law_script", "_law_k"] ["_law_script", "_law_k"] (ag bD) := ⟨rfl, rfl, rfl, by decide +kernel, rfl, by decide +kernel, by decide +kernel⟩
theorem bV {K : PySem.W.Frag} {f : Addr} {fd : FuncData} (F : Fun K "_law_cell_at" "_law_cell_at" bD f fd) : Binds K fd ["_law_script", "_law_k"] [] := F.binds (ps := ["_law_script", "_law_k"]) fun _ _ _ _ _ _ us hl => by obtain ⟨_, _, rfl⟩ := ex2 hl; rfl
theorem pI : aH ["_law_found"] ["_law_found"] (ag b8) := ⟨rfl, rfl, rfl, by decide +kernel, rfl, by decide +kernel, by decide +kernel⟩
theorem pU {K : PySem.W.Frag} {f : Addr} {fd : FuncData} (F : Fun K "_law_whole" "_law_whole" b8 f fd) : Binds K fd ["_law_found"] [] := F.binds (ps := ["_law_found"]) fun _ _ _ _ _ _ us hl => by obtain ⟨_, rfl⟩ := ex1 hl; rfl
theorem jz : aH ["_law_cell", "_law_word", "_law_more", "_law_k", "_law_at"] ["_law_cell"] (ag b5) := ⟨rfl, rfl, rfl, by decide +kernel, rfl, by decide +kernel, by decide +kernel⟩
theorem pL {K : PySem.W.Frag} {f : Addr} {fd : FuncData} (F : Fun K "_law_names" "_law_names" b5 f fd) : Binds K fd ["_law_cell"] [] := F.binds (ps := ["_law_cell"]) fun _ _ _ _ _ _ us hl => by obtain ⟨_, rfl⟩ := ex1 hl; rfl
theorem fB : aH ["_law_cell", "_law_two"] ["_law_cell"] (ag bd) := ⟨rfl, rfl, rfl, by decide +kernel, rfl, by decide +kernel, by decide +kernel⟩
theorem f_ {K : PySem.W.Frag} {f : Addr} {fd : FuncData} (F : Fun K "_law_currencies" "_law_currencies" bd f fd) : Binds K fd ["_law_cell"] [] := F.binds (ps := ["_law_cell"]) fun _ _ _ _ _ _ us hl => by obtain ⟨_, rfl⟩ := ex1 hl; rfl
theorem qe : aH ["_law_year"] ["_law_year"] (ag b7) := ⟨rfl, rfl, rfl, by decide +kernel, rfl, by decide +kernel, by decide +kernel⟩
theorem eB {K : PySem.W.Frag} {f : Addr} {fd : FuncData} (F : Fun K "_law_start" "_law_start" b7 f fd) : Binds K fd ["_law_year"] [] := F.binds (ps := ["_law_year"]) fun _ _ _ _ _ _ us hl => by obtain ⟨_, rfl⟩ := ex1 hl; rfl
theorem ip : aH ["_law_year", "_law_second"] ["_law_year"] (ag bH) := ⟨rfl, rfl, rfl, by decide +kernel, rfl, by decide +kernel, by decide +kernel⟩
theorem nC {K : PySem.W.Frag} {f : Addr} {fd : FuncData} (F : Fun K "_law_lengths" "_law_lengths" bH f fd) : Binds K fd ["_law_year"] [] := F.binds (ps := ["_law_year"]) fun _ _ _ _ _ _ us hl => by obtain ⟨_, rfl⟩ := ex1 hl; rfl
theorem fI : aH ["_law_month_here", "_law_lengths_here", "_law_first"] ["_law_month_here"] (ag bc) := ⟨rfl, rfl, rfl, by decide +kernel, rfl, by decide +kernel, by decide +kernel⟩
theorem fY {K : PySem.W.Frag} {f : Addr} {fd : FuncData} (F : Fun K "_law_month_ends" "_law_month_ends" bc f fd) : Binds K fd ["_law_month_here"] [] := F.binds (ps := ["_law_month_here"]) fun _ _ _ _ _ _ us hl => by obtain ⟨_, rfl⟩ := ex1 hl; rfl
theorem jC : aH ["_law_day_here", "_law_year", "_law_month_here"] ["_law_day_here"] (ag bZ) := ⟨rfl, rfl, rfl, by decide +kernel, rfl, by decide +kernel, by decide +kernel⟩
theorem pQ {K : PySem.W.Frag} {f : Addr} {fd : FuncData} (F : Fun K "_law_month" "_law_month" bZ f fd) : Binds K fd ["_law_day_here"] [] := F.binds (ps := ["_law_day_here"]) fun _ _ _ _ _ _ us hl => by obtain ⟨_, rfl⟩ := ex1 hl; rfl
theorem lg : aH ["_law_script", "_law_cell"] ["_law_script"] (ag cB) := ⟨rfl, rfl, rfl, by decide +kernel, rfl, by decide +kernel, by decide +kernel⟩
theorem hE {K : PySem.W.Frag} {f : Addr} {fd : FuncData} (F : Fun K "_law_base" "_law_base" cB f fd) : Binds K fd ["_law_script"] [] := F.binds (ps := ["_law_script"]) fun _ _ _ _ _ _ us hl => by obtain ⟨_, rfl⟩ := ex1 hl; rfl
theorem tE : aH ["_law_script", "_law_k"] ["_law_script", "_law_k"] (ag cT) := ⟨rfl, rfl, rfl, by decide +kernel, rfl, by decide +kernel, by decide +kernel⟩
theorem t8 {K : PySem.W.Frag} {f : Addr} {fd : FuncData} (F : Fun K "_law_day" "_law_day" cT f fd) : Binds K fd ["_law_script", "_law_k"] [] := F.binds (ps := ["_law_script", "_law_k"]) fun _ _ _ _ _ _ us hl => by obtain ⟨_, _, rfl⟩ := ex2 hl; rfl
theorem dm : aH ["_law_script", "_law_names_here", "_law_currencies_here", "_law_cell", "_law_kinds", "_law_tops", "_law_accounts_here", "_law_k", "_law_some", "_law_more", "_law_upper", "_law_until", "_law_currency"] ["_law_script"] (ag aO) := ⟨rfl, rfl, rfl, by decide +kernel, rfl, by decide +kernel, by decide +kernel⟩
theorem mG {K : PySem.W.Frag} {f : Addr} {fd : FuncData} (F : Fun K "_law_accounts" "_law_accounts" aO f fd) : Binds K fd ["_law_script"] [] := F.binds (ps := ["_law_script"]) fun _ _ _ _ _ _ us hl => by obtain ⟨_, rfl⟩ := ex1 hl; rfl
theorem jE : aH ["_law_accounts_here", "_law_chart_here", "_law_path", "_law_currency", "_law_first", "_law_until", "_law_kind"] ["_law_accounts_here"] (ag bI) := ⟨rfl, rfl, rfl, by decide +kernel, rfl, by decide +kernel, by decide +kernel⟩
theorem pR {K : PySem.W.Frag} {f : Addr} {fd : FuncData} (F : Fun K "_law_chart" "_law_chart" bI f fd) : Binds K fd ["_law_accounts_here"] [] := F.binds (ps := ["_law_accounts_here"]) fun _ _ _ _ _ _ us hl => by obtain ⟨_, rfl⟩ := ex1 hl; rfl
theorem io : aH ["_law_accounts_here", "_law_path", "_law_day_here", "_law_first", "_law_until"] ["_law_accounts_here", "_law_path", "_law_day_here"] (ag bE) := ⟨rfl, rfl, rfl, by decide +kernel, rfl, by decide +kernel, by decide +kernel⟩
theorem nv {K : PySem.W.Frag} {f : Addr} {fd : FuncData} (F : Fun K "_law_is_open" "_law_is_open" bE f fd) : Binds K fd ["_law_accounts_here", "_law_path", "_law_day_here"] [] := F.binds (ps := ["_law_accounts_here", "_law_path", "_law_day_here"]) fun _ _ _ _ _ _ us hl => by obtain ⟨_, _, _, rfl⟩ := ex3 hl; rfl
theorem iA : aH ["_law_cell", "_law_accounts_here", "_law_day_here", "_law_currencies_here", "_law_currency", "_law_paths", "_law_rows", "_law_total", "_law_k", "_law_amount"] ["_law_cell", "_law_accounts_here", "_law_day_here", "_law_currencies_here"] (ag bJ) := ⟨rfl, rfl, rfl, by decide +kernel, rfl, by decide +kernel, by decide +kernel⟩
theorem nI {K : PySem.W.Frag} {f : Addr} {fd : FuncData} (F : Fun K "_law_rows_by" "_law_rows_by" bJ f fd) : Binds K fd ["_law_cell", "_law_accounts_here", "_law_day_here", "_law_currencies_here"] [] := F.binds (ps := ["_law_cell", "_law_accounts_here", "_law_day_here", "_law_currencies_here"]) fun _ _ _ _ _ _ us hl => by obtain ⟨_, _, _, _, rfl⟩ := ex4 hl; rfl
theorem gG : aH ["_law_bookings", "_law_day_here", "_law_found", "_law_booking", "_law_path", "_law_currency", "_law_amount"] ["_law_bookings", "_law_day_here"] (ag bq) := ⟨rfl, rfl, rfl, by decide +kernel, rfl, by decide +kernel, by decide +kernel⟩
theorem gT {K : PySem.W.Frag} {f : Addr} {fd : FuncData} (F : Fun K "_law_balances" "_law_balances" bq f fd) : Binds K fd ["_law_bookings", "_law_day_here"] [] := F.binds (ps := ["_law_bookings", "_law_day_here"]) fun _ _ _ _ _ _ us hl => by obtain ⟨_, _, rfl⟩ := ex2 hl; rfl
theorem mR : aH ["_law_accounts_here", "_law_bookings", "_law_path", "_law_day_here", "_law_rows", "_law_together", "_law_account", "_law_currency", "_law_amount"] ["_law_accounts_here", "_law_bookings", "_law_path", "_law_day_here"] (ag cO) := ⟨rfl, rfl, rfl, by decide +kernel, rfl, by decide +kernel, by decide +kernel⟩
theorem uR {K : PySem.W.Frag} {f : Addr} {fd : FuncData} (F : Fun K "_law_due" "_law_due" cO f fd) : Binds K fd ["_law_accounts_here", "_law_bookings", "_law_path", "_law_day_here"] [] := F.binds (ps := ["_law_accounts_here", "_law_bookings", "_law_path", "_law_day_here"]) fun _ _ _ _ _ _ us hl => by obtain ⟨_, _, _, _, rfl⟩ := ex4 hl; rfl
theorem jd : aH ["_law_script", "_law_accounts_here", "_law_chart_here", "_law_currencies_here", "_law_journal", "_law_k", "_law_day_here", "_law_year", "_law_path", "_law_own", "_law_bookings", "_law_due_here", "_law_found", "_law_currency", "_law_rest"] ["_law_script"] (ag cI) := ⟨rfl, rfl, rfl, by decide +kernel, rfl, by decide +kernel, by decide +kernel⟩
theorem jt : aH ["self", "kind", "currency", "first"] ["self", "kind", "currency", "first"] (ag aZ) := ⟨rfl, rfl, rfl, by decide +kernel, rfl, by decide +kernel, by decide +kernel⟩
theorem eW {K : PySem.W.Frag} {f : Addr} {fd : FuncData} (F : Fun K "__init__" "Account.__init__" aZ f fd) : Binds K fd ["self", "kind", "currency", "first"] [] := F.binds (ps := ["self", "kind", "currency", "first"]) fun _ _ _ _ _ _ us hl => by obtain ⟨_, _, _, _, rfl⟩ := ex4 hl; rfl
theorem je : aH ["self", "day"] ["self", "day"] (ag aV) := ⟨rfl, rfl, rfl, by decide +kernel, rfl, by decide +kernel, by decide +kernel⟩
theorem i5 {K : PySem.W.Frag} {f : Addr} {fd : FuncData} (F : Fun K "stands_on" "Account.stands_on" aV f fd) : Binds K fd ["self", "day"] [] := F.binds (ps := ["self", "day"]) fun _ _ _ _ _ _ us hl => by obtain ⟨_, _, rfl⟩ := ex2 hl; rfl
theorem gH : aH ["self", "day"] ["self", "day"] (ag aS) := ⟨rfl, rfl, rfl, by decide +kernel, rfl, by decide +kernel, by decide +kernel⟩
theorem gN {K : PySem.W.Frag} {f : Addr} {fd : FuncData} (F : Fun K "stands_later" "Account.stands_later" aS f fd) : Binds K fd ["self", "day"] [] := F.binds (ps := ["self", "day"]) fun _ _ _ _ _ _ us hl => by obtain ⟨_, _, rfl⟩ := ex2 hl; rfl
theorem kr : aH ["self"] ["self"] (ag bh) := ⟨rfl, rfl, rfl, by decide +kernel, rfl, by decide +kernel, by decide +kernel⟩
theorem lI {K : PySem.W.Frag} {f : Addr} {fd : FuncData} (F : Fun K "__init__" "Chart.__init__" bh f fd) : Binds K fd ["self"] [] := F.binds (ps := ["self"]) fun _ _ _ _ _ _ us hl => by obtain ⟨_, rfl⟩ := ex1 hl; rfl
theorem mm : aH ["self", "name", "kind"] ["self", "name", "kind"] (ag br) := ⟨rfl, rfl, rfl, by decide +kernel, rfl, by decide +kernel, by decide +kernel⟩
theorem lY {K : PySem.W.Frag} {f : Addr} {fd : FuncData} (F : Fun K "add_top" "Chart.add_top" br f fd) : Binds K fd ["self", "name", "kind"] [] := F.binds (ps := ["self", "name", "kind"]) fun _ _ _ _ _ _ us hl => by obtain ⟨_, _, _, rfl⟩ := ex3 hl; rfl
theorem lH : aH ["self", "path", "currency", "day", "upper"] ["self", "path", "currency", "day"] (ag bS) := ⟨rfl, rfl, rfl, by decide +kernel, rfl, by decide +kernel, by decide +kernel⟩
theorem sE {K : PySem.W.Frag} {f : Addr} {fd : FuncData} (F : Fun K "add" "Chart.add" bS f fd) : Binds K fd ["self", "path", "currency", "day"] [] := F.binds (ps := ["self", "path", "currency", "day"]) fun _ _ _ _ _ _ us hl => by obtain ⟨_, _, _, _, rfl⟩ := ex4 hl; rfl
theorem ju : aH ["self", "path", "day", "account"] ["self", "path", "day"] (ag b4) := ⟨rfl, rfl, rfl, by decide +kernel, rfl, by decide +kernel, by decide +kernel⟩
theorem pK {K : PySem.W.Frag} {f : Addr} {fd : FuncData} (F : Fun K "shut" "Chart.shut" b4 f fd) : Binds K fd ["self", "path", "day"] [] := F.binds (ps := ["self", "path", "day"]) fun _ _ _ _ _ _ us hl => by obtain ⟨_, _, _, rfl⟩ := ex3 hl; rfl
theorem sL : aH ["self", "path"] ["self", "path"] (ag cC) := ⟨rfl, rfl, rfl, by decide +kernel, rfl, by decide +kernel, by decide +kernel⟩
theorem sC {K : PySem.W.Frag} {f : Addr} {fd : FuncData} (F : Fun K "has" "Chart.has" cC f fd) : Binds K fd ["self", "path"] [] := F.binds (ps := ["self", "path"]) fun _ _ _ _ _ _ us hl => by obtain ⟨_, _, rfl⟩ := ex2 hl; rfl
theorem mh : aH ["self", "path"] ["self", "path"] (ag bp) := ⟨rfl, rfl, rfl, by decide +kernel, rfl, by decide +kernel, by decide +kernel⟩
theorem d5 {K : PySem.W.Frag} {f : Addr} {fd : FuncData} (F : Fun K "account" "Chart.account" bp f fd) : Binds K fd ["self", "path"] [] := F.binds (ps := ["self", "path"]) fun _ _ _ _ _ _ us hl => by obtain ⟨_, _, rfl⟩ := ex2 hl; rfl
theorem mK : aH ["self", "path"] ["self", "path"] (ag bv) := ⟨rfl, rfl, rfl, by decide +kernel, rfl, by decide +kernel, by decide +kernel⟩
theorem lP {K : PySem.W.Frag} {f : Addr} {fd : FuncData} (F : Fun K "kind_of" "Chart.kind_of" bv f fd) : Binds K fd ["self", "path"] [] := F.binds (ps := ["self", "path"]) fun _ _ _ _ _ _ us hl => by obtain ⟨_, _, rfl⟩ := ex2 hl; rfl
theorem jq : aH ["self"] ["self"] (ag a_) := ⟨rfl, rfl, rfl, by decide +kernel, rfl, by decide +kernel, by decide +kernel⟩
theorem jr {K : PySem.W.Frag} {f : Addr} {fd : FuncData} (F : Fun K "__init__" "Journal.__init__" a_ f fd) : Binds K fd ["self"] [] := F.binds (ps := ["self"]) fun _ _ _ _ _ _ us hl => by obtain ⟨_, rfl⟩ := ex1 hl; rfl
theorem iG : aH ["self", "day", "note", "rows", "undoes", "number"] ["self", "day", "note", "rows", "undoes"] (ag bO) := ⟨rfl, rfl, rfl, by decide +kernel, rfl, by decide +kernel, by decide +kernel⟩
theorem iP {K : PySem.W.Frag} {f : Addr} {fd : FuncData} (F : Fun K "put" "Journal.put" bO f fd) : Binds K fd ["self", "day", "note", "rows", "undoes"] [] := F.binds (ps := ["self", "day", "note", "rows", "undoes"]) fun _ _ _ _ _ _ us hl => by obtain ⟨_, _, _, _, _, rfl⟩ := ex5 hl; rfl
theorem mt : aH ["self"] ["self"] (ag bt) := ⟨rfl, rfl, rfl, by decide +kernel, rfl, by decide +kernel, by decide +kernel⟩
theorem dl {K : PySem.W.Frag} {f : Addr} {fd : FuncData} (F : Fun K "every" "Journal.every" bt f fd) : Binds K fd ["self"] [] := F.binds (ps := ["self"]) fun _ _ _ _ _ _ us hl => by obtain ⟨_, rfl⟩ := ex1 hl; rfl
seal L2.PE L2.PT L2.PW L2.PA L2.PS L2.PSs L2.PI L2.PG L2.PGs L2.PO
open PySem L2 K19
local macro_rules | `(tactic| walk_at "rd") => `(tactic| try simp only [zg, rdI, V.int.injEq, V.ref.injEq, wU, zC, xB, wR, zP, yY, AA, yL, zI, L2.iz, List.map_cons, List.map_nil, List.cons_append, List.nil_append, List.append_nil, List.length_cons, List.length_nil, List.replicate, List.getElem?_cons_zero, List.getElem?_cons_succ, List.set_cons_zero, List.set_cons_succ, Nat.reduceSub, Nat.reduceAdd, Int.reduceLT, Int.reduceLE, Int.reducePow, Int.reduceNeg, Nat.reducePow, List.cons.injEq, exists_eq_left', exists_eq_left, eq_self, if_false, if_true, ↓reduceIte, ite_not, forall_const, Option.bind_some, id_eq, zJ, xj])
local macro_rules | `(tactic| walk_at "om") => `(tactic| first | exact Nat.le_trans (by decide) (by assumption : 1000 <= sizeLine) | omega)
section
variable {pS : Addr} {ns : List Int} {P : Program} {w : World} {K : PySem.W.Frag} {mg : Str -> Option Value} {base : Heap} {a : Adr}
theorem szl : 1000 <= sizeLine := by rw [sizeLine_eq]; decide
theorem yk : 1000 < sizeLine := by rw [sizeLine_eq]; decide
theorem itp {c : Prop} [Decidable c] {t e : Prop} (h : c) (x : t) : ite c t e := by rw [if_pos h]; exact x
theorem itn {c : Prop} [Decidable c] {t e : Prop} (h : ¬ c) (x : e) : ite c t e := by rw [if_neg h]; exact x
def sp_m9 : Sp := sp1 fun x H Q _ => NoT H /\ asI x fun _ => Q (.bl true) H
theorem u9 (T : Txt K mg a) : bw P w K mg base (XE P w) 1 a.jL a.m5 ["thing"] sp_m9 := by
  refine T.jV.okG uC (fun vs H Q E h => sp1.len h) (fun cdv A outer s H vs Q E hr h => ?_)
  obtain ⟨x0, rfl, h⟩ := sp1.inv h
  try dsimp only [sp_m9, sp1] at h
  obtain ⟨hN, h1⟩ := h
  obtain ⟨i, rfl, k⟩ := asI.inv h1
  refine ⟨hN, _, (ak (aT (dY (aQ (eD K) rfl T.bQ bC (FA.pa (aa (fv 0) (aa (eC (v := .ty "int") rfl T.zA vk rfl) ah)))) (dR (AS (aQ (eD K) rfl T.bQ bC (FA.pa (aa (fv 0) (aa (eC (v := .ty "bool") rfl T.ze wV rfl) ah))))))))), ?_⟩
  walk_at "rd"
  first | exact k | exact iteT k
def amg (x : V) (lo hi : Int) : Bool := match x with
  | .int i => decide (lo <= i) && decide (i <= hi)
  | _ => false
def sp_mQ : Sp := sp3 fun x y z H Q _ => NoT H /\ asI x fun i => asI y fun lo => asI z fun hi => Q (.bl (amg (.int i) lo hi)) H
theorem uV (T : Txt K mg a) : bw P w K mg base (XE P w) 2 a.jZ a.mX ["thing", "least", "most"] sp_mQ := by
  refine T.j2.okG u6 (fun vs H Q E h => sp3.len h) (fun cdv A outer s H vs Q E hr h => ?_)
  obtain ⟨x0, x1, x2, rfl, h⟩ := sp3.inv h
  try dsimp only [sp_mQ, sp3] at h
  obtain ⟨hN, h1⟩ := h
  obtain ⟨i, rfl, h2⟩ := asI.inv h1
  obtain ⟨lo, rfl, h3⟩ := asI.inv h2
  obtain ⟨hi, rfl, k⟩ := asI.inv h3
  have G_is_whole := u9 (P := P) (w := w) (base := base) T
  have b_is_whole := uJ T.jV
  refine ⟨hN, _, (ak (aT (dY (au G_is_whole (hr.mono (by decide)) rfl T.vA T.jV.kp b_is_whole .nil aK (FA.pa (aa (fv 0) ah))) (dR (lF gg gg (fv 1) (fv 0) (fv 2)))))), ?_⟩
  walk_at "rd"
  refine ⟨hN, ?_⟩
  split
  . rename_i h1
    have e : amg (.int i) lo hi = decide (i <= hi) := by simp [amg, h1]
    rw [e] at k; exact k
  . rename_i h1
    have e : amg (.int i) lo hi = false := by simp [amg, h1]
    rw [e] at k; exact k
def sp_qr : Sp := sp1 fun x H Q _ => NoT H /\ asI x fun i => Q (.bl (amg (.int i) 0 146096)) H
theorem qo (T : Txt K mg a) : bw P w K mg base (XE P w) 3 a.ot a.ri ["thing"] sp_qr := by
  refine T.iM.okG yg (fun vs H Q E h => sp1.len h) (fun cdv A outer s H vs Q E hr h => ?_)
  obtain ⟨x0, rfl, h⟩ := sp1.inv h
  try dsimp only [sp_qr, sp1] at h
  obtain ⟨hN, h1⟩ := h
  obtain ⟨i, rfl, k⟩ := asI.inv h1
  have G_is_among := uV (P := P) (w := w) (base := base) T
  have b_is_among := tY T.j2
  refine ⟨hN, _, (ak (aT (au G_is_among (hr.mono (by decide)) rfl T.vW T.j2.kp b_is_among .nil aK (FA.pa (aa (fv 0) (aa ae (aa ae ah))))))), ?_⟩
  walk_at "rd"
  exact ⟨hN, k⟩
theorem Ex (a b : Nat) : leN [a] [b] = decide (a <= b) := by
  unfold leN
  have h : ([b] < [a]) ↔ b < a := by
    rw [List.cons_lt_cons_iff]; simp
  rw [decide_eq_decide.mpr h]
  by_cases h2 : b < a
  . rw [decide_eq_true h2, decide_eq_false (by walk_at "om")]; rfl
  . rw [decide_eq_false h2, decide_eq_true (by walk_at "om")]; rfl
local macro_rules | `(tactic| walk_at "rd") => `(tactic| try simp only [zg, rdI, V.int.injEq, V.ref.injEq, wU, zC, xB, wR, zP, yY, AA, yL, zI, L2.iz, List.map_cons, List.map_nil, List.cons_append, List.nil_append, List.append_nil, List.length_cons, List.length_nil, List.replicate, List.getElem?_cons_zero, List.getElem?_cons_succ, List.set_cons_zero, List.set_cons_succ, Nat.reduceSub, Nat.reduceAdd, Int.reduceLT, Int.reduceLE, Int.reducePow, Int.reduceNeg, Nat.reducePow, List.cons.injEq, exists_eq_left', exists_eq_left, eq_self, if_false, if_true, ↓reduceIte, ite_not, forall_const, Option.bind_some, id_eq, zJ, xj, Ex])
def ok (l : List Nat) : Prop := (∀ c ∈ l, c < 128) /\ l.length <= 1000
theorem rL {l : List Nat} (h : ok l) : l.length <= sizeLine := Nat.le_trans h.2 (by rw [sizeLine_eq]; decide)
def lie (l : List Nat) (a b : Nat) : Bool := l.all fun c => decide (a <= c) && decide (c <= b)
def sp_lN : Sp := sp3 fun x y z H Q _ => NoT H /\ asT x fun l => asT y fun lo => asT z fun hi => ok l /\ ∃ a b, lo = [a] /\ hi = [b] /\ Q (.bl (lie l a b)) H
theorem ky (T : Txt K mg a) : bw P w K mg base (XE P w) 1 a.iY a.kX ["text", "least", "most"] sp_lN := by
  refine T.eI.okG rJ (fun vs H Q E h => sp3.len h) (fun cdv A outer s H vs Q E hr h => ?_)
  obtain ⟨x0, x1, x2, rfl, h⟩ := sp3.inv h
  try dsimp only [sp_lN, sp3] at h
  obtain ⟨hN, h1⟩ := h
  obtain ⟨l, rfl, h2⟩ := asT.inv h1
  obtain ⟨lo, rfl, h3⟩ := asT.inv h2
  obtain ⟨hi, rfl, hl, a, b, rfl, rfl, k⟩ := asT.inv h3
  refine ⟨hN, _, (ak (aT (aQ (r_ K rfl) rfl T.Af vn (FA.pa (aa (cn rfl (cl := _) (x := "sign") (xs := ["sign"]) (fr := ["least", "most"]) (ks := [1, 2]) (by exact ⟨rfl, by decide +kernel, rfl, by decide +kernel, rfl, cg rfl, rfl, aP rfl, aP (k := fun y => List.lookup y _) rfl, ci rfl⟩) rfl (Am (fv 0)) (fun _ _ _ _ _ => (aN (i := 0) (dD (l := ["sign", "least", "most"]) (by decide)) rfl (Or.inl rfl))) (fun _ _ _ _ _ => fj) (fun _ _ _ _ _ => (lF gg gg (fv 1) (fv 0) (fv 2)))) ah))))), ?_⟩
  walk_at "rd"
  refine cmS (fun _ => True) (fun _ _ _ => trivial) l (fun _ => true) (fun c => .bl (decide (a <= c) && decide (c <= b))) (fun R r => r) hl.1 (rL hl) (fun c _ H R _ r => r) (fun c _ _ H R _ r => ?_) (fun D hD => ?_)
  . walk_at "rd"
    by_cases h1 : a <= c
    . simp only [h1, decide_true, Bool.true_and] at r ⊢
      exact r
    . simp only [h1, decide_false, Bool.false_and] at r ⊢
      exact r
  . refine ⟨l.map fun c => decide (a <= c) && decide (c <= b), SqL.of (by rw [ad, List.filter_eq_self.mpr (by simp), List.map_map]; rfl), H, Gc.none (aq _ hD), ?_⟩
    have e : (l.map fun c => decide (a <= c) && decide (c <= b)).all id = lie l a b := by
      rw [List.all_map]; rfl
    rw [e]; exact k
def cur (l : List Nat) : Bool := decide (l.length = 3) && lie l 65 90
def sp_qT : Sp := sp1 fun x H Q _ => NoT H /\ asT x fun l => cur l = true /\ Q (.bl true) H
theorem A0 {l : List Nat} (h : cur l = true) : l.length = 3 /\ lie l 65 90 = true := by
  unfold cur at h
  simpa using h
theorem Dv {l : List Nat} {a b : Nat} (h : lie l a b = true) (hb : b < 128) (hl : l.length <= 1000) : ok l := by
  unfold lie at h
  rw [List.all_eq_true] at h
  exact ⟨fun c hc => by have := h c hc; simp at this; omega, hl⟩
theorem nZ (T : Txt K mg a) : bw P w K mg base (XE P w) 2 a.gB a.iK ["thing"] sp_qT := by
  refine T.gw.okG pC (fun vs H Q E h => sp1.len h) (fun cdv A outer s H vs Q E hr h => ?_)
  obtain ⟨x0, rfl, h⟩ := sp1.inv h
  try dsimp only [sp_qT, sp1] at h
  have HU := bf hr
  obtain ⟨hN, h1⟩ := h
  obtain ⟨l, rfl, hc, k⟩ := asT.inv h1
  obtain ⟨h3, hl⟩ := A0 hc
  have ol := Dv hl (by decide) (by omega)
  have G_signs_lie := ky (P := P) (w := w) (base := base) T
  have b_signs_lie := lD T.eI
  refine ⟨hN, _, (ak (aT (dY (aQ (eD K) rfl T.bQ bC (FA.pa (aa (fv 0) (aa (eC (v := .ty "str") rfl T.xi r6 rfl) ah)))) (dY (gn (jK K HU) (aQ (dN K) rfl T.iD eM (FA.pa (aa (fv 0) ah))) ae (bF _)) (dR (au G_signs_lie (hr.mono (by decide)) rfl T.mU T.eI.kp b_signs_lie .nil aK (FA.pa (aa (fv 0) (aa (aE [65]) (aa (aE [90]) ah)))))))))), ?_⟩
  walk_at "rd"
  refine ⟨rL ol, itp (by omega) ⟨hN, ol, 65, 90, rfl, rfl, ?_⟩⟩
  rw [hl]; exact k
def nm (l : List Nat) : Bool := decide (1 <= l.length) && decide (l.length <= 12) && lie l 97 122
def sp_pq : Sp := sp1 fun x H Q _ => NoT H /\ asT x fun l => ok l /\ Q (.bl (nm l)) H
theorem pw (T : Txt K mg a) : bw P w K mg base (XE P w) 2 a.lQ a.o_ ["thing"] sp_pq := by
  refine T.g8.okG wa (fun vs H Q E h => sp1.len h) (fun cdv A outer s H vs Q E hr h => ?_)
  obtain ⟨x0, rfl, h⟩ := sp1.inv h
  try dsimp only [sp_pq, sp1] at h
  obtain ⟨hN, h1⟩ := h
  obtain ⟨l, rfl, hl, k⟩ := asT.inv h1
  have G_signs_lie := ky (P := P) (w := w) (base := base) T
  have b_signs_lie := lD T.eI
  refine ⟨hN, _, (ak (aT (dY (aQ (eD K) rfl T.bQ bC (FA.pa (aa (fv 0) (aa (eC (v := .ty "str") rfl T.xi r6 rfl) ah)))) (dY (lF gg gg ae (aQ (dN K) rfl T.iD eM (FA.pa (aa (fv 0) ah))) ae) (dR (au G_signs_lie (hr.mono (by decide)) rfl T.mU T.eI.kp b_signs_lie .nil aK (FA.pa (aa (fv 0) (aa (aE [97]) (aa (aE [122]) ah)))))))))), ?_⟩
  walk_at "rd"
  refine ⟨rL hl, ?_⟩
  unfold nm at k
  split
  . rename_i h1
    rw [decide_eq_true (by omega : 1 <= l.length)] at k
    split
    . rename_i h2
      rw [decide_eq_true (by omega : l.length <= 12)] at k
      exact ⟨hN, hl, 97, 122, rfl, rfl, k⟩
    . rename_i h2
      rw [decide_eq_false (by omega : ¬ l.length <= 12)] at k
      exact k
  . rename_i h1
    rw [decide_eq_false (by omega : ¬ 1 <= l.length)] at k
    exact k
def sp_kH (K : PySem.W.Frag) : Sp := sp1 fun x H Q _ => asR x fun p => NoT H /\ ∃ ls : List (List Nat), SqL K H p (ls.map L2.T) /\ ls.length <= 300 /\ (∀ l ∈ ls, ok l) /\ Q (.bl (decide (1 <= ls.length) && decide (ls.length <= 6) && ls.all nm)) H
theorem sM (T : Txt K mg a) : bw P w K mg base (XE P w) 3 a.i6 a.lM ["names"] (sp_kH K) := by
  refine T.iZ.okG rS (fun vs H Q E h => sp1.len h) (fun cdv A outer s H vs Q E hr h => ?_)
  obtain ⟨x0, rfl, h⟩ := sp1.inv h
  try dsimp only [sp_kH, sp1] at h
  obtain ⟨p, rfl, hN, ls, hS, hl, hx, k⟩ := asR.inv h
  have G_is_name := pw (P := P) (w := w) (base := base) T
  have b_is_name := oj T.g8
  refine ⟨hN, _, (ak (aT (dY (lF gg gg ae (aQ (dN K) rfl T.iD eM (FA.pa (aa (fv 0) ah))) ae) (dR (aQ (r_ K rfl) rfl T.Af vn (FA.pa (aa (cn rfl (cl := _) (x := "name") (xs := ["name"]) (fr := []) (ks := []) (by exact ⟨rfl, by decide +kernel, rfl, by decide +kernel, rfl, cg rfl, rfl, aP rfl, aP (k := fun y => List.lookup y _) rfl, ci rfl⟩) rfl (bM K (fv 0)) (fun _ _ _ _ _ => (aN (i := 0) (dD (l := ["name"]) (by decide)) rfl (Or.inl rfl))) (fun _ _ _ _ _ => fj) (fun _ _ _ _ _ => (au G_is_name (hr.mono (by decide)) rfl T.qO T.g8.kp b_is_name .nil u1 (FA.pa (aa (fv 0) ah))))) ah))))))), ?_⟩
  walk_at "rd"
  refine ⟨_, .inl hS, ?_⟩
  have sz := szl
  rw [List.length_map]
  split
  . rename_i h1
    rw [decide_eq_true (by omega : 1 <= ls.length)] at k
    split
    . rename_i h2
      rw [decide_eq_true (by omega : ls.length <= 6)] at k
      refine cmL p (ls.map L2.T) (fun H' => NoT H' /\ SqL K H' p (ls.map L2.T)) (fun D ys hD => ⟨az hN rfl, hS.same (aq _ hD)⟩) (fun H' c => c.2) (fun _ => true) (fun x => match x with | .str y => .bl (nm y.cps.toList) | _ => .non) (fun R r => r) hS (by rw [List.length_map]; omega) (fun x _ H' R _ r => r) (fun x hx' _ H' R c r => ?_) (fun D hD => ?_)
      . obtain ⟨l, ml, rfl⟩ := List.mem_map.mp hx'
        walk_at "rd"
        exact ⟨c.1, hx l ml, r⟩
      . refine ⟨ls.map nm, SqL.of (by rw [ad, List.filter_eq_self.mpr (by simp), List.map_map, List.map_map]; rfl), H, Gc.none (aq _ hD), ?_⟩
        rw [List.all_map]; exact k
    . rename_i h2
      rw [decide_eq_false (by omega : ¬ ls.length <= 6)] at k
      exact k
  . rename_i h1
    rw [decide_eq_false (by omega : ¬ 1 <= ls.length)] at k
    exact k
def lK (l : List Nat) : Bool := decide (1 <= (spN 58 l).length) && decide ((spN 58 l).length <= 6) && (spN 58 l).all nm
def sp_oh : Sp := sp1 fun x H Q _ => NoT H /\ asT x fun l => ((∀ c ∈ l, c < 128) /\ l.length <= 199) /\ Q (.bl (lK l)) H
theorem oB (T : Txt K mg a) : bw P w K mg base (XE P w) 4 a.mE a.oH ["thing"] sp_oh := by
  refine T.g7.okG vJ (fun vs H Q E h => sp1.len h) (fun cdv A outer s H vs Q E hr h => ?_)
  obtain ⟨x0, rfl, h⟩ := sp1.inv h
  try dsimp only [sp_oh, sp1] at h
  obtain ⟨hN, h1⟩ := h
  obtain ⟨l, rfl, hl, k⟩ := asT.inv h1
  have G_are_names := sM (P := P) (w := w) (base := base) T
  have b_are_names := sP T.iZ
  refine ⟨hN, _, (ak (aT (dY (aQ (eD K) rfl T.bQ bC (FA.pa (aa (fv 0) (aa (eC (v := .ty "str") rfl T.xi r6 rfl) ah)))) (dR (au G_are_names (hr.mono (by decide)) rfl T.tI T.iZ.kp b_are_names .nil aK (FA.pa (aa (fN K PySem.F.plainAttrs_str PySem.F.slot_str_split PySem.F.type_str_split oO (fv 0) (FA.pa (aa (aE [58]) ah))) ah))))))), ?_⟩
  walk_at "rd"
  have sz := szl
  have sl := nK 58 l
  refine ⟨by walk_at "om", fun p hp => ⟨az hN rfl, _, SqL.of ad, by omega, fun q hq => ?_, H, Gc.none (aq _ hp), k⟩⟩
  obtain ⟨m1, m2⟩ := lq 58 l q hq
  exact ⟨fun c hc => hl.1 c (m2 c hc), by omega⟩
def tx (ls : List (List Nat)) : HO := .lst (ls.map L2.T)
def sp_mS : Sp := sp1 fun x H Q _ => NoT H /\ asT x fun l => ((∀ c ∈ l, c < 128) /\ l.length <= 199) /\ lK l = true /\ ∀ p, H p = none -> Q (.ref p) (upd H p (tx (spN 58 l)))
theorem uB (T : Txt K mg a) : bw P w K mg base (XE P w) 5 a.jN a.mY ["path"] sp_mS := by
  refine T.jT.okG uM (fun vs H Q E h => sp1.len h) (fun cdv A outer s H vs Q E hr h => ?_)
  obtain ⟨x0, rfl, h⟩ := sp1.inv h
  try dsimp only [sp_mS, sp1] at h
  obtain ⟨hN, h1⟩ := h
  obtain ⟨l, rfl, hl, e, k⟩ := asT.inv h1
  have G_is_path := oB (P := P) (w := w) (base := base) T
  have b_is_path := ph T.g7
  refine ⟨hN, _, (ai (cG (gz (eO (au G_is_path (hr.mono (by decide)) rfl T.qx T.g7.kp b_is_path .nil aK (FA.pa (aa (fv 0) ah))))) (ak (cm T.mD PySem.F.excBase_ValueError rfl rfl T.lX c_ (FA.pa (aa (aE [116, 104, 105, 115, 32, 105, 115, 32, 110, 111, 32, 112, 97, 116, 104]) ah)))) bn)
      (ak (aT (fN K PySem.F.plainAttrs_str PySem.F.slot_str_split PySem.F.type_str_split oO (fv 0) (FA.pa (aa (aE [58]) ah)))))), ?_⟩
  walk_at "rd"
  have sz := szl
  refine ⟨hN, hl, itn (by rw [e]; decide) ⟨by walk_at "om", fun p hp => ⟨_, Gc.one (aq _ hp) hp ad rfl, k p hp⟩⟩⟩
theorem om {l : List Nat} (h : nm l = true) : 1 <= l.length /\ l.length <= 12 /\ ∀ c ∈ l, 97 <= c /\ c <= 122 := by
  unfold nm lie at h
  simp only [Bool.and_eq_true, decide_eq_true_eq, List.all_eq_true] at h
  exact ⟨h.1.1, h.1.2, fun c hc => h.2 c hc⟩
theorem At (xs : List V) {i : Int} (h : 0 <= i) : nH xs none (some i) = xs.take i.toNat := by
  unfold nH
  have e : i = ((i.toNat : Nat) : Int) := by walk_at "om"
  rw [e, HT.sIx_none, HT.sIx_nat, List.drop_zero, Nat.sub_zero]
  by_cases hl : i.toNat <= xs.length
  . rw [Nat.min_eq_left hl]; rfl
  . rw [Nat.min_eq_right (by walk_at "om"), List.take_of_length_le (by walk_at "om"), List.take_of_length_le (by simp; omega)]
theorem wJ (n : Nat) : ∀ (ls : List (List Nat)), (∀ l ∈ ls, l.length <= n) -> (ls.map List.length).sum <= n * ls.length
  | [], _ => by simp
  | l :: r, h => by
    have := wJ n r fun x hx => h x (List.mem_cons_of_mem _ hx)
    have h1 := h l (by simp)
    simp only [List.map_cons, List.sum_cons, List.length_cons, Nat.mul_add, Nat.mul_one]
    omega
theorem zO {ls : List (List Nat)} (h : ∀ l ∈ ls, l.length <= 1000) (hl : ls.length <= 1000) : BL [58] ls := by
  have := wJ 1000 ls h
  have h2 : 1000 * ls.length <= 1000 * 1000 := Nat.mul_le_mul_left _ hl
  unfold BL
  simp only [List.length_cons, List.length_nil]
  omega
def abN (l : List Nat) : List (List Nat) := (List.range ((spN 58 l).length - 1)).map fun k => cZ [58] ((spN 58 l).take (k + 1))
def sp_tH : Sp := sp1 fun x H Q _ => NoT H /\ asT x fun l => ((∀ c ∈ l, c < 128) /\ l.length <= 199) /\ ∀ p, H p = none -> Q (.ref p) (upd H p (tx (abN l)))
theorem Au (T : Txt K mg a) : bw P w K mg base (XE P w) 1 a.rN a.uX ["path"] sp_tH := by
  refine T.sd.okG sZ (fun vs H Q E h => sp1.len h) (fun cdv A outer s H vs Q E hr h => ?_)
  obtain ⟨x0, rfl, h⟩ := sp1.inv h
  try dsimp only [sp_tH, sp1] at h
  have ND := sZ.nd
  obtain ⟨hN, h1⟩ := h
  obtain ⟨l, rfl, hl, k⟩ := asT.inv h1
  refine ⟨hN, _, (ai (aM (i := 1) ND rfl (Or.inr rfl) (fN K PySem.F.plainAttrs_str PySem.F.slot_str_split PySem.F.type_str_split oO (fv 0) (FA.pa (aa (aE [58]) ah))))
      (ak (aT (cn rfl (cl := _) (x := "many") (xs := ["many"]) (fr := ["names"]) (ks := [1]) (by exact ⟨rfl, by decide +kernel, rfl, by decide +kernel, rfl, cg rfl, rfl, aP rfl, aP (k := fun y => List.lookup y _) rfl, ci rfl⟩) rfl (yy rfl T.jj (FA.pa (aa ae (aa (aQ (dN K) rfl T.iD eM (FA.pa (aa (fv 1) ah))) ah)))) (fun _ _ _ _ _ => (aN (i := 0) (dD (l := ["many", "names"]) (by decide)) rfl (Or.inl rfl))) (fun _ _ _ _ _ => fj) (fun _ _ _ _ _ => (Cd (fN K PySem.F.plainAttrs_str PySem.F.slot_str_join PySem.F.type_str_join (zU K) (aE [58]) (FA.pa (aa (eE (n4 K) (fv 1) il (e_ (fv 0))) ah))))))))), ?_⟩
  walk_at "rd"
  have sz := szl
  have sl := nK 58 l
  refine ⟨by walk_at "om", fun p hp => ?_⟩
  have sm := aq (HO.lst (List.map L2.T (spN 58 l))) hp
  have nb : ((spN 58 l).length : Int) < 2 ^ 62 := by
    have : (400 : Int) < 2 ^ 62 := by decide
    omega
  refine FR (fun H' => NoT H' /\ SqL K H' p (List.map L2.T (spN 58 l))) (fun D ys hD => ⟨az (az hN rfl) rfl, SqL.same (aq _ hD) (SqL.of ad)⟩) 1 (spN 58 l).length ((spN 58 l).length - 1) (by walk_at "om") (fun _ => true)
    (fun v => match v with | .int i => L2.T (cZ [58] ((spN 58 l).take i.toNat)) | _ => .non) (fun R r => ?_) ⟨by decide, by decide, by walk_at "om", nb⟩ (by walk_at "om") (fun x _ H' R _ r => r) (fun j hj _ H' R c r => ?_) (fun D hD => ?_)
  . walk_at "rd"
    exact ⟨_, .inl (SqL.of ad), by rw [List.length_map]; exact r⟩
  . walk_at "rd"
    refine ⟨c.1, p, _, rfl, c.2, fun q hq => ⟨(spN 58 l).take (1 + (j : Int)).toNat, SqL.of (by rw [ad, At _ (by walk_at "om"), List.map_take]), zO (fun x hx => ?_) (by rw [List.length_take]; omega), H', Gc.none (aq _ hq), r⟩⟩
    have := (lq 58 l x (List.mem_of_mem_take hx)).1
    omega
  . refine ⟨_, Gc.one (sm.trans (aq _ hD)) (sm.free hD) ad rfl, ?_⟩
    have e : (List.map (fun v => match v with | V.int i => L2.T (cZ [58] (List.take i.toNat (spN 58 l))) | _ => V.non) (List.filter (fun _ => true) (List.map (fun k : Nat => V.int (1 + (k : Int))) (List.range ((spN 58 l).length - 1))))) = (abN l).map L2.T := by
      rw [List.filter_eq_self.mpr (by simp), List.map_map]
      unfold abN
      rw [List.map_map]
      apply List.map_congr_left
      intro k _
      show L2.T (cZ [58] (List.take (1 + (k : Int)).toNat (spN 58 l))) = L2.T (cZ [58] (List.take (k + 1) (spN 58 l)))
      rw [show (1 + (k : Int)).toNat = k + 1 by walk_at "om"]
    rw [e]; exact k D (sm.free hD)
end
open PySem L2 K19
section
variable {pS : Addr} {ns : List Int} {P : Program} {w : World} {K : PySem.W.Frag} {mg : Str -> Option Value} {base : Heap} {a : Adr}
def Keep (S : List Addr) (H H' : Hp) : Prop := ∀ c z, H c = some z -> c ∉ S -> H' c = some z
theorem Keep.refl {S : List Addr} {H : Hp} : Keep S H H := fun _ _ e _ => e
theorem Keep.trans {S : List Addr} {H H1 H2 : Hp} (x : Keep S H H1) (y : Keep S H1 H2) : Keep S H H2 := fun c z e n => y c z (x c z e n) n
theorem Keep.mono {S S' : List Addr} {H H' : Hp} (x : Keep S H H') (h : ∀ c, c ∈ S -> c ∈ S') : Keep S' H H' := fun c z e n => x c z e fun m => n (h c m)
theorem Keep.new {S : List Addr} {H H1 : Hp} {p : Addr} {o : HO} (x : Keep S H H1) (h : H1 p = none) : Keep S H (upd H1 p o) := fun c z e n => by
  rw [aj (av (x c z e n) h)]; exact x c z e n
theorem Keep.put {S : List Addr} {H H1 : Hp} {p : Addr} {o : HO} (x : Keep S H H1) (h : p ∈ S) : Keep S H (upd H1 p o) := fun c z e n => by
  rw [aj (by rintro rfl; exact n h)]; exact x c z e n
theorem Keep.same {S : List Addr} {H H' : Hp} (x : Same H H') : Keep S H H' := fun c z e _ => x c z e
theorem e9 {H : Hp} {p q : Addr} {x y : HO} (h : H p = some x) (g : H q = some y) (n : x ≠ y) : p ≠ q := by
  rintro rfl; rw [h] at g; cases g; exact n rfl
def cl : Option Int -> V
  | none => .non
  | some m => .int m
structure Acc where
  pa : List Nat
  ob : Addr
  bl : Addr
  ki : V
  cu : V
  fi : Int
  un : Option Int
  be : List (List Nat)
def ib (k c f u b : V) : List (Str × V) := [("kind", k), ("currency", c), ("first", f), ("until", u), ("below", b)]
theorem fk (k c f u b : V) : List.lookup (Str.ofString "kind") (ib k c f u b) = some k := mB
theorem ff (k c f u b : V) : List.lookup (Str.ofString "first") (ib k c f u b) = some f := by unfold ib; rw [bB (by decide +kernel), bB (by decide +kernel)]; exact mB
theorem fu (k c f u b : V) : List.lookup (Str.ofString "until") (ib k c f u b) = some u := by unfold ib; rw [bB (by decide +kernel), bB (by decide +kernel), bB (by decide +kernel)]; exact mB
theorem fb (k c f u b : V) : List.lookup (Str.ofString "below") (ib k c f u b) = some b := by unfold ib; rw [bB (by decide +kernel), bB (by decide +kernel), bB (by decide +kernel), bB (by decide +kernel)]; exact mB
theorem Fv (k c f u b : V) : List.lookup (Str.ofString "stands_on") (ib k c f u b) = none := by unfold ib; rw [bB (by decide +kernel), bB (by decide +kernel), bB (by decide +kernel), bB (by decide +kernel), bB (by decide +kernel)]; rfl
theorem EM (k c f u b v : V) : dZ (Str.ofString "until") v (ib k c f u b) = ib k c f v b := by
  have q1 : ¬ (Str.ofString "kind" = Str.ofString "until") := by decide +kernel
  have q2 : ¬ (Str.ofString "currency" = Str.ofString "until") := by decide +kernel
  have q3 : ¬ (Str.ofString "first" = Str.ofString "until") := by decide +kernel
  simp [dZ, ib, q1, q2, q3]
theorem Dx (k c f u b : V) : dZ (Str.ofString "below") b (dZ (Str.ofString "until") u (dZ (Str.ofString "first") f (dZ (Str.ofString "currency") c (dZ (Str.ofString "kind") k [])))) = ib k c f u b := by
  have q1 : ¬ (Str.ofString "kind" = Str.ofString "until") := by decide +kernel
  have q2 : ¬ (Str.ofString "currency" = Str.ofString "until") := by decide +kernel
  have q3 : ¬ (Str.ofString "first" = Str.ofString "until") := by decide +kernel
  have q4 : ¬ (Str.ofString "kind" = Str.ofString "first") := by decide +kernel
  have q5 : ¬ (Str.ofString "currency" = Str.ofString "first") := by decide +kernel
  have q6 : ¬ (Str.ofString "kind" = Str.ofString "currency") := by decide +kernel
  have q7 : ¬ (Str.ofString "kind" = Str.ofString "below") := by decide +kernel
  have q8 : ¬ (Str.ofString "currency" = Str.ofString "below") := by decide +kernel
  have q9 : ¬ (Str.ofString "first" = Str.ofString "below") := by decide +kernel
  have q0 : ¬ (Str.ofString "until" = Str.ofString "below") := by decide +kernel
  simp [dZ, ib, q1, q2, q3, q4, q5, q6, q7, q8, q9, q0]
def sp_qR (A : Addr) : Sp := sp4 fun x k c f H Q _ => NoT H /\ asR x fun p => ∃ dx, H p = some (.ins A dx []) /\ ∀ b H', H b = none -> H' p = some (.ins A dx (ib k c f .non (.ref b))) -> H' b = some (.lst []) -> Keep [p] H H' -> NoT H' -> Q .non H'
theorem eZ (T : Txt K mg a) : bw P w K mg base (XE P w) 1 a.cR a.e7 ["self", "kind", "currency", "first"] (sp_qR a.aL) := by
  refine T.dI.okX jt (fun vs H Q E h => sp4.len h) (fun cdv A outer s H vs Q E hr h => ?_)
  obtain ⟨x0, x1, x2, x3, rfl, h⟩ := sp4.inv h
  try dsimp only [sp_qR, sp4] at h
  obtain ⟨hN, h1⟩ := h
  obtain ⟨p, rfl, dx, hp, k⟩ := asR.inv h1
  refine ⟨_, (ai (fh K (fv 0) (fv 1))
      (ai (fh K (fv 0) (fv 2))
      (ai (fh K (fv 0) (fv 3))
      (ai (fh K (fv 0) fL)
      (ak (fh K (fv 0) (dH (FA.pa ah)))))))), ?_⟩
  walk_at "rd"
  refine ⟨_, _, _, hp, T.ba, T.fV, by decide, _, _, _, ad, T.ba, T.j4, by show 1 < 1000; decide, _, _, _, ad, T.ba, T.eP, by show 2 < 1000; decide, _, _, _, ad, T.ba, T.cj, by show 3 < 1000; decide, Nat.zero_le _, fun b hb => ?_⟩
  rw [nN, nN, nN] at hb ⊢
  have np : p ≠ b := fun q => by rw [<- q, ad] at hb; cases hb
  have hb0 : H b = none := by rw [aj (Ne.symm np)] at hb; exact hb
  refine ⟨_, _, _, (aj np).trans ad, T.ba, T.eT, by show 4 < 1000; decide, ?_⟩
  rw [Dx]
  refine k b _ hb0 ad ?_ ?_ ?_
  . rw [aj (Ne.symm np), ad]
  . exact ((Keep.refl.put (List.mem_singleton.2 rfl)).new hb).put (List.mem_singleton.2 rfl)
  . exact az (az (az hN rfl) rfl) rfl
def lat (u : Option Int) (d : Int) : Bool := match u with
  | none => true
  | some t => decide (d < t)
def opn (f : Int) (u : Option Int) (d : Int) : Bool := decide (f <= d) && lat u d
def sp_on (A : Addr) : Sp := sp2 fun x y H Q _ => NoT H /\ asR x fun p => asI y fun d => ∃ dx k c f u b, H p = some (.ins A dx (ib k c (.int f) (cl u) b)) /\ Q (.bl (opn f u d)) H
theorem iT (T : Txt K mg a) : bw P w K mg base (XE P w) 1 a.dC a.eG ["self", "day"] (sp_on a.aL) := by
  refine T.eY.okG je (fun vs H Q E h => sp2.len h) (fun cdv A outer s H vs Q E hr h => ?_)
  obtain ⟨x0, x1, rfl, h⟩ := sp2.inv h
  try dsimp only [sp_on, sp2] at h
  obtain ⟨hN, h1⟩ := h
  obtain ⟨p, rfl, h2⟩ := asR.inv h1
  obtain ⟨d, rfl, dx, k, c, f, u, b, hp, q⟩ := asI.inv h2
  refine ⟨hN, _, (ak (aT (dY (gn gg (bP K (fv 0)) (fv 1) (bF _)) (dR (B7 (vM (zf (bP K (fv 0)))) (dR (gn wS (fv 1) (bP K (fv 0)) (bF _)))))))), ?_⟩
  walk_at "rd"
  refine ⟨_, _, _, _, hp, T.ba, T.eP, ff .., ?_⟩
  walk_at "rd"
  split
  . rename_i h1
    refine ⟨_, _, _, _, hp, T.ba, T.cj, fu .., ?_⟩
    have e : opn f u d = lat u d := by unfold opn; rw [decide_eq_true h1]; rfl
    rw [e] at q
    cases u with
    | none => exact q
    | some t =>
      rw [if_neg (by intro z; cases z)]
      exact ⟨_, _, _, _, hp, T.ba, T.cj, fu .., ⟨H, Gc.refl, q⟩⟩
  . rename_i h1
    have e : opn f u d = false := by unfold opn; rw [decide_eq_false h1]; rfl
    rw [e] at q; exact q
def sp_qj : Sp := sp2 fun _ _ _ _ _ => False
theorem gP (T : Txt K mg a) : bw P w K mg base (XE P w) 1 a.cU a.dL ["self", "day"] sp_qj := by
  refine T.dQ.okG gH (fun vs H Q E h => sp2.len h) (fun cdv A outer s H vs Q E hr h => ?_)
  obtain ⟨x0, x1, rfl, h⟩ := sp2.inv h
  try dsimp only [sp_qj, sp2] at h
def kyA (c : Acc) : Key × V := (.inr ⟨⟨c.pa⟩⟩, .ref c.ob)
structure AAt (A : Addr) (H : Hp) (c : Acc) : Prop where
  ob : ∃ dx, H c.ob = some (.ins A dx (ib c.ki c.cu (.int c.fi) (cl c.un) (.ref c.bl)))
  ls : H c.bl = some (.lst (c.be.map L2.T))
structure CAt (C A : Addr) (H : Hp) (p d : Addr) (cs : List Acc) : Prop where
  ob : ∃ dx, H p = some (.ins C dx [("by_path", .ref d)])
  dc : H d = some (.dK (cs.map kyA))
  ac : ∀ c ∈ cs, AAt A H c
  np : (cs.map (·.pa)).Nodup
  na : (cs.map (·.ob)).Nodup
  nb : (cs.map (·.bl)).Nodup
theorem CAt.keep {C A : Addr} {S : List Addr} {H H' : Hp} {p d : Addr} {cs : List Acc} (j : CAt C A H p d cs) (x : Keep S H H') (hp : p ∉ S) (hd : d ∉ S) (hc : ∀ c ∈ cs, c.ob ∉ S /\ c.bl ∉ S) : CAt C A H' p d cs :=
  ⟨by obtain ⟨dx, e⟩ := j.ob; exact ⟨dx, x _ _ e hp⟩, x _ _ j.dc hd, fun c hm => ⟨by obtain ⟨dx, e⟩ := (j.ac c hm).ob; exact ⟨dx, x _ _ e (hc c hm).1⟩, x _ _ (j.ac c hm).ls (hc c hm).2⟩, j.np, j.na, j.nb⟩
theorem CAt.same {C A : Addr} {H H' : Hp} {p d : Addr} {cs : List Acc} (j : CAt C A H p d cs) (x : Same H H') : CAt C A H' p d cs :=
  j.keep (S := []) (Keep.same x) List.not_mem_nil List.not_mem_nil fun _ _ => ⟨List.not_mem_nil, List.not_mem_nil⟩
def fnd (cs : List Acc) (l : List Nat) : Option Acc := cs.find? fun c => decide (c.pa = l)
theorem jk (l : List Nat) : ∀ cs : List Acc, eg (cs.map kyA) (.inr ⟨⟨l⟩⟩) = (fnd cs l).map fun c => .ref c.ob
  | [] => rfl
  | c :: r => by
    have ih := jk l r
    by_cases h : c.pa = l
    . rw [List.map_cons, b9 (by show Sum.inr _ = Sum.inr _; rw [h])]
      simp [fnd, h, kyA]
    . rw [List.map_cons, bY (fun z => h (by simpa [kyA] using z)), ih]
      simp [fnd, h]
theorem Bg {cs : List Acc} {l : List Nat} {c : Acc} (h : fnd cs l = some c) : c ∈ cs /\ c.pa = l :=
  ⟨List.mem_of_find?_eq_some h, by simpa using List.find?_some h⟩
theorem oA {cs : List Acc} {l : List Nat} (h : fnd cs l = none) : ∀ c ∈ cs, c.pa ≠ l := fun c hc => by
  simpa using List.find?_eq_none.mp h c hc
theorem jg {β : Type} {f : Acc -> β} : ∀ {cs : List Acc} {c c' : Acc}, (cs.map f).Nodup -> c ∈ cs -> c' ∈ cs -> f c = f c' -> c = c'
  | [], _, _, _, h, _, _ => nomatch h
  | x :: r, c, c', hn, h, h', e => by
    rw [List.map_cons, List.nodup_cons] at hn
    rcases List.mem_cons.mp h with h1 | h1
    . rcases List.mem_cons.mp h' with h2 | h2
      . rw [h1, h2]
      . subst h1
        exact absurd (by rw [e]; exact List.mem_map_of_mem h2) hn.1
    . rcases List.mem_cons.mp h' with h2 | h2
      . subst h2
        exact absurd (by rw [<- e]; exact List.mem_map_of_mem h1) hn.1
      . exact jg hn.2 h1 h2 e
theorem vx {cs : List Acc} (hn : (cs.map (·.pa)).Nodup) {c : Acc} (hc : c ∈ cs) : fnd cs c.pa = some c := by
  cases e : fnd cs c.pa with
  | none => exact absurd rfl (oA e c hc)
  | some c' =>
    obtain ⟨h1, h2⟩ := Bg e
    rw [jg hn h1 hc h2]
theorem lkp (x : V) : List.lookup (Str.ofString "by_path") [(Str.ofString "by_path", x)] = some x := mB
def sp_qU (C A : Addr) : Sp := sp1 fun x H Q _ => NoT H /\ asR x fun p => ∃ dx, H p = some (.ins C dx []) /\ ∀ d H', H d = none -> CAt C A H' p d [] -> Keep [p] H H' -> NoT H' -> Q .non H'
theorem kg (T : Txt K mg a) : bw P w K mg base (XE P w) 1 a.dt a.gs ["self"] (sp_qU a.aY a.aL) := by
  refine T.gQ.okX kr (fun vs H Q E h => sp1.len h) (fun cdv A outer s H vs Q E hr h => ?_)
  obtain ⟨x0, rfl, h⟩ := sp1.inv h
  try dsimp only [sp_qU, sp1] at h
  obtain ⟨hN, h1⟩ := h
  obtain ⟨p, rfl, dx, hp, k⟩ := asR.inv h1
  refine ⟨_, (ak (fh K (fv 0) nM)), ?_⟩
  walk_at "rd"
  intro d hd
  have np : p ≠ d := av hp hd
  refine ⟨_, _, _, (aj np).trans hp, T.b_, T.bU, by show 0 < 1000; decide, ?_⟩
  refine k d _ hd ⟨⟨dx, ?_⟩, ?_, (fun _ h => nomatch h), .nil, .nil, .nil⟩ ?_ ?_
  . rw [ad]; simp [dZ]
  . rw [aj (Ne.symm np), ad]; rfl
  . exact (Keep.refl.new hd).put (List.mem_singleton.2 rfl)
  . exact az (az hN rfl) rfl
def sp_y4 (C A : Addr) : Sp := sp2 fun x y H Q _ => NoT H /\ asR x fun p => asT y fun l => ∃ d cs, CAt C A H p d cs /\ Q (.bl (fnd cs l).isSome) H
theorem si (T : Txt K mg a) : bw P w K mg base (XE P w) 1 a.iS a.j8 ["self", "path"] (sp_y4 a.aY a.aL) := by
  refine T.nc.okG sL (fun vs H Q E h => sp2.len h) (fun cdv A outer s H vs Q E hr h => ?_)
  obtain ⟨x0, x1, rfl, h⟩ := sp2.inv h
  try dsimp only [sp_y4, sp2] at h
  have HU := bf hr
  obtain ⟨hN, h1⟩ := h
  obtain ⟨p, rfl, h2⟩ := asR.inv h1
  obtain ⟨l, rfl, d, cs, J, k⟩ := asT.inv h2
  obtain ⟨dx, hp⟩ := J.ob
  refine ⟨hN, _, (ak (aT (dY (aQ (eD K) rfl T.bQ bC (FA.pa (aa (fv 1) (aa (eC (v := .ty "str") rfl T.xi r6 rfl) ah)))) (dR (vM (vC (Nat.lt_of_le_of_lt (Nat.add_le_add_left (by decide) _) HU) (fv 1) (bP K (fv 0))) (by with_unfolding_all rfl)))))), ?_⟩
  walk_at "rd"
  refine ⟨_, _, _, _, hp, T.b_, T.bU, lkp _, d, _, rfl, DGet.k (k := .inr ⟨⟨l⟩⟩) J.dc, ?_⟩
  rw [jk, Option.isSome_map]; exact k
def sp_pB (C A no : Addr) : Sp := sp2 fun x y H Q E => NoT H /\ asR x fun p => asT y fun l => ∃ d cs, CAt C A H p d cs /\ match fnd cs l with | some c => Q (.ref c.ob) H | none => E (.ref no) none H
theorem CM (x : V) : List.lookup (Str.ofString "has") [(Str.ofString "by_path", x)] = none := by rw [bB (by decide +kernel)]; rfl
theorem jY (x : V) : List.lookup (Str.ofString "account") [(Str.ofString "by_path", x)] = none := by rw [bB (by decide +kernel)]; rfl
theorem eh (T : Txt K mg a) : bw P w K mg base (XE P w) 2 a.eN a.gM ["self", "path"] (sp_pB a.aY a.aL a.iQ) := by
  refine T.dE.okG mh (fun vs H Q E h => sp2.len h) (fun cdv A outer s H vs Q E hr h => ?_)
  obtain ⟨x0, x1, rfl, h⟩ := sp2.inv h
  try dsimp only [sp_pB, sp2] at h
  have HU := bf hr
  obtain ⟨hN, h1⟩ := h
  obtain ⟨p, rfl, h2⟩ := asR.inv h1
  obtain ⟨l, rfl, d, cs, J, k⟩ := asT.inv h2
  obtain ⟨dx, hp⟩ := J.ob
  have one : 1 <= sizeLine := by rw [sizeLine_eq]; decide
  have G_Chart_has := si (P := P) (w := w) (base := base) T
  have b_Chart_has := sC T.nc
  refine ⟨hN, _, (ai (cG (gz (eO (cY (fv 0) T.b_ T.sK G_Chart_has (hr.mono (by decide)) b_Chart_has .nil aK (FA.pa (aa (fv 1) ah))))) (ak (cm T.uL PySem.F.excBase_ValueError rfl rfl T.ue c_ (FA.pa (aa (aE [116, 104, 101, 114, 101, 32, 105, 115, 32, 110, 111, 32, 115, 117, 99, 104, 32, 97, 99, 99, 111, 117, 110, 116]) ah)))) bn)
      (ak (aT (cx (Nat.lt_of_le_of_lt (Nat.add_le_add_left (by decide) _) HU) (bP K (fv 0)) (fv 1) (fun _ _ => rfl))))), ?_⟩
  walk_at "rd"
  refine ⟨_, _, hp, CM _, hN, d, cs, J, ?_⟩
  cases e : fnd cs l with
  | none =>
    rw [e] at k
    split
    . exact ⟨one, k⟩
    . rename_i z; exact absurd rfl z
  | some c =>
    rw [e] at k
    rw [if_neg (by intro z; cases z)]
    refine ⟨_, _, _, _, hp, T.b_, T.bU, lkp _, d, .ref c.ob, rfl, ?_, k⟩
    have g := DGet.k (k := .inr ⟨⟨l⟩⟩) J.dc
    rw [jk, e] at g
    exact g
def sp_wT (C A : Addr) : Sp := sp2 fun x y H Q _ => NoT H /\ asR x fun p => asT y fun l => ∃ d cs c, CAt C A H p d cs /\ c ∈ cs /\ c.pa = l /\ Q c.ki H
theorem mH (T : Txt K mg a) : bw P w K mg base (XE P w) 3 a.eS a.gX ["self", "path"] (sp_wT a.aY a.aL) := by
  refine T.iw.okG mK (fun vs H Q E h => sp2.len h) (fun cdv A outer s H vs Q E hr h => ?_)
  obtain ⟨x0, x1, rfl, h⟩ := sp2.inv h
  try dsimp only [sp_wT, sp2] at h
  obtain ⟨hN, h1⟩ := h
  obtain ⟨p, rfl, h2⟩ := asR.inv h1
  obtain ⟨l, rfl, d, cs, c, J, hc, rfl, k⟩ := asT.inv h2
  obtain ⟨dx, hp⟩ := J.ob
  have G_Chart_account := eh (P := P) (w := w) (base := base) T
  have b_Chart_account := d5 T.dE
  refine ⟨hN, _, (ak (aT (bP K (cY (fv 0) T.b_ T.d6 G_Chart_account (hr.mono (by decide)) b_Chart_account .nil aK (FA.pa (aa (fv 1) ah)))))), ?_⟩
  walk_at "rd"
  refine ⟨_, _, hp, jY _, hN, d, cs, J, ?_⟩
  rw [vx J.np hc]
  obtain ⟨du, ho⟩ := (J.ac c hc).ob
  exact ⟨_, _, _, _, ho, T.ba, T.fV, fk .., k⟩
end
open PySem L2 K19
section
variable {pS : Addr} {ns : List Int} {P : Program} {w : World} {K : PySem.W.Frag} {mg : Str -> Option Value} {base : Heap} {a : Adr}
theorem jJ {β : Type} {l : List β} {x : β} (h : l.Nodup) (n : x ∉ l) : (l ++ [x]).Nodup :=
  List.nodup_append.mpr ⟨h, List.nodup_cons.mpr ⟨List.not_mem_nil, List.nodup_nil⟩, fun a ha b hb => by rw [List.mem_singleton.mp hb]; rintro rfl; exact n ha⟩
theorem CAt.bl_d {C A : Addr} {H : Hp} {p d : Addr} {cs : List Acc} (J : CAt C A H p d cs) {c : Acc} (hc : c ∈ cs) : c.bl ≠ d := e9 (J.ac c hc).ls J.dc (by intro z; cases z)
theorem CAt.ob_d {C A : Addr} {H : Hp} {p d : Addr} {cs : List Acc} (J : CAt C A H p d cs) {c : Acc} (hc : c ∈ cs) : c.ob ≠ d := by
  obtain ⟨dx, e⟩ := (J.ac c hc).ob; exact e9 e J.dc (by intro z; cases z)
theorem CAt.p_d {C A : Addr} {H : Hp} {p d : Addr} {cs : List Acc} (J : CAt C A H p d cs) : p ≠ d := by
  obtain ⟨dx, e⟩ := J.ob; exact e9 e J.dc (by intro z; cases z)
theorem CAt.p_bl {C A : Addr} {H : Hp} {p d : Addr} {cs : List Acc} (J : CAt C A H p d cs) {c : Acc} (hc : c ∈ cs) : p ≠ c.bl := by
  obtain ⟨dx, e⟩ := J.ob; exact e9 e (J.ac c hc).ls (by intro z; cases z)
theorem CAt.ob_bl {C A : Addr} {H : Hp} {p d : Addr} {cs : List Acc} (J : CAt C A H p d cs) {c c' : Acc} (hc : c ∈ cs) (hc' : c' ∈ cs) : c.ob ≠ c'.bl := by
  obtain ⟨dx, e⟩ := (J.ac c hc).ob; exact e9 e (J.ac c' hc').ls (by intro z; cases z)
theorem tR {cs : List Acc} {l : List Nat} (h : fnd cs l = none) (c : Acc) (e : c.pa = l) : fU (cs.map kyA) (.inr ⟨⟨l⟩⟩) (.ref c.ob) = (cs ++ [c]).map kyA := by
  rw [tT _ (by rw [jk, h]; rfl), List.map_append, <- e]; rfl
theorem CAt.more {C A : Addr} {H H' : Hp} {p d : Addr} {cs : List Acc} (J : CAt C A H p d cs) (kp : Keep [] H H') {c : Acc} (hf : fnd cs c.pa = none) (h0 : H c.ob = none) (h1 : H c.bl = none) (hc : AAt A H' c) :
    CAt C A (upd H' d (.dK ((cs ++ [c]).map kyA))) p d (cs ++ [c]) := by
  have J1 := J.keep kp List.not_mem_nil List.not_mem_nil fun _ _ => ⟨List.not_mem_nil, List.not_mem_nil⟩
  have dn := J1.dc
  obtain ⟨dc, eo⟩ := hc.ob
  have n1 : c.ob ≠ d := e9 eo dn (by intro z; cases z)
  have n2 : c.bl ≠ d := e9 hc.ls dn (by intro z; cases z)
  refine ⟨?_, ad, fun z hz => ?_, ?_, ?_, ?_⟩
  . obtain ⟨dx, e⟩ := J1.ob
    exact ⟨dx, (aj J1.p_d).trans e⟩
  . rcases List.mem_append.mp hz with hz | hz
    . obtain ⟨dz, e⟩ := (J1.ac z hz).ob
      exact ⟨⟨dz, (aj (J1.ob_d hz)).trans e⟩, (aj (J1.bl_d hz)).trans (J1.ac z hz).ls⟩
    . rw [List.mem_singleton.mp hz]
      exact ⟨⟨dc, (aj n1).trans eo⟩, (aj n2).trans hc.ls⟩
  . rw [List.map_append]
    refine jJ J.np fun h => ?_
    obtain ⟨z, hz, e⟩ := List.mem_map.mp h
    exact oA hf z hz e
  . rw [List.map_append]
    refine jJ J.na fun h => ?_
    obtain ⟨z, hz, e⟩ := List.mem_map.mp h
    obtain ⟨dz, eo⟩ := (J.ac z hz).ob
    rw [e, h0] at eo; cases eo
  . rw [List.map_append]
    refine jJ J.nb fun h => ?_
    obtain ⟨z, hz, e⟩ := List.mem_map.mp h
    have eo := (J.ac z hz).ls
    rw [e, h1] at eo; cases eo
theorem jl {H H' : Hp} {x dx : Addr} {o o' : HO} (hx : H x = none) (hd : H dx = none) (kp : Keep [x] (upd (upd H dx o) x o') H') : Keep [] H H' := fun c z e _ => by
  have n1 : c ≠ x := av e hx
  have n2 : c ≠ dx := av e hd
  exact kp c z (by rw [aj n1, aj n2]; exact e) (by simpa using n1)
theorem fz {H : Hp} {x dx b : Addr} {o o' : HO} (h : upd (upd H dx o) x o' b = none) : H b = none := by
  have n1 : b ≠ x := fun z => by rw [z, ad] at h; cases h
  rw [aj n1] at h
  have n2 : b ≠ dx := fun z => by rw [z, ad] at h; cases h
  rw [aj n2] at h; exact h
abbrev KDS : List (List Nat) := [[104, 97, 118, 101], [111, 119, 101], [111, 119, 110], [103, 97, 105, 110], [99, 111, 115, 116]]
def sp_ox (C A : Addr) : Sp := sp3 fun x y z H Q _ => NoT H /\ asR x fun p => asT y fun l => nm l = true /\ asT z fun kd => kd ∈ KDS /\ ∃ d cs, CAt C A H p d cs /\ cs.length <= 100 /\ fnd cs l = none /\
  (∀ c H', c.pa = l -> c.ki = L2.T kd -> c.fi = 0 -> c.un = none -> c.be = [] -> H c.ob = none -> H c.bl = none -> CAt C A H' p d (cs ++ [c]) -> Keep [d] H H' -> NoT H' -> Q .non H')
theorem zb {l : List Nat} (h : l ∈ KDS) : inV (L2.T l) (KDS.map L2.T) = true := by
  simp only [List.mem_cons, List.not_mem_nil, or_false] at h
  rcases h with rfl | rfl | rfl | rfl | rfl <;> decide
theorem E3 {l : List Nat} (h : nm l = true) : ok l := by
  obtain ⟨_, h2, h3⟩ := om h
  exact ⟨fun c hc => by have := h3 c hc; omega, by omega⟩
theorem mI (T : Txt K mg a) : bw P w K mg base (XE P w) 4 a.eK a.gU ["self", "name", "kind"] (sp_ox a.aY a.aL) := by
  refine T.iC.okX mm (fun vs H Q E h => sp3.len h) (fun cdv A outer s H vs Q E hr h => ?_)
  obtain ⟨x0, x1, x2, rfl, h⟩ := sp3.inv h
  try dsimp only [sp_ox, sp3] at h
  have HU := bf hr
  obtain ⟨hN, h1⟩ := h
  obtain ⟨p, rfl, h2⟩ := asR.inv h1
  obtain ⟨l, rfl, e, h3⟩ := asT.inv h2
  obtain ⟨kd, rfl, hz, d, cs, J, len, ef, k⟩ := asT.inv h3
  obtain ⟨dx, hp⟩ := J.ob
  have G_Account___init__ := eZ (P := P) (w := w) (base := base) T
  have b_Account___init__ := eW T.dI
  have G_is_name := pw (P := P) (w := w) (base := base) T
  have b_is_name := oj T.g8
  refine ⟨_, (ai (cG (gz (eO (au G_is_name (hr.mono (by decide)) rfl T.qO T.g8.kp b_is_name .nil aK (FA.pa (aa (fv 1) ah))))) (ak (cm T.yd PySem.F.excBase_ValueError rfl rfl T.yu c_ (FA.pa (aa (aE [116, 104, 105, 115, 32, 105, 115, 32, 110, 111, 32, 110, 97, 109, 101]) ah)))) bn)
      (ai (cG (bK (mM K) (fv 2) (xy (v := .ref a.k_) rfl T.BP rfl) (by with_unfolding_all rfl)) (ak (cm T.yj PySem.F.excBase_ValueError rfl rfl T.yt c_ (FA.pa (aa (aE [116, 104, 101, 114, 101, 32, 105, 115, 32, 110, 111, 32, 115, 117, 99, 104, 32, 107, 105, 110, 100]) ah)))) bn)
      (ai (cG (nX (vC (Nat.lt_of_le_of_lt (Nat.add_le_add_left (by decide) _) HU) (fv 1) (bP K (fv 0))) (by with_unfolding_all rfl)) (ak (cm T.wD PySem.F.excBase_ValueError rfl rfl T.wx c_ (FA.pa (aa (aE [116, 104, 101, 114, 101, 32, 105, 115, 32, 115, 117, 99, 104, 32, 97, 110, 32, 97, 99, 99, 111, 117, 110, 116]) ah)))) bn)
      (ak (gm (Nat.lt_of_le_of_lt (Nat.add_le_add_left (by decide) _) HU) (bP K (fv 0)) (fv 1) (ua T.px G_Account___init__ (hr.mono (by decide)) rfl T.rl b_Account___init__ .nil aK (FA.pa (aa (fv 2) (aa fL (aa ae ah))))) rfl))))), ?_⟩
  walk_at "rd"
  refine ⟨hN, E3 e, itn (by rw [e]; decide) ?_⟩
  refine ⟨_, .inr (.inr T.k_), rfl, by decide, ?_⟩
  rw [show inV (L2.T kd) _ = true from zb hz, if_neg (by decide)]
  refine ⟨_, _, _, _, hp, T.b_, T.bU, lkp _, d, _, rfl, DGet.k (k := .inr ⟨⟨l⟩⟩) J.dc, ?_⟩
  rw [jk, Option.isSome_map, ef, if_neg (by intro z; cases z)]
  intro x dx hx hdx ne
  refine ⟨az (az hN rfl) rfl, _, ad, fun b H' hb h1 h2 kp hN' => ?_⟩
  have kp0 := jl hx hdx kp
  have J1 := J.keep kp0 List.not_mem_nil List.not_mem_nil fun _ _ => ⟨List.not_mem_nil, List.not_mem_nil⟩
  obtain ⟨dx1, hp1⟩ := J1.ob
  let c : Acc := ⟨l, x, b, L2.T kd, .non, 0, none, []⟩
  have smk : (cs.map kyA).length < sizeLine := by rw [List.length_map, sizeLine_eq]; omega
  refine ⟨_, _, _, _, hp1, T.b_, T.bU, lkp _, d, _, rfl, DPut.k (k := .inr ⟨⟨l⟩⟩) J1.dc smk, ?_⟩
  rw [tR ef c rfl]
  exact k c _ rfl rfl rfl rfl rfl hx (fz hb) (J.more kp0 ef hx (fz hb) ⟨⟨dx, h1⟩, h2⟩) ((kp0.mono (fun _ h => nomatch h)).put (.head _)) (az hN' rfl)
theorem pE (s x : List Nat) : ∀ (r : List (List Nat)), r ≠ [] -> cZ s (r ++ [x]) = cZ s r ++ s ++ x
  | [], h => absurd rfl h
  | [y], _ => by simp [cZ]
  | y :: z :: r, _ => by
    have := pE s x (z :: r) (by simp)
    rw [List.cons_append, List.cons_append, cZ, <- List.cons_append, this, cZ]
    simp
theorem gj {v n : List Nat} (hn : 58 ∉ n) : spN 58 (v ++ 58 :: n) = spN 58 v ++ [n] := by
  have h := oX 58 (spN 58 v ++ [n]) (by simp) fun p hp => by
    rcases List.mem_append.mp hp with h | h
    . exact jh 58 v p h
    . rw [List.mem_singleton.mp h]; exact hn
  rw [pE _ _ _ (jX 58 v), pp] at h
  rw [<- h]; simp
theorem A_ {v n : List Nat} (hn : 58 ∉ n) : abN (v ++ 58 :: n) = abN v ++ [v] := by
  unfold abN
  rw [gj hn, List.length_append, List.length_singleton, Nat.add_sub_cancel]
  have hp : 0 < (spN 58 v).length := List.length_pos_iff.mpr (jX 58 v)
  obtain ⟨m, hm⟩ : ∃ m, (spN 58 v).length = m + 1 := ⟨(spN 58 v).length - 1, by omega⟩
  rw [hm, List.range_succ, List.map_append, Nat.add_sub_cancel]
  congr 1
  . apply List.map_congr_left
    intro k hk
    have := List.mem_range.mp hk
    rw [List.take_append_of_le_length (by omega)]
  . rw [List.map_singleton, <- hm, List.take_left', pp]
    rfl
def kx (cs : List Acc) (l : List Nat) (f : Acc -> Acc) : List Acc := cs.map fun z => if z.pa = l then f z else z
theorem dP {β : Type} {cs : List Acc} {l : List Nat} {f : Acc -> Acc} (g : Acc -> β) (h : ∀ z, g (f z) = g z) : (kx cs l f).map g = cs.map g := by
  unfold kx
  rw [List.map_map]
  apply List.map_congr_left
  intro z _
  show g (if z.pa = l then f z else z) = g z
  split
  . exact h z
  . rfl
theorem i4 {cs : List Acc} {l : List Nat} {f : Acc -> Acc} {z : Acc} (h : z ∈ kx cs l f) : ∃ y ∈ cs, z = if y.pa = l then f y else y := by
  obtain ⟨y, hy, e⟩ := List.mem_map.mp h
  exact ⟨y, hy, e.symm⟩
def grw (l : List Nat) (z : Acc) : Acc := { z with be := z.be ++ [l] }
def shu (t : Int) (z : Acc) : Acc := { z with un := some t }
theorem CAt.grow {C A : Addr} {H : Hp} {p d : Addr} {cs : List Acc} (J : CAt C A H p d cs) {u : Acc} (hu : u ∈ cs) (l : List Nat) : CAt C A (upd H u.bl (.lst (u.be.map L2.T ++ [L2.T l]))) p d (kx cs u.pa (grw l)) := by
  refine ⟨?_, ?_, fun z hz => ?_, ?_, ?_, ?_⟩
  . obtain ⟨dx, e⟩ := J.ob
    exact ⟨dx, (aj (J.p_bl hu)).trans e⟩
  . rw [dP (f := grw l) kyA fun _ => rfl, aj (Ne.symm (J.bl_d hu))]; exact J.dc
  . obtain ⟨y, hy, e⟩ := i4 hz
    obtain ⟨dy, ho⟩ := (J.ac y hy).ob
    by_cases h : y.pa = u.pa
    . have : y = u := jg J.np hy hu h
      subst this
      rw [if_pos rfl] at e
      subst e
      exact ⟨⟨dy, (aj (J.ob_bl hy hu)).trans ho⟩, by show upd H y.bl _ y.bl = some (.lst ((y.be ++ [l]).map L2.T)); rw [ad, List.map_append]; rfl⟩
    . rw [if_neg h] at e
      subst e
      have nb : z.bl ≠ u.bl := fun q => h (by rw [jg J.nb hy hu q])
      exact ⟨⟨dy, (aj (J.ob_bl hy hu)).trans ho⟩, (aj nb).trans (J.ac z hy).ls⟩
  . rw [dP (f := grw l) _ fun _ => rfl]; exact J.np
  . rw [dP (f := grw l) _ fun _ => rfl]; exact J.na
  . rw [dP (f := grw l) _ fun _ => rfl]; exact J.nb
theorem zr {cs : List Acc} {v l : List Nat} {f : Acc -> Acc} (hf : ∀ z, (f z).pa = z.pa) (h : fnd cs l = none) : fnd (kx cs v f) l = none := by
  refine List.find?_eq_none.mpr fun z hz => ?_
  obtain ⟨y, hy, e⟩ := i4 hz
  have := oA h y hy
  subst e
  split
  . simpa [hf] using this
  . simpa using this
theorem FL {p q : Prop} (f : p -> q) (x : p) : q := f x
theorem Ee {x : V} {l : List Nat} {f : List Nat -> Prop} (h : x = L2.T l) (k : f l) : asT x f := by subst h; exact k
def sp_Ap (C A : Addr) : Sp := sp4 fun x y z t H Q _ => NoT H /\ asR x fun p => asT y fun l => ((∀ c ∈ l, c < 128) /\ l.length <= 199) /\ (z = .non \/ ∃ cl, z = L2.T cl /\ cur cl = true) /\ asI t fun day => (0 <= day /\ day <= 146096) /\ ∃ v n d cs u, l = v ++ 58 :: n /\ 58 ∉ n /\ lK l = true /\ CAt C A H p d cs /\ cs.length <= 100 /\ (∀ c ∈ cs, c.be.length <= 100) /\
  fnd cs l = none /\ u ∈ cs /\ u.pa = v /\ u.un = none /\ u.fi <= day /\
  ∀ c H', c.pa = l -> c.ki = u.ki -> c.fi = day -> c.un = none -> c.be = [] -> H c.ob = none -> H c.bl = none -> CAt C A H' p d (kx cs v (grw l) ++ [c]) -> Keep (d :: cs.map (·.bl)) H H' -> NoT H' -> Q .non H'
theorem sJ (T : Txt K mg a) : bw P w K mg base (XE P w) 7 a.gi a.kh ["self", "path", "currency", "day"] (sp_Ap a.aY a.aL) := by
  refine T.mP.okX lH (fun vs H Q E h => sp4.len h) (fun cdv A outer s H vs Q E hr h => ?_)
  obtain ⟨x0, x1, x2, x3, rfl, h⟩ := sp4.inv h
  try dsimp only [sp_Ap, sp4] at h
  have ND := lH.nd
  have HU := bf hr
  obtain ⟨hN, h1⟩ := h
  obtain ⟨p, rfl, h2⟩ := asR.inv h1
  obtain ⟨l, rfl, hl, hz, h3⟩ := asT.inv h2
  obtain ⟨day, rfl, hd, v, n, d, cs, u, el, hn, e, J, len, lb, ef, hu, pu, un, uf, k⟩ := asI.inv h3
  obtain ⟨dx, hp⟩ := J.ob
  have G_Account___init__ := eZ (P := P) (w := w) (base := base) T
  have b_Account___init__ := eW T.dI
  have G_Account_stands_on := iT (P := P) (w := w) (base := base) T
  have b_Account_stands_on := i5 T.eY
  have G_Chart_account := eh (P := P) (w := w) (base := base) T
  have b_Chart_account := d5 T.dE
  have G_above := Au (P := P) (w := w) (base := base) T
  have b_above := zK T.sd
  have G_is_day := qo (P := P) (w := w) (base := base) T
  have b_is_day := ql T.iM
  have G_is_currency := nZ (P := P) (w := w) (base := base) T
  have b_is_currency := nW T.gw
  have G_names_of := uB (P := P) (w := w) (base := base) T
  have b_names_of := tG T.jT
  have c4 : ∃ z, PSs (eL (XE P w) P w K mg base ["self", "path", "currency", "day", "upper"] "Chart.add" (ag bS) a.gi cdv A outer s H E) (List.drop 4 (aA bS)) z /\ z { nx := fun _ H' => Q .non H', rt := Q } [some (.ref p), some (L2.T l), some x2, some (.int day), none] H := by
    refine ⟨_, (ai (aM (i := 4) ND rfl (Or.inl rfl) (cY (fv 0) T.b_ T.d6 G_Chart_account (hr.mono (by decide)) b_Chart_account .nil aK (FA.pa (aa (Cd (aU (aC K) (au G_above (hr.mono (by decide)) rfl T.BB T.sd.kp b_above .nil aK (FA.pa (aa (fv 1) ah))) (Ch AN ae) (fun _ _ => rfl))) ah))))
      (ai (cG (L2.PW.pt (wZ (nX (lj (bP K (fv 4)))) (wm (gz (eO (cY (fv 4) T.ba T.i7 G_Account_stands_on (hr.mono (by decide)) b_Account_stands_on .nil aK (FA.pa (aa (fv 3) ah)))))))) (ak (cm T.qZ PySem.F.excBase_ValueError rfl rfl T.qA c_ (FA.pa (aa (aE [116, 104, 101, 32, 97, 99, 99, 111, 117, 110, 116, 32, 97, 98, 111, 118, 101, 32, 105, 115, 110, 39, 116, 32, 111, 112, 101, 110]) ah)))) bn)
      (ai (dF (fN K PySem.F.plainAttrs_list PySem.F.slot_list_append PySem.F.type_list_append d4 (bP K (fv 4)) (FA.pa (aa (fv 1) ah))))
      (ak (gm (Nat.lt_of_le_of_lt (Nat.add_le_add_left (by decide) _) HU) (bP K (fv 0)) (fv 1) (ua T.px G_Account___init__ (hr.mono (by decide)) rfl T.rl b_Account___init__ .nil aK (FA.pa (aa (bP K (fv 4)) (aa (fv 2) (aa (fv 3) ah))))) rfl))))), ?_⟩
    walk_at "rd"
    refine ⟨_, _, hp, jY _, hN, hN, hl, fun q2 hq2 => ⟨_, L2.T v, .inl (SqL.of ad), ?_, ?_⟩⟩
    . rw [el, A_ hn, List.map_append]; exact AE _ _
    refine ⟨H, Gc.none (aq _ hq2), hN, ?_⟩
    walk_at "rd"
    refine ⟨d, cs, J, ?_⟩
    rw [show fnd cs v = some u by rw [<- pu]; exact vx J.np hu]
    obtain ⟨du, ho⟩ := (J.ac u hu).ob
    refine ⟨_, _, _, _, ho, T.ba, T.cj, fu .., ?_⟩
    rw [un]
    have eo : opn u.fi u.un day = true := by rw [un]; unfold opn; rw [decide_eq_true uf]; rfl
    refine itp rfl ⟨_, _, ho, Fv .., hN, _, _, _, _, _, _, ho, ?_⟩
    rw [eo]
    have sml : (u.be.map L2.T).length < sizeLine := by have := lb u hu; rw [List.length_map, sizeLine_eq]; omega
    refine itn (by decide) ⟨_, _, _, _, ho, T.ba, T.eT, fb .., .inl ⟨rfl, _, SqL.of (J.ac u hu).ls⟩, u.bl, _, _, rfl, rfl, (J.ac u hu).ls, sml, ?_⟩
    have J1 := J.grow hu l
    have N1 : NoT (upd H u.bl (.lst (u.be.map L2.T ++ [L2.T l]))) := az hN rfl
    have ho1 := (aj (o := .lst (u.be.map L2.T ++ [L2.T l])) (J.ob_bl hu hu)).trans ho
    have K1 : Keep (d :: cs.map (·.bl)) H (upd H u.bl (.lst (u.be.map L2.T ++ [L2.T l]))) := Keep.refl.put (.tail _ (List.mem_map_of_mem hu))
    have n58 : ∀ q, upd H u.bl (.lst (u.be.map L2.T ++ [L2.T l])) q = none -> H q = none := fun q hq => by
      by_cases hc : q = u.bl
      . rw [hc, ad] at hq; cases hq
      . rw [aj hc] at hq; exact hq
    generalize upd H u.bl (.lst (u.be.map L2.T ++ [L2.T l])) = H1 at J1 N1 ho1 K1 n58 ⊢
    refine ⟨_, _, _, _, ho1, T.ba, T.fV, fk .., fun x dx1 hx hdx ne => ?_⟩
    refine ⟨az (az N1 rfl) rfl, _, ad, fun b H' hb h1 h2 kp hN' => ?_⟩
    have kp0 := jl hx hdx kp
    have J2 := J1.keep kp0 List.not_mem_nil List.not_mem_nil fun _ _ => ⟨List.not_mem_nil, List.not_mem_nil⟩
    obtain ⟨dx2, hp2⟩ := J2.ob
    let c : Acc := ⟨l, x, b, u.ki, x2, day, none, []⟩
    have smk : ((kx cs u.pa (grw l)).map kyA).length < sizeLine := by rw [dP (f := grw l) kyA fun _ => rfl, List.length_map, sizeLine_eq]; omega
    have ef1 : fnd (kx cs u.pa (grw l)) l = none := zr (fun _ => rfl) ef
    refine ⟨_, _, _, _, hp2, T.b_, T.bU, lkp _, d, _, rfl, DPut.k (k := .inr ⟨⟨l⟩⟩) J2.dc smk, ?_⟩
    rw [tR ef1 c rfl]
    have J3 := J1.more kp0 (c := c) ef1 hx (fz hb) ⟨⟨dx1, h1⟩, h2⟩
    rw [pu] at J3 ⊢
    exact k c _ rfl rfl rfl rfl rfl (n58 _ hx) (n58 _ (fz hb)) J3 ((K1.trans (kp0.mono (fun _ h => nomatch h))).put (.head _)) (az hN' rfl)
  obtain ⟨u4, hu4, c4⟩ := c4
  refine ⟨_, (ai (cG (uK (bK (jK K HU) (aQ (dN K) rfl T.iD eM (FA.pa (aa (au G_names_of (hr.mono (by decide)) rfl T.vy T.jT.kp b_names_of .nil aK (FA.pa (aa (fv 1) ah))) ah))) ae (bF _))) (ak (cm T.mD PySem.F.excBase_ValueError rfl rfl T.lX c_ (FA.pa (aa (aE [97, 32, 115, 105, 110, 103, 108, 101, 32, 110, 97, 109, 101, 32, 105, 115, 32, 97, 32, 116, 111, 112]) ah)))) bn)
      (ai (cG (L2.PW.pt (vE (nX (lj (fv 2))) (r9 (gz (eO (au G_is_currency (hr.mono (by decide)) rfl T.pN T.gw.kp b_is_currency .nil aK (FA.pa (aa (fv 2) ah)))))))) (ak (cm T.pH PySem.F.excBase_ValueError rfl rfl T.qg c_ (FA.pa (aa (aE [116, 104, 105, 115, 32, 105, 115, 32, 110, 111, 32, 99, 117, 114, 114, 101, 110, 99, 121]) ah)))) bn)
      (ai (cG (gz (eO (au G_is_day (hr.mono (by decide)) rfl T.uT T.iM.kp b_is_day .nil aK (FA.pa (aa (fv 3) ah))))) (ak (cm T.tX PySem.F.excBase_ValueError rfl rfl T.uS c_ (FA.pa (aa (aE [116, 104, 105, 115, 32, 105, 115, 32, 110, 111, 32, 100, 97, 121]) ah)))) bn)
      (ai (cG (nX (vC (Nat.lt_of_le_of_lt (Nat.add_le_add_left (by decide) _) HU) (fv 1) (bP K (fv 0))) (by with_unfolding_all rfl)) (ak (cm T.wD PySem.F.excBase_ValueError rfl rfl T.wx c_ (FA.pa (aa (aE [116, 104, 101, 114, 101, 32, 105, 115, 32, 115, 117, 99, 104, 32, 97, 110, 32, 97, 99, 99, 111, 117, 110, 116]) ah)))) bn)
      hu4)))), ?_⟩
  walk_at "rd"
  refine ⟨hN, hN, hl, e, fun q hq => ?_⟩
  refine ⟨_, .inl (SqL.of ad), H, Gc.none (aq _ hq), ?_⟩
  rw [List.length_map, el, gj hn, List.length_append, if_neg (by
    have hp : 0 < (spN 58 v).length := List.length_pos_iff.mpr (jX 58 v)
    simp only [List.length_singleton]; omega)]
  rw [<- el]
  refine' FL (fun key => _) _
  rotate_left 1
  . rcases hz with hz | ⟨cl', hz, hcl⟩
    . exact itp hz key
    . exact itn (by rw [hz]; intro z; cases z) ⟨hN, Ee hz ⟨hcl, key⟩⟩
  have ed : amg (.int day) 0 146096 = true := by show (decide (0 <= day) && decide (day <= 146096)) = true; rw [decide_eq_true hd.1, decide_eq_true hd.2]; rfl
  rw [ed]
  refine ⟨hN, itn (by decide) ⟨_, _, _, _, hp, T.b_, T.bU, lkp _, d, _, rfl, DGet.k (k := .inr ⟨⟨l⟩⟩) J.dc, ?_⟩⟩
  rw [jk, Option.isSome_map, ef, if_neg (by intro z; cases z)]
  exact c4
end
open PySem L2 K19
section
variable {P : Program} {w : World} {K : PySem.W.Frag} {mg : Str -> Option Value} {base : Heap} {a : Adr}
theorem CAt.shutA {C A : Addr} {H : Hp} {p d : Addr} {cs : List Acc} (J : CAt C A H p d cs) {u : Acc} (hu : u ∈ cs) (t : Int) {dx : Addr} (ho : H u.ob = some (.ins A dx (ib u.ki u.cu (.int u.fi) (cl u.un) (.ref u.bl)))) : CAt C A (upd H u.ob (.ins A dx (ib u.ki u.cu (.int u.fi) (.int t) (.ref u.bl)))) p d (kx cs u.pa (shu t)) := by
  have pob : p ≠ u.ob \/ p = u.ob := (Decidable.em _).symm
  refine ⟨?_, ?_, fun z hz => ?_, ?_, ?_, ?_⟩
  . obtain ⟨dp, e⟩ := J.ob
    have : p ≠ u.ob := e9 e ho (by intro z; cases z)
    exact ⟨dp, (aj this).trans e⟩
  . rw [dP (f := shu t) kyA fun _ => rfl, aj (Ne.symm (J.ob_d hu))]; exact J.dc
  . obtain ⟨y, hy, e⟩ := i4 hz
    obtain ⟨dy, hoy⟩ := (J.ac y hy).ob
    by_cases h : y.pa = u.pa
    . have : y = u := jg J.np hy hu h
      subst this
      rw [if_pos rfl] at e
      subst e
      exact ⟨⟨dx, ad⟩, (aj (Ne.symm (J.ob_bl hy hu))).trans (J.ac y hy).ls⟩
    . rw [if_neg h] at e
      subst e
      have nb : z.ob ≠ u.ob := fun q => h (by rw [jg J.na hy hu q])
      exact ⟨⟨dy, (aj nb).trans hoy⟩, (aj (Ne.symm (J.ob_bl hu hy))).trans (J.ac z hy).ls⟩
  . rw [dP (f := shu t) _ fun _ => rfl]; exact J.np
  . rw [dP (f := shu t) _ fun _ => rfl]; exact J.na
  . rw [dP (f := shu t) _ fun _ => rfl]; exact J.nb
def sp_xG (C A : Addr) : Sp := sp3 fun x y z H Q _ => NoT H /\ asR x fun p => asT y fun l => ((∀ c ∈ l, c < 128) /\ l.length <= 199) /\ asI z fun day => (0 <= day /\ day <= 146096) /\ ∃ d cs u, CAt C A H p d cs /\ u ∈ cs /\ u.pa = l /\ lK l = true /\ u.un = none /\ u.fi < day /\ u.be = [] /\
  ∀ H', CAt C A H' p d (kx cs l (shu day)) -> Keep (cs.map (·.ob)) H H' -> NoT H' -> Q .non H'
theorem pZ (T : Txt K mg a) : bw P w K mg base (XE P w) 6 a.ig a.jF ["self", "path", "day"] (sp_xG a.aY a.aL) := by
  refine T.j9.okX ju (fun vs H Q E h => sp3.len h) (fun cdv A outer s H vs Q E hr h => ?_)
  obtain ⟨x0, x1, x2, rfl, h⟩ := sp3.inv h
  try dsimp only [sp_xG, sp3] at h
  have ND := ju.nd
  have HU := bf hr
  obtain ⟨hN, h1⟩ := h
  obtain ⟨p, rfl, h2⟩ := asR.inv h1
  obtain ⟨l, rfl, hl, h3⟩ := asT.inv h2
  obtain ⟨day, rfl, hd, d, cs, u, J, hu, pu, e, un, uf, ub, k⟩ := asI.inv h3
  obtain ⟨dx, hp⟩ := J.ob
  have G_Account_stands_later := gP (P := P) (w := w) (base := base) T
  have b_Account_stands_later := gN T.dQ
  have G_is_day := qo (P := P) (w := w) (base := base) T
  have b_is_day := ql T.iM
  have G_Chart_account := eh (P := P) (w := w) (base := base) T
  have b_Chart_account := d5 T.dE
  have G_is_path := oB (P := P) (w := w) (base := base) T
  have b_is_path := ph T.g7
  refine ⟨_, (ai (cG (gz (eO (au G_is_path (hr.mono (by decide)) rfl T.qx T.g7.kp b_is_path .nil aK (FA.pa (aa (fv 1) ah))))) (ak (cm T.mD PySem.F.excBase_ValueError rfl rfl T.lX c_ (FA.pa (aa (aE [116, 104, 105, 115, 32, 105, 115, 32, 110, 111, 32, 112, 97, 116, 104]) ah)))) bn)
      (ai (aM (i := 3) ND rfl (Or.inl rfl) (cY (fv 0) T.b_ T.d6 G_Chart_account (hr.mono (by decide)) b_Chart_account .nil aK (FA.pa (aa (fv 1) ah))))
      (ai (cG (L2.PW.pt (wZ (gz (eO (au G_is_day (hr.mono (by decide)) rfl T.uT T.iM.kp b_is_day .nil aK (FA.pa (aa (fv 2) ah))))) (wm (bK gg (fv 2) (bP K (fv 3)) (bF _))))) (ak (cm T.tX PySem.F.excBase_ValueError rfl rfl T.uS c_ (FA.pa (aa (aE [116, 104, 105, 115, 32, 105, 115, 32, 110, 111, 32, 100, 97, 121, 32, 98, 101, 104, 105, 110, 100, 32, 116, 104, 101, 32, 97, 99, 99, 111, 117, 110, 116, 39, 115, 32, 102, 105, 114, 115, 116, 32, 111, 110, 101]) ah)))) bn)
      (ai (cG (nX (lj (bP K (fv 3)))) (ak (cm T.qZ PySem.F.excBase_ValueError rfl rfl T.qA c_ (FA.pa (aa (aE [116, 104, 101, 32, 97, 99, 99, 111, 117, 110, 116, 32, 119, 97, 115, 32, 115, 104, 117, 116]) ah)))) bn)
      (ai (cG (uK (eO (aQ (A6 K rfl) rfl T.Fh DL (FA.pa (aa (cn rfl (cl := _) (x := "lower") (xs := ["lower"]) (fr := ["day", "self"]) (ks := [2, 0]) (by exact ⟨rfl, by decide +kernel, rfl, by decide +kernel, rfl, cg rfl, rfl, aP rfl, aP (k := fun y => List.lookup y _) rfl, ci rfl⟩) rfl (bM K (bP K (fv 3))) (fun _ _ _ _ _ => (aN (i := 0) (dD (l := ["lower", "day", "self"]) (by decide)) rfl (Or.inl rfl))) (fun _ _ _ _ _ => fj) (fun _ _ _ _ _ => (cY (cx (Nat.lt_of_le_of_lt (Nat.add_le_add_left (by decide) _) HU) (bP K (fv 2)) (fv 0) (fun _ _ => rfl)) T.ba T.gW G_Account_stands_later (hr.mono (by decide)) b_Account_stands_later .nil u1 (FA.pa (aa (fv 1) ah))))) ah))))) (ak (cm T.vt PySem.F.excBase_ValueError rfl rfl T.vj c_ (FA.pa (aa (aE [97, 110, 32, 97, 99, 99, 111, 117, 110, 116, 32, 98, 101, 110, 101, 97, 116, 104, 32, 105, 115, 32, 111, 112, 101, 110, 32, 116, 104, 101, 110]) ah)))) bn)
      (ak (fh K (fv 3) (fv 2)))))))), ?_⟩
  walk_at "rd"
  refine ⟨hN, hl, itn (by rw [e]; decide) ?_⟩
  refine ⟨_, _, hp, jY _, hN, d, cs, J, ?_⟩
  rw [show fnd cs l = some u by rw [<- pu]; exact vx J.np hu]
  obtain ⟨du, ho⟩ := (J.ac u hu).ob
  dsimp only
  refine ⟨hN, ?_⟩
  have ed : amg (.int day) 0 146096 = true := by show (decide (0 <= day) && decide (day <= 146096)) = true; rw [decide_eq_true hd.1, decide_eq_true hd.2]; rfl
  rw [ed]
  refine itn (by decide) ⟨_, _, _, _, ho, T.ba, T.eP, ff .., ?_⟩
  walk_at "rd"
  refine itn (by omega) ⟨_, _, _, _, ho, T.ba, T.cj, fu .., ?_⟩
  rw [un]
  refine itp rfl ⟨hN, ?_⟩
  have hb : SqL K H u.bl [] := SqL.of (by rw [(J.ac u hu).ls, ub]; rfl)
  refine cmL u.bl [] (fun H' => SqL K H' u.bl []) (fun D ys hD => hb.same (aq _ hD)) (fun H' c => c) (fun _ => true) (fun x => x) (fun R r => ?_) hb (Nat.zero_le _) (fun x hx => nomatch hx) (fun x hx => nomatch hx) (fun D hD => ?_)
  . walk_at "rd"
    exact ⟨_, _, _, _, ho, T.ba, T.eT, fb .., r⟩
  . refine ⟨[], SqL.of ad, H, Gc.none (aq _ hD), itn (by decide) ⟨_, _, _, ho, T.ba, T.cj, by show 5 < 1000; decide, ?_⟩⟩
    rw [EM]
    have J1 := J.shutA hu day ho
    rw [pu] at J1
    exact k _ J1 (Keep.refl.put (List.mem_map_of_mem hu)) (az hN rfl)
end
open PySem L2 K19
section
variable {P : Program} {w : World} {K : PySem.W.Frag} {mg : Str -> Option Value} {base : Heap} {a : Adr}
def E0 (C dx b u : Addr) : HO := .ins C dx [("bookings", .ref b), ("undoings", .ref u)]
theorem lkb (x y : V) : List.lookup (Str.ofString "bookings") [(Str.ofString "bookings", x), (Str.ofString "undoings", y)] = some x := mB
structure JAt (C : Addr) (H : Hp) (p b u : Addr) (bs : List V) : Prop where
  ob : ∃ dx, H p = some (E0 C dx b u)
  ls : H b = some (.lst bs)
  dc : H u = some (.dK [])
theorem JAt.keep {C : Addr} {S : List Addr} {H H' : Hp} {p b u : Addr} {bs : List V} (j : JAt C H p b u bs) (x : Keep S H H') (hp : p ∉ S) (hb : b ∉ S) (hu : u ∉ S) : JAt C H' p b u bs :=
  ⟨by obtain ⟨dx, e⟩ := j.ob; exact ⟨dx, x _ _ e hp⟩, x _ _ j.ls hb, x _ _ j.dc hu⟩
def sp_qv (C : Addr) : Sp := sp1 fun x H Q _ => NoT H /\ asR x fun p => ∃ dx, H p = some (.ins C dx []) /\ ∀ b u H', H b = none -> H u = none -> JAt C H' p b u [] -> Keep [p] H H' -> NoT H' -> Q .non H'
theorem jm (T : Txt K mg a) : bw P w K mg base (XE P w) 1 a.cQ a.eX ["self"] (sp_qv a.aW) := by
  refine T.fA.okX jq (fun vs H Q E h => sp1.len h) (fun cdv A outer s H vs Q E hr h => ?_)
  obtain ⟨x0, rfl, h⟩ := sp1.inv h
  try dsimp only [sp_qv, sp1] at h
  obtain ⟨hN, h1⟩ := h
  obtain ⟨p, rfl, dx, hp, k⟩ := asR.inv h1
  refine ⟨_, (ai (fh K (fv 0) (dH (FA.pa ah)))
      (ak (fh K (fv 0) nM))), ?_⟩
  walk_at "rd"
  refine ⟨Nat.zero_le _, fun b hb => ?_⟩
  have np : p ≠ b := av hp hb
  refine ⟨_, _, _, (aj np).trans hp, T.ce, T.cV, by show 0 < 1000; decide, fun u hu => ?_⟩
  have nu : p ≠ u := fun q => by rw [<- q, ad] at hu; cases hu
  have nb : b ≠ u := fun q => by rw [<- q, aj (Ne.symm np), ad] at hu; cases hu
  refine ⟨_, _, _, (aj nu).trans ad, T.ce, T.jU, by show 1 < 1000; decide, ?_⟩
  have hu0 : H u = none := by
    rw [aj (Ne.symm nu), aj (Ne.symm nb)] at hu; exact hu
  refine k b u _ hb hu0 ⟨⟨dx, ?_⟩, ?_, ?_⟩ ?_ ?_
  . rw [ad]
    have e : dZ (Str.ofString "undoings") (V.ref u) (dZ (Str.ofString "bookings") (V.ref b) []) = [(Str.ofString "bookings", .ref b), (Str.ofString "undoings", .ref u)] := by
      have q : ¬ (Str.ofString "bookings" = Str.ofString "undoings") := by decide +kernel
      simp [dZ, q]
    rw [e]; rfl
  . rw [aj (Ne.symm np), aj nb, aj (Ne.symm np), ad]
  . rw [aj (Ne.symm nu), ad]
  . exact (((Keep.refl.new hb).put (List.mem_singleton.2 rfl)).new hu).put (List.mem_singleton.2 rfl)
  . exact az (az (az (az hN rfl) rfl) rfl) rfl
def sp_tD (C : Addr) : Sp := sp5 fun x d n r o H Q _ => NoT H /\ asR x fun p => asR r fun r => o = .non /\ ∃ b u bs rs, JAt C H p b u bs /\ bs.length <= 100 /\ H r = some (.lst rs) /\
  ∀ t q H', H t = none -> H' t = some (.tup rs) -> H q = none -> H' q = some (.tup [.int bs.length, d, n, .ref t, .non]) -> JAt C H' p b u (bs ++ [.ref q]) -> Keep [b] H H' -> NoT H' -> Q (.int bs.length) H'
theorem iX (T : Txt K mg a) : bw P w K mg base (XE P w) 1 a.gA a.iO ["self", "day", "note", "rows", "undoes"] (sp_tD a.aW) := by
  refine T.gC.okX iG (fun vs H Q E h => sp5.len h) (fun cdv A outer s H vs Q E hr h => ?_)
  obtain ⟨x0, x1, x2, x3, x4, rfl, h⟩ := sp5.inv h
  try dsimp only [sp_tD, sp5] at h
  have ND := iG.nd
  have HU := bf hr
  obtain ⟨hN, h1⟩ := h
  obtain ⟨p, rfl, h2⟩ := asR.inv h1
  obtain ⟨r, rfl, rfl, b, u, bs, rs, J, l1, hs, k⟩ := asR.inv h2
  obtain ⟨dx, hp⟩ := J.ob
  refine ⟨_, (ai (aM (i := 5) ND rfl (Or.inl rfl) (aQ (dN K) rfl T.iD eM (FA.pa (aa (bP K (fv 0)) ah))))
      (ai (dF (fN K PySem.F.plainAttrs_list PySem.F.slot_list_append PySem.F.type_list_append d4 (bP K (fv 0)) (FA.pa (aa (bR (FA.pa (aa (fv 5) (aa (fv 1) (aa (fv 2) (aa (fw (tK K) rfl T.rH oS (FA.pa (aa (fv 3) ah))) (aa (fv 4) ah))))))) ah))))
      (ai (cG (nX (lj (fv 4))) (ak (gm (Nat.lt_of_le_of_lt (Nat.add_le_add_left (by decide) _) HU) (bP K (fv 0)) (fv 4) (fv 5) rfl)) bn)
      (ak (aT (fv 5)))))), ?_⟩
  walk_at "rd"
  refine ⟨_, _, _, _, hp, T.ce, T.cV, lkb _ _, bs, .inl (.inl (.inl J.ls)), _, _, _, _, hp, T.ce, T.cV, lkb _ _, .inl ⟨rfl, bs, .inl (.inl J.ls)⟩, rs, .inl ⟨SqL.of hs, fun t ht => ⟨by rw [sizeLine_eq]; decide, fun q hq => ?_⟩⟩⟩
  have nb : p ≠ b := e9 hp J.ls (by intro z; cases z)
  have bu : b ≠ u := e9 J.ls J.dc (by intro z; cases z)
  have tp : p ≠ t := av hp ht
  have tb : b ≠ t := av J.ls ht
  have tu : u ≠ t := av J.dc ht
  have s1 := aq (HO.tup rs) ht
  have qb := av (s1 _ _ J.ls) hq
  have qu := av (s1 _ _ J.dc) hq
  have qp := av (s1 _ _ hp) hq
  have qt : t ≠ q := av ad hq
  have q0 : H q = none := s1.free hq
  refine ⟨b, bs, _, rfl, rfl, by rw [aj qb, aj tb]; exact J.ls, by rw [sizeLine_eq]; omega, ?_⟩
  refine k t q _ ht ?_ q0 ?_ ⟨⟨dx, ?_⟩, ad, ?_⟩ (((Keep.refl.new ht).new hq).put (.head _)) (az (az (az hN rfl) rfl) rfl)
  . rw [aj (Ne.symm tb), aj qt, ad]
  . rw [aj (Ne.symm qb), ad]
  . rw [aj nb, aj qp, aj tp]; exact hp
  . rw [aj (Ne.symm bu), aj qu, aj tu]; exact J.dc
def sp_pf (C : Addr) : Sp := sp1 fun x H Q _ => NoT H /\ asR x fun p => ∃ b u bs, JAt C H p b u bs /\ ∀ q, H q = none -> Q (.ref q) (upd H q (.lst bs))
theorem df (T : Txt K mg a) : bw P w K mg base (XE P w) 1 a.eQ a.gY ["self"] (sp_pf a.aW) := by
  refine T.cW.okG mt (fun vs H Q E h => sp1.len h) (fun cdv A outer s H vs Q E hr h => ?_)
  obtain ⟨x0, rfl, h⟩ := sp1.inv h
  try dsimp only [sp_pf, sp1] at h
  obtain ⟨hN, h1⟩ := h
  obtain ⟨p, rfl, b, u, bs, J, k⟩ := asR.inv h1
  obtain ⟨dx, hp⟩ := J.ob
  refine ⟨hN, _, (ak (aT (fw (xM K) rfl T.sU nP (FA.pa (aa (bP K (fv 0)) ah))))), ?_⟩
  walk_at "rd"
  exact ⟨_, _, _, _, hp, T.ce, T.cV, lkb _ _, bs, .inl (.inl (.inl J.ls)), fun l hl => ⟨_, Gc.one (aq _ hl) hl ad rfl, k l hl⟩⟩
end
open PySem L2 K19
section
variable {pS : Addr} {ns : List Int} {P : Program} {w : World} {K : PySem.W.Frag} {mg : Str -> Option Value} {base : Heap} {a : Adr}
theorem d_ {H H' : Hp} {D : Addr} {o : HO} (s : Same H H') (h : H D = none) : Same H (upd H' D o) := fun c z e => by
  rw [aj (av e h)]; exact s c z e
def RwAt (H : Hp) (v : V) (r : Row) : Prop := ∃ q, v = .ref q /\ H q = some (.tup [L2.T r.pa, L2.T r.cu, .int r.am])
def BkAt (H : Hp) (v : V) (b : Bk) : Prop := ∃ q t vs nt, v = .ref q /\ H q = some (.tup [.int b.k, .int b.d, L2.T nt, .ref t, .non]) /\ H t = some (.tup vs) /\ A2 (RwAt H) vs b.rs
def LW (W : List Addr) (H : Hp) : Prop := ∀ s ∈ W, ∃ l, H s = some (.lst l)
theorem LW.nil {H : Hp} : LW [] H := fun _ h => nomatch h
theorem LW.one {H : Hp} {s : Addr} {xs : List V} (h : H s = some (.lst xs)) : LW [s] H := fun z m => by rw [List.mem_singleton.mp m]; exact ⟨_, h⟩
theorem LW.no {W : List Addr} {H : Hp} (t : LW W H) {q : Addr} {o : HO} (h : H q = some o) (n : ∀ l, o ≠ .lst l) : q ∉ W := fun m => by
  obtain ⟨l, e⟩ := t q m
  rw [h] at e; cases e; exact n _ rfl
theorem LW.tup {W : List Addr} {H : Hp} (t : LW W H) {q : Addr} {l : List V} (h : H q = some (.tup l)) : q ∉ W := t.no h (by intro _ z; cases z)
section
variable {W : List Addr} {H H' : Hp} (x : Keep W H H') (t : LW W H)
include x t
theorem RwAt.keep {v : V} {r : Row} (h : RwAt H v r) : RwAt H' v r := by
  obtain ⟨q, rfl, e⟩ := h
  exact ⟨q, rfl, x _ _ e (t.tup e)⟩
theorem dq {vs : List V} {rs : List Row} (h : A2 (RwAt H) vs rs) : A2 (RwAt H') vs rs := h.imp fun _ _ _ _ r => r.keep x t
theorem BkAt.keep {v : V} {b : Bk} (h : BkAt H v b) : BkAt H' v b := by
  obtain ⟨q, u, vs, nt, rfl, e1, e2, r⟩ := h
  exact ⟨q, u, vs, nt, rfl, x _ _ e1 (t.tup e1), x _ _ e2 (t.tup e2), dq x t r⟩
theorem oZ {vs : List V} {bs : List Bk} (h : A2 (BkAt H) vs bs) : A2 (BkAt H') vs bs := h.imp fun _ _ _ _ r => r.keep x t
end
theorem bj {H H' : Hp} (s : Same H H') {vs : List V} {rs : List Row} (h : A2 (RwAt H) vs rs) : A2 (RwAt H') vs rs := dq (W := []) (Keep.same s) LW.nil h
theorem j_ {H H' : Hp} (s : Same H H') {vs : List V} {bs : List Bk} (h : A2 (BkAt H) vs bs) : A2 (BkAt H') vs bs := oZ (W := []) (Keep.same s) LW.nil h
end
open PySem L2 K19
section
variable {P : Program} {w : World} {K : PySem.W.Frag} {mg : Str -> Option Value} {base : Heap} {a : Adr}
theorem lG (x y : V) : List.lookup (Str.ofString "every") [(Str.ofString "bookings", x), (Str.ofString "undoings", y)] = none := by rw [bB (by decide +kernel), bB (by decide +kernel)]; rfl
theorem dM {α : Type} {l : List α} {i : Nat} {x : α} (h : l[i]? = some x) : l.take (i + 1) = l.take i ++ [x] := by rw [List.take_succ, h]; rfl
theorem su (o : Option Int) (j : Int) : (o.map V.int).getD (.int j) = .int (o.getD j) := by cases o <;> rfl
def EC (H : Hp) (Q : VK) (rs : List Row) : Prop := ∀ out r ws H', out.Perm ((dk rs).map (·.1)) -> qa out -> H r = none -> H' r = some (.lst ws) -> A2 (RwAt H') ws (res rs out) -> Same H H' -> NoT H' -> Q (.ref r) H'
def flt (H H' : Hp) : Hp := fun p => match H p with
  | some o => some o
  | none => match H' p with
    | some o => if jS o = true then some o else none
    | none => none
theorem w6 {H H' : Hp} {p : Addr} {o : HO} (h : H p = some o) : flt H H' p = some o := by unfold flt; rw [h]
theorem wg {H H' : Hp} (s : Same H H') {p : Addr} {o : HO} (h : H' p = some o) (n : jS o = true) : flt H H' p = some o := by
  cases e : H p with
  | some z => rw [s _ _ e] at h; cases h; exact w6 e
  | none => unfold flt; simp only [e, h, n, if_true]
theorem rZ {H H' : Hp} {p : Addr} {o : HO} (h : flt H H' p = some o) : H p = some o \/ (H' p = some o /\ jS o = true) := by
  unfold flt at h
  cases e : H p with
  | some z => rw [e] at h; exact .inl h
  | none =>
    simp only [e] at h
    cases e2 : H' p with
    | none => rw [e2] at h; cases h
    | some z =>
      simp only [e2] at h
      split at h
      . rename_i q; cases h; exact .inr ⟨rfl, q⟩
      . cases h
theorem Gc.flt {H H' : Hp} (s : Same H H') : Gc H (flt H H') H' := ⟨fun _ _ e => w6 e, fun p o e => (rZ e).elim (s p o) (·.1), fun p o e => (rZ e).imp id (·.2)⟩
theorem xu {H H' : Hp} (n : NoT H) : NoT (flt H H') := fun p o e => by
  rcases rZ e with q | ⟨_, q⟩
  . exact n p o q
  . cases o <;> first | rfl | cases q
theorem vc {H H' : Hp} (s : Same H H') {vs : List V} {rs : List Row} (h : A2 (RwAt H') vs rs) : A2 (RwAt (flt H H')) vs rs := h.imp fun _ _ _ _ ⟨q, e, r⟩ => ⟨q, e, wg s r rfl⟩
theorem uO {H0 F : Hp} {D p : Addr} {ys : List V} {rs : List Row} (r : Row) (s : Same H0 F) (fD : H0 D = none) (hD : F D = some (.lst ys)) (hp : F p = none) (aw : A2 (RwAt F) ys rs) :
    upd F p (.tup [L2.T r.pa, L2.T r.cu, .int r.am]) D = some (.lst ys) /\ Same H0 (upd (upd F p (.tup [L2.T r.pa, L2.T r.cu, .int r.am])) D (.lst (ys ++ [.ref p]))) /\ A2 (RwAt (upd (upd F p (.tup [L2.T r.pa, L2.T r.cu, .int r.am])) D (.lst (ys ++ [.ref p])))) (ys ++ [.ref p]) (rs ++ [r]) := by
  have s1 := aq (HO.tup [L2.T r.pa, L2.T r.cu, .int r.am]) hp
  have hD1 := s1 _ _ hD
  have kp : Keep [D] (upd F p (.tup [L2.T r.pa, L2.T r.cu, .int r.am])) (upd (upd F p (.tup [L2.T r.pa, L2.T r.cu, .int r.am])) D (.lst (ys ++ [.ref p]))) := Keep.refl.put (.head _)
  exact ⟨hD1, d_ (s.trans s1) fD, (dq kp (LW.one hD1) (bj s1 aw)).snoc ⟨p, rfl, (aj (Ne.symm (av hD hp))).trans ad⟩⟩
def sp_xD : Sp := sp1 fun x H Q _ => NoT H /\ asR x fun p => ∃ vs rs, H p = some (.lst vs) /\ A2 (RwAt H) vs rs /\ rs.length <= 1000 /\ (dk rs).length < 64 /\ EC H Q rs
theorem ul (d : List (Pt × Int)) : (d.map jp).map (·.1) = (d.map (·.1)).map kP := by rw [List.map_map, List.map_map]; rfl
theorem o9 (T : Txt K mg a) : bw P w K mg base (XE P w) 1 a.mj a.oK ["rows"] sp_xD := by
  refine T.gR.okG pD (fun vs H Q E h => sp1.len h) (fun cdv A outer s H vs Q E hr h => ?_)
  obtain ⟨x0, rfl, h⟩ := sp1.inv h
  try dsimp only [sp_xD, sp1] at h
  have ND := pD.nd
  have HU := bf hr
  obtain ⟨hN, h1⟩ := h
  obtain ⟨p, rfl, vs, rs, hp, ha, len, l64, k⟩ := asR.inv h1
  have sz := szl
  refine ⟨hN, _, (ai (aM (i := 1) ND rfl (Or.inr rfl) tQ)
      (ai (d8 (by passes_own) rfl (bM K (fv 0)) (kl K (n := 3) rfl (bA (aN (i := 2) ND rfl (Or.inl rfl)) (bA (aN (i := 3) ND rfl (Or.inl rfl)) (bA (aN (i := 4) ND rfl (Or.inl rfl)) ii)))) (ak (gm (Nat.lt_of_le_of_lt (Nat.add_le_add_left (by decide) _) HU) (fv 1) (bR (FA.pa (aa (fv 2) (aa (fv 3) ah)))) (al aJ (oI (Nat.lt_of_le_of_lt (Nat.add_le_add_left (by decide) _) HU) (fv 1) (bR (FA.pa (aa (fv 2) (aa (fv 3) ah)))) ae ⟨rfl, rfl, rfl, rfl⟩) (fv 4)) rfl)))
      (ak (aT (cn rfl (cl := _) (x := "path") (xs := ["path", "currency"]) (fr := ["together"]) (ks := [1]) (by exact ⟨rfl, by decide +kernel, rfl, by decide +kernel, rfl, cg rfl, rfl, aP rfl, aP (k := fun y => List.lookup y _) rfl, ci rfl⟩) rfl (bM K (aQ (qm rfl) rfl T.nV mi (FA.pa (aa (fv 1) ah)))) (fun _ _ _ _ _ => (kl K (n := 2) rfl (bA (aN (i := 0) (dD (l := ["path", "currency", "together"]) (by decide)) rfl (Or.inl rfl)) (bA (aN (i := 1) (dD (l := ["path", "currency", "together"]) (by decide)) rfl (Or.inl rfl)) ii)))) (fun _ _ _ _ _ => (fc (bK (hZ K HU) (cx (Nat.lt_of_le_of_lt (Nat.add_le_add_left (by decide) _) HU) (fv 2) (bR (FA.pa (aa (fv 0) (aa (fv 1) ah)))) (fun _ _ => rfl)) ae (bF _)))) (fun _ _ _ _ _ => (bR (FA.pa (aa (fv 0) (aa (fv 1) (aa (cx (Nat.lt_of_le_of_lt (Nat.add_le_add_left (by decide) _) HU) (fv 2) (bR (FA.pa (aa (fv 0) (aa (fv 1) ah)))) (fun _ _ => rfl)) ah))))))))))), ?_⟩
  walk_at "rd"
  intro d hd
  refine iL ?_
  walk_at "rd"
  refine iV (SqL.of ((aq _ hd) _ _ hp)) (iW (fun i σ' H' => Same H H' /\ ∃ x2 x3 x4, H' d = some (.dT ((dk (rs.take i)).map jp)) /\ σ' = [some (.ref p), some (.ref d), x2, x3, x4]) ⟨aq _ hd, none, none, none, ad, rfl⟩ (fun i σ' H' _ h => SqL.of (h.1 _ _ hp)) ?_ ?_)
  . rintro i x σ' H' hx ⟨sm, x2, x3, x4, hd', rfl⟩
    obtain ⟨r, hr, q, rfl, hq⟩ := ha.at_ hx
    have hq' := sm _ _ hq
    walk_at "rd"
    refine ⟨_, _, rfl, SqT.of hq', rfl, _, _, rfl, _, _, rfl, _, _, rfl, rfl, ?_⟩
    walk_at "rd"
    have l1 := (gE (rs.take i)).2.2
    have l2 : (rs.take i).length <= 1000 := by rw [List.length_take]; omega
    refine ⟨.inr ⟨_, .inl hd'⟩, by walk_at "om", fun p1 hp1 => ⟨_, DGet.t (k := kP (r.pa, r.cu)) ((aq _ hp1) _ _ hd') ad, ?_⟩⟩
    rw [fS, su]
    walk_at "rd"
    have s1 := aq (HO.tup [L2.T r.pa, L2.T r.cu]) hp1
    refine ⟨by walk_at "om", fun p2 hp2 => ?_⟩
    have s2 := s1.trans (aq (HO.tup [L2.T r.pa, L2.T r.cu]) hp2)
    refine ⟨d, _, rfl, DPut.t (k := kP (r.pa, r.cu)) (s2 _ _ hd') ad (by rw [List.length_map, sizeLine_eq]; omega), ?_⟩
    rw [oC]
    refine ⟨d_ (sm.trans s2) hd, _, _, _, ?_, rfl, rfl, rfl⟩
    rw [ad, dM hr, ka]; rfl
  . rintro σ' H' ⟨sm, x2, x3, x4, hd', rfl⟩
    rw [ha.len, List.take_length] at hd'
    walk_at "rd"
    refine i9 ?_
    walk_at "rd"
    refine ⟨_, (dk rs).map (·.1), hd', ul _, by rw [List.length_map]; exact l64, fun out as po oo ao l hl => ?_⟩
    have sl := aq (HO.lst (as.map V.ref)) hl
    have lo := po.length_eq
    rw [List.length_map] at lo
    have la := ao.len
    refine ⟨⟨_, SqL.of ad⟩, wY l (as.map V.ref) (fun D i ys G => Same (upd H' l (.lst (as.map V.ref))) G /\ G D = some (.lst ys) /\ upd H' l (.lst (as.map V.ref)) D = none /\ A2 (RwAt G) ys (res rs (out.take i))) (by rw [List.length_map, sizeLine_eq]; omega) (fun D hD => ⟨aq _ hD, ad, hD, .nil⟩) (fun D i ys G h => ⟨h.2.1, SqL.of (h.1 _ _ ad), ?_⟩) ?_ ?_⟩
    . rw [h.2.2.2.len]
      exact Nat.le_trans (fo _ _) (by rw [List.length_take]; omega)
    . rintro D i y ys G zs N1 N0 hy ⟨sG, hD, fD, aG⟩ hz n1 n0
      rw [List.getElem?_map] at hy
      obtain ⟨b, hb, rfl⟩ := Option.map_eq_some_iff.mp hy
      obtain ⟨e, he, kb⟩ := ao.at_ hb
      have kG := sG _ _ (sl _ _ kb)
      have dG := sG _ _ (sl _ _ hd')
      have ve := we (po.mem_iff.mp (List.mem_of_getElem? he))
      obtain ⟨z1, z2, rfl⟩ := ex2 hz
      walk_at "rd"
      refine ⟨_, _, rfl, SqT.of kG, rfl, _, _, rfl, _, _, rfl, rfl, ?_⟩
      walk_at "rd"
      have gd : ∀ (F : Hp) (q : Addr), KAt F q e -> F d = some (.dT ((dk (rs)).map jp)) -> DGet F d (.ref q) (some (.int (val (rs) e))) := fun F q h1 h2 => by
        have g := DGet.t (k := kP e) h2 h1
        rwa [fS, ve] at g
      rw [dM he, ud] at n1 n0
      refine ⟨⟨[some (L2.T e.1), some (L2.T e.2)], rfl, rfl⟩, by walk_at "om", fun p1 hp1 => ?_⟩
      have s1 := aq (HO.tup (tP e)) hp1
      refine ⟨d, _, rfl, gd _ p1 ad (s1 _ _ dG), ?_⟩
      walk_at "rd"
      by_cases hv : val rs e = 0
      . rw [if_neg fun z => z hv, List.append_nil] at n0
        exact itp hv (n0 _ ⟨sG.trans s1, s1 _ _ hD, fD, bj s1 aG⟩)
      . rw [if_pos hv] at n1
        refine itn hv ⟨by walk_at "om", fun p2 hp2 => ?_⟩
        have s2 := s1.trans (aq (HO.tup (tP e)) hp2)
        refine ⟨d, _, rfl, gd _ p2 ad (s2 _ _ dG), by walk_at "om", fun p3 hp3 => ?_⟩
        obtain ⟨m1, m2, m3⟩ := uO ⟨e.1, e.2, val rs e⟩ (sG.trans s2) fD (s2 _ _ hD) hp3 (bj s2 aG)
        exact n1 _ _ m1 ⟨m2, ad, fD, m3⟩
    . rintro D ys G ⟨sG, hD, fD, aG⟩
      rw [List.length_map, la, List.take_length] at aG
      have sg := (sm.trans sl).trans sG
      exact ⟨_, Gc.flt sg, k out D ys _ po oo ((sm.trans sl).free fD) (wg sg hD rfl) (vc sg aG) (Gc.flt sg).a (xu hN)⟩
def sp_oM : Sp := sp1 fun x H Q _ => NoT H /\ asR x fun p => ∃ vs bs, H p = some (.lst vs) /\ A2 (BkAt H) vs bs /\ bs.length <= 20 /\ (∀ b ∈ bs, b.rs.length <= 40) /\ ∀ r ws H', H r = none -> H' r = some (.lst ws) -> A2 (RwAt H') ws (bs.flatMap (·.rs)) -> Same H H' -> NoT H' -> Q (.ref r) H'
theorem s_ : ∀ {bs : List Bk}, (∀ b ∈ bs, b.rs.length <= 40) -> (bs.flatMap (·.rs)).length <= 40 * bs.length
  | [], _ => Nat.le_refl _
  | b :: r, h => by
    have ih := s_ (bs := r) fun x m => h x (.tail _ m)
    have hb := h b (.head _)
    rw [List.flatMap_cons, List.length_append, List.length_cons]; omega
theorem wf (T : Txt K mg a) : bw P w K mg base (XE P w) 1 a.mw a.oR ["bookings"] sp_oM := by
  refine T.mF.okX on (fun vs H Q E h => sp1.len h) (fun cdv A outer s H vs Q E hr h => ?_)
  obtain ⟨x0, rfl, h⟩ := sp1.inv h
  try dsimp only [sp_oM, sp1] at h
  have ND := on.nd
  obtain ⟨hN, h1⟩ := h
  obtain ⟨p, rfl, vs, bs, hp, ha, len, ok, k⟩ := asR.inv h1
  have sz := szl
  refine ⟨_, (ai (aM (i := 1) ND rfl (Or.inl rfl) (dH (FA.pa ah)))
      (ai (d8 (by passes_own) rfl (bM K (fv 0)) (aN (i := 2) ND rfl (Or.inl rfl)) (ak (dF (fN K PySem.F.plainAttrs_list PySem.F.slot_list_extend PySem.F.type_list_extend A9 (fv 1) (FA.pa (aa (aU (aC K) (fv 2) ae (fun _ _ => rfl)) ah))))))
      (ak (aT (fv 1))))), ?_⟩
  walk_at "rd"
  refine ⟨Nat.zero_le _, fun r hr => iL ?_⟩
  walk_at "rd"
  refine iV (SqL.of ((aq _ hr) _ _ hp)) (iW (fun i σ' H' => Same H H' /\ NoT H' /\ ∃ ws x2, H' r = some (.lst ws) /\ A2 (RwAt H') ws ((bs.take i).flatMap (·.rs)) /\ σ' = [some (.ref p), some (.ref r), x2]) ⟨aq _ hr, az hN rfl, [], none, ad, .nil, rfl⟩ (fun i σ' H' _ h => SqL.of (h.1 _ _ hp)) ?_ ?_)
  . rintro i x σ' H' hx ⟨sm, nT, ws, x2, hr', aw, rfl⟩
    obtain ⟨b, hb, q, u, us, nt, rfl, e1, e2, ar⟩ := ha.at_ hx
    have e1' := sm _ _ e1
    have e2' := sm _ _ e2
    have lw := aw.len
    have lf := s_ (bs := bs.take i) fun x m => ok x (List.mem_of_mem_take m)
    rw [List.length_take] at lf
    have lb := ok b (List.mem_of_getElem? hb)
    have lu := ar.len
    walk_at "rd"
    refine ⟨.inl ⟨_, SqL.of hr'⟩, _, _, .inr (SqT.of e1'), aD (j := 3) rfl, r, u, ws, us, rfl, rfl, hr', e2', by rw [sizeLine_eq]; omega, d_ sm hr, az nT rfl, _, _, ad, ?_, rfl⟩
    have kp : Keep [r] H' (upd H' r (.lst (ws ++ us))) := Keep.refl.put (.head _)
    rw [dM hb, List.flatMap_append, List.flatMap_cons, List.flatMap_nil, List.append_nil]
    exact (dq kp (LW.one hr') aw).app (dq kp (LW.one hr') (bj sm ar))
  . rintro σ' H' ⟨sm, nT, ws, x2, hr', aw, rfl⟩
    rw [ha.len, List.take_length] at aw
    walk_at "rd"
    exact k r ws H' hr hr' aw sm nT
def sp_uv (J : Addr) : Sp := sp2 fun x y H Q _ => NoT H /\ asR x fun j => asI y fun t => ∃ b u vs bs, JAt J H j b u vs /\ A2 (BkAt H) vs bs /\ bs.length <= 20 /\ ∀ r ws H', H r = none -> H' r = some (.lst ws) -> A2 (BkAt H') ws (bs.filter fun b => decide (b.d <= t)) -> Same H H' -> NoT H' -> Q (.ref r) H'
theorem kK (T : Txt K mg a) : bw P w K mg base (XE P w) 2 a.d7 a.gf ["journal", "day"] (sp_uv a.aW) := by
  refine T.d9.okX kc (fun vs H Q E h => sp2.len h) (fun cdv A outer s H vs Q E hr h => ?_)
  obtain ⟨x0, x1, rfl, h⟩ := sp2.inv h
  try dsimp only [sp_uv, sp2] at h
  obtain ⟨hN, h1⟩ := h
  obtain ⟨j, rfl, h2⟩ := asR.inv h1
  obtain ⟨t, rfl, b, u, vs, bs, JJ, hv, len, k⟩ := asI.inv h2
  have sz := szl
  have G_Journal_every := df (P := P) (w := w) (base := base) T
  have b_Journal_every := dl T.cW
  refine ⟨_, (ak (aT (cn rfl (cl := _) (x := "booking") (xs := ["booking"]) (fr := ["day"]) (ks := [1]) (by exact ⟨rfl, by decide +kernel, rfl, by decide +kernel, rfl, cg rfl, rfl, aP rfl, aP (k := fun y => List.lookup y _) rfl, ci rfl⟩) rfl (bM K (jf (fv 0) T.ce T.dv G_Journal_every (hr.mono (by decide)) b_Journal_every .nil aK)) (fun _ _ _ _ _ => (aN (i := 0) (dD (l := ["booking", "day"]) (by decide)) rfl (Or.inl rfl))) (fun _ _ _ _ _ => (fc (bK gg (aU (aC K) (fv 0) ae (fun _ _ => rfl)) (fv 1) (bF _)))) (fun _ _ _ _ _ => (fv 0))))), ?_⟩
  obtain ⟨dj, hj⟩ := JJ.ob
  walk_at "rd"
  refine i9 ?_
  walk_at "rd"
  refine ⟨_, _, hj, lG _ _, hN, b, u, vs, JJ, fun l hl => ?_⟩
  have sl := aq (HO.lst vs) hl
  have lv := hv.len
  refine ⟨⟨_, SqL.of ad⟩, wY l vs (fun D i ys G => Same (upd H l (.lst vs)) G /\ NoT G /\ G D = some (.lst ys) /\ upd H l (.lst vs) D = none /\ A2 (BkAt G) ys ((bs.take i).filter fun b => decide (b.d <= t))) (by rw [sizeLine_eq]; omega) (fun D hD => ⟨aq _ hD, az (az hN rfl) rfl, ad, hD, .nil⟩) (fun D i ys G h => ⟨h.2.2.1, SqL.of (h.1 _ _ ad), ?_⟩) ?_ ?_⟩
  . rw [h.2.2.2.2.len]
    exact Nat.le_trans (List.length_filter_le _ _) (by rw [List.length_take]; omega)
  . rintro D i y ys G zs N1 N0 hy ⟨sG, nG, hD, fD, aG⟩ hz n1 n0
    obtain ⟨bb, hb1, hb2⟩ := hv.at_ hy
    have hb3 := hb2.keep (W := []) (Keep.same (sl.trans sG)) LW.nil
    obtain ⟨qb, tb, vb, nt, rfl, e1, e2, rw_⟩ := id hb3
    obtain ⟨z1, rfl⟩ := ex1 hz
    walk_at "rd"
    refine ⟨⟨[some (.ref qb)], rfl, rfl⟩, _, _, .inr (SqT.of e1), aD (j := 1) rfl, ?_⟩
    walk_at "rd"
    rw [dM hb1, List.filter_append] at n1 n0
    by_cases h : bb.d <= t
    . rw [List.filter_cons_of_pos (by simpa using h)] at n1
      have kp : Keep [D] G (upd G D (.lst (ys ++ [.ref qb]))) := Keep.refl.put (.head _)
      exact itp h (n1 _ _ hD ⟨d_ sG fD, az nG rfl, ad, fD, (oZ kp (LW.one hD) aG).snoc (hb3.keep kp (LW.one hD))⟩)
    . rw [List.filter_cons_of_neg (by simpa using h), List.filter_nil, List.append_nil] at n0
      exact itn h (n0 _ ⟨sG, nG, hD, fD, aG⟩)
  . rintro D ys G ⟨sG, nG, hD, fD, aG⟩
    rw [lv, List.take_length] at aG
    exact k D ys G (sl.free fD) hD aG (sl.trans sG) nG
def sp_zZ (J : Addr) : Sp := sp3 fun _ y z H Q _ => NoT H /\ asR y fun j => asI z fun t => ∃ b u vs bs, JAt J H j b u vs /\ A2 (BkAt H) vs bs /\ bs.length <= 20 /\ (∀ b ∈ bs, b.rs.length <= 40) /\ (dk (rsd t bs)).length < 64 /\ EC H Q (rsd t bs)
theorem tj (T : Txt K mg a) : bw P w K mg base (XE P w) 3 a.jO a.m4 ["chart", "journal", "day"] (sp_zZ a.aW) := by
  refine T.j0.okX vd (fun vs H Q E h => sp3.len h) (fun cdv A outer s H vs Q E hr h => ?_)
  obtain ⟨x0, x1, x2, rfl, h⟩ := sp3.inv h
  try dsimp only [sp_zZ, sp3] at h
  obtain ⟨hN, h1⟩ := h
  obtain ⟨j, rfl, h2⟩ := asR.inv h1
  obtain ⟨t, rfl, b, u, vs, bs, JJ, hv, len, ok, l64, k⟩ := asI.inv h2
  have G_sums_of := o9 (P := P) (w := w) (base := base) T
  have b_sums_of := oE T.gR
  have G_rows_of := wf (P := P) (w := w) (base := base) T
  have b_rows_of := vz T.mF
  have G_bookings_up_to := kK (P := P) (w := w) (base := base) T
  have b_bookings_up_to := kF T.d9
  refine ⟨_, (ak (aT (au G_sums_of (hr.mono (by decide)) rfl T.qH T.gR.kp b_sums_of .nil aK (FA.pa (aa (au G_rows_of (hr.mono (by decide)) rfl T.xZ T.mF.kp b_rows_of .nil aK (FA.pa (aa (au G_bookings_up_to (hr.mono (by decide)) rfl T.lT T.d9.kp b_bookings_up_to .nil aK (FA.pa (aa (fv 1) (aa (fv 2) ah)))) ah))) ah))))), ?_⟩
  walk_at "rd"
  refine ⟨hN, b, u, vs, bs, JJ, hv, len, fun r ws H1 fr hr aw s1 N1 => ?_⟩
  walk_at "rd"
  refine ⟨N1, ws, _, hr, aw, Nat.le_trans (List.length_filter_le _ _) len, fun x m => ok x (List.mem_filter.mp m).1, fun r2 ws2 H2 fr2 hr2 aw2 s2 N2 => ?_⟩
  walk_at "rd"
  rw [oU] at aw2
  have lr := oQ (t := t) ok
  exact ⟨N2, ws2, _, hr2, aw2, by omega, l64, fun out r3 ws3 H3 po oo f3 h3 a3 s3 N3 => k out r3 ws3 H3 po oo ((s1.trans s2).free f3) h3 a3 ((s1.trans s2).trans s3) N3⟩
def sp_xE : Sp := sp2 fun x y H Q _ => NoT H /\ asR x fun m => asI y fun t => ∃ ws bs, H m = some (.lst ws) /\ A2 (BkAt H) ws bs /\ bs.length <= 20 /\ (∀ b ∈ bs, b.rs.length <= 40) /\ (dk (rsd t bs)).length < 64 /\ EC H Q (rsd t bs)
theorem gO (T : Txt K mg a) : bw P w K mg base (XE P w) 3 a.eR a.gL ["_law_bookings", "_law_day_here"] sp_xE := by
  refine T.cX.okG gG (fun vs H Q E h => sp2.len h) (fun cdv A outer s H vs Q E hr h => ?_)
  obtain ⟨x0, x1, rfl, h⟩ := sp2.inv h
  try dsimp only [sp_xE, sp2] at h
  have ND := gG.nd
  have HU := bf hr
  obtain ⟨hN, h1⟩ := h
  obtain ⟨m0, rfl, h2⟩ := asR.inv h1
  obtain ⟨t, rfl, ws, bs, hm0, hv, len, ok, l64, k⟩ := asI.inv h2
  have sz := szl
  refine ⟨hN, _, (ai (aM (i := 2) ND rfl (Or.inr rfl) tQ)
      (ai (d8 (by passes_own) rfl (bM K (fv 0)) (aN (i := 3) ND rfl (Or.inl rfl)) (ak (cG (bK gg (aU (aC K) (fv 3) ae (fun _ _ => rfl)) (fv 1) (bF _)) (ak (d8 (by passes_own) rfl (BY K (aU (aC K) (fv 3) ae (fun _ _ => rfl))) (kl K (n := 3) rfl (bA (aN (i := 4) ND rfl (Or.inl rfl)) (bA (aN (i := 5) ND rfl (Or.inl rfl)) (bA (aN (i := 6) ND rfl (Or.inl rfl)) ii)))) (ak (gm (Nat.lt_of_le_of_lt (Nat.add_le_add_left (by decide) _) HU) (fv 2) (bR (FA.pa (aa (fv 4) (aa (fv 5) ah)))) (al aJ (oI (Nat.lt_of_le_of_lt (Nat.add_le_add_left (by decide) _) HU) (fv 2) (bR (FA.pa (aa (fv 4) (aa (fv 5) ah)))) ae ⟨rfl, rfl, rfl, rfl⟩) (fv 6)) rfl)))) bn)))
      (ak (aT (cn rfl (cl := _) (x := "_law_pair") (xs := ["_law_pair"]) (fr := ["_law_found"]) (ks := [2]) (by exact ⟨rfl, by decide +kernel, rfl, by decide +kernel, rfl, cg rfl, rfl, aP rfl, aP (k := fun y => List.lookup y _) rfl, ci rfl⟩) rfl (bM K (aQ (qm rfl) rfl T.nV mi (FA.pa (aa (fv 2) ah)))) (fun _ _ _ _ _ => (aN (i := 0) (dD (l := ["_law_pair", "_law_found"]) (by decide)) rfl (Or.inl rfl))) (fun _ _ _ _ _ => (fc (bK (hZ K HU) (cx (Nat.lt_of_le_of_lt (Nat.add_le_add_left (by decide) _) HU) (fv 1) (fv 0) (fun _ _ => rfl)) ae (bF _)))) (fun _ _ _ _ _ => (bR (FA.pa (aa (aU (aC K) (fv 0) ae (fun _ _ => rfl)) (aa (aU (aC K) (fv 0) ae (fun _ _ => rfl)) (aa (cx (Nat.lt_of_le_of_lt (Nat.add_le_add_left (by decide) _) HU) (fv 1) (fv 0) (fun _ _ => rfl)) ah))))))))))), ?_⟩
  walk_at "rd"
  intro d hd
  refine iL ?_
  walk_at "rd"
  refine iV (SqL.of ((aq _ hd) _ _ hm0)) (iW (fun i σ' H' => Same H H' /\ ∃ x3 x4 x5 x6, H' d = some (.dT ((dk (rsd t (bs.take i))).map jp)) /\ σ' = [some (.ref m0), some (.int t), some (.ref d), x3, x4, x5, x6]) ⟨aq _ hd, none, none, none, none, ad, rfl⟩ (fun i σ' H' _ h => SqL.of (h.1 _ _ hm0)) ?_ ?_)
  . rintro i x σ' H' hx ⟨sm, x3, x4, x5, x6, hd', rfl⟩
    obtain ⟨b, hb, q, u, us, nt, rfl, e1, e2, ar⟩ := hv.at_ hx
    have e1' := sm _ _ e1
    have lb := ok b (List.mem_of_getElem? hb)
    have l1 : (rsd t (bs.take i)).length <= 800 := by
      have := oQ (t := t) (bs := bs.take i) fun x m => ok x (List.mem_of_mem_take m)
      rw [List.length_take] at this; omega
    rw [dM hb, ui]
    walk_at "rd"
    refine ⟨_, _, .inr (SqT.of e1'), aD (j := 1) rfl, ?_⟩
    walk_at "rd"
    by_cases h : ¬ b.d <= t
    . refine itn h ⟨sm, _, _, _, _, ?_, rfl, rfl, rfl, rfl⟩
      rw [if_neg h, List.append_nil]; exact hd'
    have h := Decidable.not_not.mp h
    refine itp h (zu ?_)
    walk_at "rd"
    refine ⟨_, _, .inr (SqT.of e1'), aD (j := 3) rfl, ?_⟩
    refine AO (SqT.of (sm _ _ e2)) (BF (fun j σ' G => Same H G /\ ∃ x4 x5 x6, G d = some (.dT ((dk (rsd t (bs.take i) ++ b.rs.take j)).map jp)) /\ σ' = [some (.ref m0), some (.int t), some (.ref d), some (.ref q), x4, x5, x6]) ⟨sm, _, _, _, by rw [List.take_zero, List.append_nil]; exact hd', rfl⟩ (fun j σ' G _ h => SqT.of (h.1 _ _ e2)) ?_ ?_)
    . rintro j x σ' G hx ⟨sG, x4, x5, x6, dG, rfl⟩
      obtain ⟨r, hr, q2, rfl, hq⟩ := ar.at_ hx
      have hq' := sG _ _ hq
      walk_at "rd"
      refine ⟨_, _, rfl, SqT.of hq', rfl, _, _, rfl, _, _, rfl, _, _, rfl, rfl, ?_⟩
      walk_at "rd"
      have l2 := (gE (rsd t (bs.take i) ++ b.rs.take j)).2.2
      have l3 : (rsd t (bs.take i) ++ b.rs.take j).length <= 1000 := by rw [List.length_append, List.length_take]; omega
      refine ⟨.inr ⟨_, .inl dG⟩, by walk_at "om", fun p1 hp1 => ⟨_, DGet.t (k := kP (r.pa, r.cu)) ((aq _ hp1) _ _ dG) ad, ?_⟩⟩
      rw [fS, su]
      walk_at "rd"
      have s1 := aq (HO.tup [L2.T r.pa, L2.T r.cu]) hp1
      refine ⟨by walk_at "om", fun p2 hp2 => ?_⟩
      have s2 := s1.trans (aq (HO.tup [L2.T r.pa, L2.T r.cu]) hp2)
      refine ⟨d, _, rfl, DPut.t (k := kP (r.pa, r.cu)) (s2 _ _ dG) ad (by rw [List.length_map, sizeLine_eq]; omega), ?_⟩
      rw [oC]
      refine ⟨d_ (sG.trans s2) hd, _, _, _, ?_, rfl, rfl, rfl⟩
      rw [ad, dM hr, <- List.append_assoc, ka]; rfl
    . rintro σ' G ⟨sG, x4, x5, x6, dG, rfl⟩
      rw [ar.len, List.take_length] at dG
      exact ⟨sG, _, _, _, _, by rw [if_pos h]; exact dG, rfl⟩
  . rintro σ' H' ⟨sm, x3, x4, x5, x6, hd', rfl⟩
    rw [hv.len, List.take_length] at hd'
    walk_at "rd"
    refine i9 ?_
    walk_at "rd"
    refine ⟨_, (dk (rsd t bs)).map (·.1), hd', ul _, by rw [List.length_map]; exact l64, fun out as po oo ao l hl => ?_⟩
    have sl := aq (HO.lst (as.map V.ref)) hl
    have lo := po.length_eq
    rw [List.length_map] at lo
    have la := ao.len
    refine ⟨⟨_, SqL.of ad⟩, wY l (as.map V.ref) (fun D i ys G => Same (upd H' l (.lst (as.map V.ref))) G /\ G D = some (.lst ys) /\ upd H' l (.lst (as.map V.ref)) D = none /\ A2 (RwAt G) ys (res (rsd t bs) (out.take i))) (by rw [List.length_map, sizeLine_eq]; omega) (fun D hD => ⟨aq _ hD, ad, hD, .nil⟩) (fun D i ys G h => ⟨h.2.1, SqL.of (h.1 _ _ ad), ?_⟩) ?_ ?_⟩
    . rw [h.2.2.2.len]
      exact Nat.le_trans (fo _ _) (by rw [List.length_take]; omega)
    . rintro D i y ys G zs N1 N0 hy ⟨sG, hD, fD, aG⟩ hz n1 n0
      rw [List.getElem?_map] at hy
      obtain ⟨b, hb, rfl⟩ := Option.map_eq_some_iff.mp hy
      obtain ⟨e, he, kb⟩ := ao.at_ hb
      have kG := sG _ _ (sl _ _ kb)
      have dG := sG _ _ (sl _ _ hd')
      have ve := we (po.mem_iff.mp (List.mem_of_getElem? he))
      obtain ⟨z1, rfl⟩ := ex1 hz
      have gd : ∀ (F : Hp) (q : Addr), KAt F q e -> F d = some (.dT ((dk (rsd t bs)).map jp)) -> DGet F d (.ref q) (some (.int (val (rsd t bs) e))) := fun F q h1 h2 => by
        have g := DGet.t (k := kP e) h2 h1
        rwa [fS, ve] at g
      rw [dM he, ud] at n1 n0
      walk_at "rd"
      refine ⟨⟨[some (.ref b)], rfl, rfl⟩, d, _, rfl, gd _ b kG dG, ?_⟩
      walk_at "rd"
      by_cases hv : val (rsd t bs) e = 0
      . rw [if_neg fun z => z hv, List.append_nil] at n0
        exact itp hv (n0 _ ⟨sG, hD, fD, aG⟩)
      . rw [if_pos hv] at n1
        refine itn hv ⟨_, _, .inr (SqT.of kG), aD (j := 0) rfl, _, _, .inr (SqT.of kG), aD (j := 1) rfl, d, _, rfl, gd _ b kG dG, by walk_at "om", fun p3 hp3 => ?_⟩
        obtain ⟨m1, m2, m3⟩ := uO ⟨e.1, e.2, val (rsd t bs) e⟩ sG fD hD hp3 aG
        exact n1 _ _ m1 ⟨m2, ad, fD, m3⟩
    . rintro D ys G ⟨sG, hD, fD, aG⟩
      rw [List.length_map, la, List.take_length] at aG
      have sg := (sm.trans sl).trans sG
      exact ⟨_, Gc.flt sg, k out D ys _ po oo ((sm.trans sl).free fD) (wg sg hD rfl) (vc sg aG) (Gc.flt sg).a (xu hN)⟩
end
open PySem L2 K19
section
variable {P : Program} {w : World} {K : PySem.W.Frag} {mg : Str -> Option Value} {base : Heap} {a : Adr}
open K3
def sp_kJ : Sp := sp1 fun x H Q _ => NoT H /\ asI x fun y => Q (.int (LD y)) H
theorem sk (T : Txt K mg a) : bw P w K mg base (XE P w) 1 a.iN a.kj ["years"] sp_kJ := by
  refine T.gh.okX sS (fun vs H Q E h => sp1.len h) (fun cdv A outer s H vs Q E hr h => ?_)
  obtain ⟨x0, rfl, h⟩ := sp1.inv h
  try dsimp only [sp_kJ, sp1] at h
  obtain ⟨hN, h1⟩ := h
  obtain ⟨y, rfl, k⟩ := asI.inv h1
  refine ⟨_, (ak (aT (al aJ (al fR (al bg (al aJ (fv 0) ae) ae) (al bg (al aJ (fv 0) ae) ae)) (al bg (al aJ (fv 0) ae) ae)))), ?_⟩
  walk_at "rd"
  exact k
def LEN : List Int := [31, 28, 31, 30, 31, 30, 31, 31, 30, 31, 30, 31]
theorem Ag {i : Int} (h0 : 0 <= i) (h1 : i < 12) : (LEN.take i.toNat).sum = K3.S i := by
  obtain ⟨j, rfl⟩ := Int.eq_ofNat_of_zero_le h0
  exact (show ∀ j : Nat, j < 12 -> (LEN.take j).sum = K3.S (j : Int) by decide) j (by omega)
theorem E_ (T : Txt K mg a) (H : Hp) : SqT K H a.dJ (LEN.map V.int) := .inr T.dJ
def sp_kQ : Sp := sp1 fun x H Q _ => NoT H /\ asI x fun m => Q (.int (FD m)) H
theorem rO (T : Txt K mg a) : bw P w K mg base (XE P w) 2 a.iJ a.ll ["month"] sp_kQ := by
  refine T.i_.okG lB (fun vs H Q E h => sp1.len h) (fun cdv A outer s H vs Q E hr h => ?_)
  obtain ⟨x0, rfl, h⟩ := sp1.inv h
  try dsimp only [sp_kQ, sp1] at h
  have ND := lB.nd
  obtain ⟨hN, h1⟩ := h
  obtain ⟨m, rfl, k⟩ := asI.inv h1
  have G_leap_days := sk (P := P) (w := w) (base := base) T
  have b_leap_days := sT T.gh
  refine ⟨hN, _, (ai (aM (i := 1) ND rfl (Or.inl rfl) (al bg (fv 0) ae))
      (ai (aM (i := 2) ND rfl (Or.inl rfl) (al bz (fv 0) ae))
      (ai (aM (i := 3) ND rfl (Or.inl rfl) (yS (bK zc (fv 2) ae (bF _)) (au G_leap_days (hr.mono (by decide)) rfl T.ng T.gh.kp b_leap_days .nil aK (FA.pa (aa (al aJ (fv 1) ae) ah))) (au G_leap_days (hr.mono (by decide)) rfl T.ng T.gh.kp b_leap_days .nil aK (FA.pa (aa (fv 1) ah)))))
      (ak (aT (al aJ (al aJ (al fK ae (fv 1)) (fv 3)) (aQ (rR K rfl) rfl T.yO vO (FA.pa (aa (eE (Bo K) (xy (v := .ref a.dJ) rfl T.yc rfl) il (e_ (fv 2))) ah))))))))), ?_⟩
  walk_at "rd"
  have b0 : 0 <= m % 12 := Int.emod_nonneg _ (by decide)
  have b1 : m % 12 < 12 := Int.emod_lt_of_pos _ (by decide)
  have nw : ¬ (HT.sIx (LEN.map V.int).length 0 none = 0 /\ HT.sIx (LEN.map V.int).length (LEN.map V.int).length (some (m % 12)) = (LEN.map V.int).length) := fun ⟨_, z⟩ => by
    have e : m % 12 = (((m % 12).toNat : Nat) : Int) := by omega
    rw [e, HT.sIx_nat] at z
    have l : (LEN.map V.int).length = 12 := rfl
    rw [l] at z
    omega
  have fin : ∀ (p : Addr), (upd H p (.tup (nH (LEN.map V.int) none (some (m % 12))))) p = some (.tup ((LEN.take (m % 12).toNat).map V.int)) := fun p => by
    rw [ad, At _ b0, List.map_take]
  split
  . rename_i h1
    refine ⟨hN, a.dJ, _, rfl, E_ T _, nw, fun p hp => ⟨LEN.take (m % 12).toNat, .inr (SqT.of (fin p)), ?_⟩⟩
    have e : 365 * (m / 12) + LD (m / 12 + 1) + (LEN.take (m % 12).toNat).sum = FD m := by
      rw [Ag b0 b1]; unfold FD; rw [if_pos h1]
    refine ⟨H, Gc.none (aq _ hp), ?_⟩
    rw [e]; exact k
  . rename_i h1
    refine ⟨hN, a.dJ, _, rfl, E_ T _, nw, fun p hp => ⟨LEN.take (m % 12).toNat, .inr (SqT.of (fin p)), ?_⟩⟩
    have e : 365 * (m / 12) + LD (m / 12) + (LEN.take (m % 12).toNat).sum = FD m := by
      rw [Ag b0 b1]; unfold FD; rw [if_neg h1]
    refine ⟨H, Gc.none (aq _ hp), ?_⟩
    rw [e]; exact k
def sp_m8 : Sp := sp1 fun x H Q _ => NoT H /\ asI x fun m => Q (.int (FD (m + 1) - 1)) H
theorem tO (T : Txt K mg a) : bw P w K mg base (XE P w) 3 a.j5 a.m6 ["month"] sp_m8 := by
  refine T.jM.okX tL (fun vs H Q E h => sp1.len h) (fun cdv A outer s H vs Q E hr h => ?_)
  obtain ⟨x0, rfl, h⟩ := sp1.inv h
  try dsimp only [sp_m8, sp1] at h
  obtain ⟨hN, h1⟩ := h
  obtain ⟨m, rfl, k⟩ := asI.inv h1
  have G_first_day := rO (P := P) (w := w) (base := base) T
  have b_first_day := sI T.i_
  refine ⟨_, (ak (aT (al fR (au G_first_day (hr.mono (by decide)) rfl T.uA T.i_.kp b_first_day .nil aK (FA.pa (aa (al aJ (fv 0) ae) ah))) ae))), ?_⟩
  walk_at "rd"
  exact ⟨hN, k⟩
theorem RwAt.mv (G G' : Hp) (v : V) (r : Row) (k : ∀ t l, G t = some (.tup l) -> G' t = some (.tup l)) (h : RwAt G v r) : RwAt G' v r := by
  obtain ⟨q, e, h⟩ := h; exact ⟨q, e, k _ _ h⟩
def sp_qS : Sp := sp1 fun x H Q _ => NoT H /\ asR x fun p => ∃ vs rs, H p = some (.lst vs) /\ A2 (RwAt H) vs rs /\ rs.length <= 1000 /\ ∀ t ws H', H t = none -> H' t = some (.tup ws) -> A2 (RwAt H') ws (trn rs) -> Same H H' -> NoT H' -> Q (.ref t) H'
theorem yb (T : Txt K mg a) : bw P w K mg base (XE P w) 1 a.n9 a.rg ["rows"] sp_qS := by
  refine T.oY.okX xQ (fun vs H Q E h => sp1.len h) (fun cdv A outer s H vs Q E hr h => ?_)
  obtain ⟨x0, rfl, h⟩ := sp1.inv h
  try dsimp only [sp_qS, sp1] at h
  obtain ⟨hN, h1⟩ := h
  obtain ⟨p, rfl, vs, rs, hp, ha, len, k⟩ := asR.inv h1
  have sz := szl
  have sz1 := yk
  refine ⟨_, (ak (aT (fw (tK K) rfl T.rH oS (FA.pa (aa (cn rfl (cl := _) (x := "path") (xs := ["path", "currency", "amount"]) (fr := []) (ks := []) (by exact ⟨rfl, by decide +kernel, rfl, by decide +kernel, rfl, cg rfl, rfl, aP rfl, aP (k := fun y => List.lookup y _) rfl, ci rfl⟩) rfl (bM K (fv 0)) (fun _ _ _ _ _ => (kl K (n := 3) rfl (bA (aN (i := 0) (dD (l := ["path", "currency", "amount"]) (by decide)) rfl (Or.inl rfl)) (bA (aN (i := 1) (dD (l := ["path", "currency", "amount"]) (by decide)) rfl (Or.inl rfl)) (bA (aN (i := 2) (dD (l := ["path", "currency", "amount"]) (by decide)) rfl (Or.inl rfl)) ii))))) (fun _ _ _ _ _ => fj) (fun _ _ _ _ _ => (bR (FA.pa (aa (fv 0) (aa (fv 1) (aa (Ch AN (fv 2)) ah))))))) ah))))), ?_⟩
  walk_at "rd"
  have lv := ha.len
  refine i9 ?_
  walk_at "rd"
  refine ⟨⟨vs, SqL.of hp⟩, ceA RwAt.mv p vs rs (RwAt H) (fun _ => true) (fun r => ⟨r.pa, r.cu, -r.am⟩) hp hN ha (by omega) (fun v b mb rb G zs N1 N0 sG nG hz n1 n0 => ?_) fun D ws G hD sG nG gD aG => ?_⟩
  . obtain ⟨q, rfl, hq⟩ := rb
    have hq := sG _ _ hq
    obtain ⟨z1, z2, z3, rfl⟩ := ex3 hz
    walk_at "rd"
    refine ⟨_, _, rfl, SqT.of hq, rfl, _, _, rfl, _, _, rfl, _, _, rfl, rfl, ?_⟩
    walk_at "rd"
    exact ⟨⟨[_, _, _], rfl, rfl⟩, by walk_at "om", fun p1 hp1 => n1 rfl _ _ (aq _ hp1) (az nG rfl) ⟨p1, rfl, ad⟩⟩
  . walk_at "rd"
    rw [List.filter_eq_self.mpr (fun _ _ => rfl)] at aG
    exact ⟨ws, .inl ⟨SqL.of gD, fun t ht => k t ws _ (sG.free ht) ad (bj (aq _ ht) aG) (sG.trans (aq _ ht)) (az nG rfl)⟩⟩
structure La where
  pa : List Nat
  cu : Option (List Nat)
  fi : Int
  un : Option Int
  ki : List Nat
  ls : Addr
def cuV : Option (List Nat) -> V
  | none => .non
  | some l => L2.T l
def kyL (x : La) : Key × V := (.inr ⟨⟨x.pa⟩⟩, .ref x.ls)
structure AcAt (H : Hp) (d : Addr) (as : List La) : Prop where
  dc : Rd H d (.dK (as.map kyL))
  ls : ∀ x ∈ as, H x.ls = some (.lst [cuV x.cu, .int x.fi, cl x.un, L2.T x.ki])
def DT (as : List La) (l : List Nat) : List Nat := ((as.find? fun x => decide (x.pa = l)).map (·.ki)).getD []
abbrev GC : List (List Nat) := [[103, 97, 105, 110], [99, 111, 115, 116]]
def gcB (as : List La) (l : List Nat) : Bool := decide (DT as l ∈ GC)
theorem AD (l : List Nat) : ∀ ls : List (List Nat), inV (L2.T l) (ls.map L2.T) = decide (l ∈ ls)
  | [] => rfl
  | x :: r => by
    have ih := AD l r
    unfold inV at ih ⊢
    rw [List.map_cons, List.any_cons, ih]
    by_cases c : x = l
    . subst c; simp [eqV]
    . have c2 : ¬ l = x := fun z => c z.symm
      simp [eqV, c, c2]
structure ChAt (C A : Addr) (H : Hp) (p : Addr) (as : List La) (d : Addr) (cs : List Acc) : Prop where
  at_ : CAt C A H p d cs
  kd : ∀ x ∈ as, ∃ c ∈ cs, c.pa = x.pa /\ c.ki = L2.T x.ki
def Due (H : Hp) (Q : VK) (g : List Nat -> Bool) (p : List Nat) (rs : List Row) : Prop := ∀ out out2 r ws H', out.Perm ((dk rs).map (·.1)) -> qa out -> out2.Perm ((dk (mvd p (da g rs out))).map (·.1)) -> qa out2 -> H r = none -> H' r = some (.lst ws) -> A2 (RwAt H') ws (due g p rs out out2) -> Same H H' -> NoT H' -> Q (.ref r) H'
structure BsOk (as : List La) (cy : List (List Nat)) (bs : List Bk) : Prop where
  l1 : bs.length <= 20
  l2 : ∀ b ∈ bs, b.rs.length <= 40
  mem : ∀ b ∈ bs, ∀ r ∈ b.rs, r.pa ∈ as.map (·.pa) /\ r.cu ∈ cy
theorem BsOk.row {as : List La} {cy : List (List Nat)} {bs : List Bk} (h : BsOk as cy bs) {t : Int} : ∀ r ∈ rsd t bs, r.pa ∈ as.map (·.pa) /\ r.cu ∈ cy := fun r m => by
  obtain ⟨b, mb, mr⟩ := BV m
  exact h.mem b mb r mr
theorem BsOk.few {as : List La} {cy : List (List Nat)} {bs : List Bk} (h : BsOk as cy bs) (la : as.length <= 8) (lc : cy.length = 3) {t : Int} : (dk (rsd t bs)).length <= 24 := by
  have := v3 (h.row (t := t))
  rw [List.length_map, lc] at this
  omega
def sp_u8 (J C A : Addr) : Sp := sp4 fun x y z t H Q _ => NoT H /\ asR x fun ch => asR y fun j => asT z fun path => asI t fun yr => ∃ b u vs bs as cy d cs, JAt J H j b u vs /\ A2 (BkAt H) vs bs /\ BsOk as cy bs /\ as.length <= 8 /\ cy.length = 3 /\ (as.map (·.pa)).Nodup /\ ChAt C A H ch as d cs /\
  Due H Q (gcB as) path (rsd (FD (12 * (yr - 2000) + 11 + 1) - 1) bs)
theorem B_ {as : List La} (nd : (as.map (·.pa)).Nodup) {x : La} (m : x ∈ as) : DT as x.pa = x.ki := by
  unfold DT
  induction as with
  | nil => cases m
  | cons y r ih =>
    rw [List.map_cons] at nd
    obtain ⟨n1, n2⟩ := List.nodup_cons.mp nd
    by_cases c : y.pa = x.pa
    . rw [List.find?_cons_of_pos (by exact decide_eq_true c)]
      rcases List.mem_cons.mp m with rfl | m
      . rfl
      . exact absurd (c ▸ List.mem_map_of_mem (f := (·.pa)) m) n1
    . rw [List.find?_cons_of_neg (by simpa using c)]
      rcases List.mem_cons.mp m with rfl | m
      . exact absurd rfl c
      . exact ih n2 m
theorem wG {as : List La} (nd : (as.map (·.pa)).Nodup) {x : La} (m : x ∈ as) {l : List Nat} (e : x.pa = l) : inV (L2.T x.ki) [L2.T [103, 97, 105, 110], L2.T [99, 111, 115, 116]] = gcB as l := by
  unfold gcB; rw [<- e, B_ nd m]; exact AD x.ki GC
theorem BG (x : V) : List.lookup (Str.ofString "kind_of") [(Str.ofString "by_path", x)] = none := by rw [bB (by decide +kernel)]; rfl
theorem gv (T : Txt K mg a) : bw P w K mg base (XE P w) 4 a.ie a.jw ["chart", "journal", "path", "year"] (sp_u8 a.aW a.aY a.aL) := by
  refine T.cL.okX jB (fun vs H Q E h => sp4.len h) (fun cdv A outer s H vs Q E hr h => ?_)
  obtain ⟨x0, x1, x2, x3, rfl, h⟩ := sp4.inv h
  try dsimp only [sp_u8, sp4] at h
  have ND := jB.nd
  obtain ⟨hN, h1⟩ := h
  obtain ⟨ch, rfl, h2⟩ := asR.inv h1
  obtain ⟨j, rfl, h3⟩ := asR.inv h2
  obtain ⟨path, rfl, h4⟩ := asT.inv h3
  obtain ⟨yr, rfl, b, u, vs, bs, as, cy, d, cs, JJ, hv, ok, la, lc, nd, CH, k⟩ := asI.inv h4
  have sz := szl
  have sz1 := yk
  have G_turned := yb (P := P) (w := w) (base := base) T
  have b_turned := yA T.oY
  have G_sums_of := o9 (P := P) (w := w) (base := base) T
  have b_sums_of := oE T.gR
  have G_balances := tj (P := P) (w := w) (base := base) T
  have b_balances := tw T.j0
  have G_Chart_kind_of := mH (P := P) (w := w) (base := base) T
  have b_Chart_kind_of := lP T.iw
  have G_last_day := tO (P := P) (w := w) (base := base) T
  have b_last_day := uH T.jM
  refine ⟨_, (ai (aM (i := 4) ND rfl (Or.inl rfl) (au G_last_day (hr.mono (by decide)) rfl T.wc T.jM.kp b_last_day .nil aK (FA.pa (aa (al aJ (al fK ae (al fR (fv 3) ae)) ae) ah))))
      (ai (lh (i0 := 5) ND rfl (Or.inl rfl) rfl (cl := _) (x := "row") (xs := ["row"]) (fr := ["chart"]) (ks := [0]) (by exact ⟨rfl, by decide +kernel, rfl, by decide +kernel, rfl, cg rfl, rfl, aP rfl, aP (k := fun y => List.lookup y _) rfl, ci rfl⟩) rfl (bM K (au G_balances (hr.mono (by decide)) rfl T.v9 T.j0.kp b_balances .nil aK (FA.pa (aa (fv 0) (aa (fv 1) (aa (fv 4) ah)))))) (fun _ _ _ _ _ => (aN (i := 0) (dD (l := ["row", "chart"]) (by decide)) rfl (Or.inl rfl))) (fun _ _ _ _ _ => (fc (uK (bK (rD K) (cY (fv 1) T.b_ T.l_ G_Chart_kind_of (hr.mono (by decide)) b_Chart_kind_of .nil u1 (FA.pa (aa (aU (aC K) (fv 0) ae (fun _ _ => rfl)) ah))) (bR (FA.pa (aa (aE [103, 97, 105, 110]) (aa (aE [99, 111, 115, 116]) ah)))) (by with_unfolding_all rfl))))) (fun _ _ _ _ _ => (fv 0)))
      (ak (aT (al zx (fw (xM K) rfl T.sU nP (FA.pa (aa (au G_turned (hr.mono (by decide)) rfl T.AI T.oY.kp b_turned .nil aK (FA.pa (aa (fv 5) ah))) ah))) (au G_sums_of (hr.mono (by decide)) rfl T.qH T.gR.kp b_sums_of .nil aK (FA.pa (aa (cn rfl (cl := _) (x := "row") (xs := ["row"]) (fr := ["path"]) (ks := [2]) (by exact ⟨rfl, by decide +kernel, rfl, by decide +kernel, rfl, cg rfl, rfl, aP rfl, aP (k := fun y => List.lookup y _) rfl, ci rfl⟩) rfl (bM K (fv 5)) (fun _ _ _ _ _ => (aN (i := 0) (dD (l := ["row", "path"]) (by decide)) rfl (Or.inl rfl))) (fun _ _ _ _ _ => fj) (fun _ _ _ _ _ => (bR (FA.pa (aa (fv 1) (aa (aU (aC K) (fv 0) ae (fun _ _ => rfl)) (aa (aU (aC K) (fv 0) ae (fun _ _ => rfl)) ah))))))) ah)))))))), ?_⟩
  walk_at "rd"
  refine ⟨hN, ?_⟩
  refine i9 ?_
  walk_at "rd"
  have few := ok.few la lc (t := FD (12 * (yr - 2000) + 11 + 1) - 1)
  refine ⟨hN, b, u, vs, bs, JJ, hv, ok.l1, ok.l2, by omega, ?_⟩
  intro out r ws H1 po oo hr hr1 a1 s1 N1
  have row := ok.row (t := FD (12 * (yr - 2000) + 11 + 1) - 1)
  unfold Due at k
  have lo : out.length <= 24 := by rw [po.length_eq, List.length_map]; exact few
  generalize rsd (FD (12 * (yr - 2000) + 11 + 1) - 1) bs = rs at po a1 k row ⊢
  have inA : ∀ z ∈ res rs out, (∃ x ∈ as, x.pa = z.pa) /\ z.cu ∈ cy := fun z m => by
    obtain ⟨r0, mr, e⟩ := (gE rs).2.1 _ (po.mem_iff.mp (h7 m).1)
    obtain ⟨e1, e2⟩ := Prod.mk.inj e
    obtain ⟨x, mx, ex⟩ := List.mem_map.mp (row r0 mr).1
    exact ⟨⟨x, mx, ex.trans e1.symm⟩, e2 ▸ (row r0 mr).2⟩
  have lr := fo rs out
  have lw := a1.len
  have CH1 := CH.at_.same s1
  refine ⟨r, rfl, ⟨_, SqL.of hr1⟩, ceA RwAt.mv r ws (res rs out) (RwAt H1) (fun z => gcB as z.pa) id hr1 N1 a1 (by omega) (fun v z mz hz G zs M1 M0 sG nG hzs n1 n0 => ?_) fun D ws2 G hD sG nG gD aG => ?_⟩
  . obtain ⟨q, rfl, hq⟩ := hz
    have hq := sG _ _ hq
    obtain ⟨z1, rfl⟩ := ex1 hzs
    obtain ⟨⟨x, mx, ex⟩, _⟩ := inA z mz
    obtain ⟨c, mc, c1, c2⟩ := CH.kd x mx
    have CG := CH1.same sG
    obtain ⟨dx, hch⟩ := CG.ob
    walk_at "rd"
    refine ⟨⟨[_], rfl, rfl⟩, nG, dx, _, hch, BG _, _, _, .inr (SqT.of hq), aD (j := 0) rfl, nG, ?_⟩
    walk_at "rd"
    refine ⟨d, cs, c, CG, mc, c1.trans ex, by walk_at "om", fun p1 hp1 => ⟨_, .inr (SqT.of ad), by rw [c2]; rfl, rfl, G, Gc.none (aq _ hp1), ?_⟩⟩
    rw [c2, wG nd mx ex]
    cases e : gcB as z.pa with
    | true => exact itp rfl (n1 e _ _ (Same.refl _) nG ⟨q, rfl, hq⟩)
    | false => exact itn (by decide) (n0 e _ (Same.refl _) nG)
  . walk_at "rd"
    have aG : A2 (RwAt G) ws2 (da (gcB as) rs out) := by rw [List.map_id] at aG; exact aG
    have lc1 : (da (gcB as) rs out).length <= 24 := Nat.le_trans (List.length_filter_le _ _) (by omega)
    have cin : ∀ z ∈ da (gcB as) rs out, z.cu ∈ cy := fun z m => (inA z (List.mem_filter.mp m).1).2
    refine ⟨nG, ws2, _, gD, aG, by omega, fun t ts H2 ht ht2 at2 s2 N2 => ⟨ts, .inr (SqT.of ht2), fun l hl => ?_⟩⟩
    have s3 := s2.trans (aq (HO.lst ts) hl)
    have N3 : NoT (upd H2 l (HO.lst ts)) := az N2 rfl
    have gl : upd H2 l (HO.lst ts) l = some (HO.lst ts) := ad
    have at3 := bj (aq (HO.lst ts) hl) at2
    have l0 : G l = none := s2.free hl
    generalize upd H2 l (HO.lst ts) = G3 at s3 N3 gl at3 ⊢
    refine i9 ?_
    walk_at "rd"
    have lc2 := aG.len
    refine ⟨⟨_, SqL.of (s3 _ _ gD)⟩, ceA RwAt.mv D ws2 _ (RwAt G3) (fun _ => true) (fun z => ⟨path, z.cu, z.am⟩) (s3 _ _ gD) N3 (bj s3 aG) (by omega) (fun v z mz hz F zs M1 M0 sF nF hzs n1 n0 => ?_) fun D2 ws3 F hD2 sF nF gF aF => ?_⟩
    . obtain ⟨q, rfl, hq⟩ := hz
      have hq := sF _ _ hq
      obtain ⟨z1, rfl⟩ := ex1 hzs
      walk_at "rd"
      exact ⟨⟨[_], rfl, rfl⟩, _, _, .inr (SqT.of hq), aD (j := 1) rfl, _, _, .inr (SqT.of hq), aD (j := 2) rfl, by walk_at "om", fun p1 hp1 => n1 rfl _ _ (aq _ hp1) (az nF rfl) ⟨p1, rfl, ad⟩⟩
    . rw [List.filter_eq_self.mpr (fun _ _ => rfl)] at aF
      have aF : A2 (RwAt F) ws3 (mvd path (da (gcB as) rs out)) := aF
      walk_at "rd"
      have few2 : (dk (mvd path (da (gcB as) rs out))).length <= 3 := by
        have := v3 (rs := mvd path (da (gcB as) rs out)) (ps := [path]) (cu := cy) fun r m => by
          obtain ⟨z, mz, rfl⟩ := List.mem_map.mp m
          exact ⟨List.mem_singleton.mpr rfl, cin z mz⟩
        rw [lc] at this; simpa using this
      refine ⟨nF, ws3, _, gF, aF, by unfold mvd; rw [List.length_map]; omega, Nat.lt_of_le_of_lt few2 (by decide), ?_⟩
      intro out2 r3 ws4 H4 po2 oo2 hr3 hr4 a4 s4 N4
      walk_at "rd"
      have l4 := a4.len
      have l5 := at3.len
      have lo2 := po2.length_eq
      rw [List.length_map] at lo2
      have l6 := fo (mvd path (da (gcB as) rs out)) out2
      have l7 : (trn (da (gcB as) rs out)).length = (da (gcB as) rs out).length := List.length_map ..
      have sl := sF.trans s4
      refine ⟨ts, ws4, sl _ _ gl, hr4, by omega, fun p5 hp5 => ?_⟩
      have s5 := aq (HO.lst (ts ++ ws4)) hp5
      exact k out out2 p5 _ _ po oo po2 oo2 (((s1.trans sG).trans (s3.trans sl)).free hp5) ad ((bj s5 (bj sl at3)).app (bj s5 a4)) (((s1.trans sG).trans (s3.trans sl)).trans s5) (az N4 rfl)
end
open PySem L2 K19
section
variable {P : Program} {w : World} {K : PySem.W.Frag} {mg : Str -> Option Value} {base : Heap} {a : Adr}
open K3
theorem AcAt.same {H H' : Hp} {d : Addr} {as : List La} (h : AcAt H d as) (s : Same H H') : AcAt H' d as :=
  ⟨by rcases h.dc with e | ⟨o, e⟩; exact .inl (s _ _ e); exact .inr ⟨o, s _ _ e⟩, fun x m => s _ _ (h.ls x m)⟩
theorem AcAt.val {H : Hp} {d : Addr} {as : List La} (nd : (as.map (·.pa)).Nodup) {x : La} (m : x ∈ as) : eg (as.map kyL) (.inr ⟨⟨x.pa⟩⟩) = some (.ref x.ls) := by
  induction as with
  | nil => cases m
  | cons y r ih =>
    rw [List.map_cons] at nd
    obtain ⟨n1, n2⟩ := List.nodup_cons.mp nd
    by_cases c : y.pa = x.pa
    . rw [List.map_cons, b9 (by unfold kyL; rw [c])]
      rcases List.mem_cons.mp m with rfl | m
      . rfl
      . exact absurd (c ▸ List.mem_map_of_mem (f := (·.pa)) m) n1
    . rw [List.map_cons, bY (fun z => c (by simpa [kyL] using z))]
      rcases List.mem_cons.mp m with rfl | m
      . exact absurd rfl c
      . exact ih n2 m
theorem AcAt.get {H : Hp} {d : Addr} {as : List La} (h : AcAt H d as) (nd : (as.map (·.pa)).Nodup) {x : La} (m : x ∈ as) : DGet H d (L2.T x.pa) (some (.ref x.ls)) :=
  .inl ⟨_, .inr ⟨⟨x.pa⟩⟩, h.dc, rfl, (AcAt.val (H := H) (d := d) nd m).symm⟩
theorem vZ : ∀ ls : List (List Nat), A2 (fun (v : V) (c : List Nat) => v = L2.T c) (ls.map L2.T) ls
  | [] => .nil
  | _ :: r => .cons rfl (vZ r)
def sp_Av : Sp := sp4 fun x y z t H Q _ => NoT H /\ asR x fun d => asR y fun m => asT z fun path => asI t fun t => ∃ ws bs as cy, AcAt H d as /\ H m = some (.lst ws) /\ A2 (BkAt H) ws bs /\ BsOk as cy bs /\ as.length <= 8 /\ cy.length = 3 /\ (as.map (·.pa)).Nodup /\ Due H Q (gcB as) path (rsd t bs)
theorem u0 (T : Txt K mg a) : bw P w K mg base (XE P w) 4 a.jP a.m7 ["_law_accounts_here", "_law_bookings", "_law_path", "_law_day_here"] sp_Av := by
  refine T.j1.okX mR (fun vs H Q E h => sp4.len h) (fun cdv A outer s H vs Q E hr h => ?_)
  obtain ⟨x0, x1, x2, x3, rfl, h⟩ := sp4.inv h
  try dsimp only [sp_Av, sp4] at h
  have ND := mR.nd
  have HU := bf hr
  obtain ⟨hN, h1⟩ := h
  obtain ⟨d, rfl, h2⟩ := asR.inv h1
  obtain ⟨m0, rfl, h3⟩ := asR.inv h2
  obtain ⟨path, rfl, h4⟩ := asT.inv h3
  obtain ⟨t, rfl, ws, bs, as, cy, AC, hm0, hv, ok, la, lc, nd, k⟩ := asI.inv h4
  have sz := szl
  have sz1 := yk
  have G__law_balances := gO (P := P) (w := w) (base := base) T
  have b__law_balances := gT T.cX
  refine ⟨_, (ai (aM (i := 4) ND rfl (Or.inl rfl) (dH (FA.pa ah)))
      (ai (aM (i := 5) ND rfl (Or.inr rfl) nM)
      (ai (d8 (by passes_own) rfl (bM K (au G__law_balances (hr.mono (by decide)) rfl T.iB T.cX.kp b__law_balances .nil aK (FA.pa (aa (fv 1) (aa (fv 3) ah))))) (kl K (n := 3) rfl (bA (aN (i := 6) ND rfl (Or.inl rfl)) (bA (aN (i := 7) ND rfl (Or.inl rfl)) (bA (aN (i := 8) ND rfl (Or.inl rfl)) ii)))) (ak (cG (uK (bK (rD K) (aU (aC K) (cx (Nat.lt_of_le_of_lt (Nat.add_le_add_left (by decide) _) HU) (fv 0) (fv 6) (fun _ _ => rfl)) ae (fun _ _ => rfl)) (bR (FA.pa (aa (aE [103, 97, 105, 110]) (aa (aE [99, 111, 115, 116]) ah)))) (by with_unfolding_all rfl))) (ai (dF (fN K PySem.F.plainAttrs_list PySem.F.slot_list_append PySem.F.type_list_append d4 (fv 4) (FA.pa (aa (bR (FA.pa (aa (fv 6) (aa (fv 7) (aa (al fR ae (fv 8)) ah))))) ah))))
      (ak (gm (Nat.lt_of_le_of_lt (Nat.add_le_add_left (by decide) _) HU) (fv 5) (fv 7) (al aJ (oI (Nat.lt_of_le_of_lt (Nat.add_le_add_left (by decide) _) HU) (fv 5) (fv 7) ae ⟨rfl, rfl, rfl, rfl⟩) (fv 8)) rfl))) bn)))
      (ak (aT (al zx (fv 4) (cn rfl (cl := _) (x := "_law_currency") (xs := ["_law_currency"]) (fr := ["_law_path", "_law_together"]) (ks := [2, 5]) (by exact ⟨rfl, by decide +kernel, rfl, by decide +kernel, rfl, cg rfl, rfl, aP rfl, aP (k := fun y => List.lookup y _) rfl, ci rfl⟩) rfl (bM K (aQ (AT rfl) rfl T.nV mi (FA.pa (aa (fv 5) ah)))) (fun _ _ _ _ _ => (aN (i := 0) (dD (l := ["_law_currency", "_law_path", "_law_together"]) (by decide)) rfl (Or.inl rfl))) (fun _ _ _ _ _ => (fc (bK (hZ K HU) (cx (Nat.lt_of_le_of_lt (Nat.add_le_add_left (by decide) _) HU) (fv 2) (fv 0) (fun _ _ => rfl)) ae (bF _)))) (fun _ _ _ _ _ => (bR (FA.pa (aa (fv 1) (aa (fv 0) (aa (cx (Nat.lt_of_le_of_lt (Nat.add_le_add_left (by decide) _) HU) (fv 2) (fv 0) (fun _ _ => rfl)) ah))))))))))))), ?_⟩
  walk_at "rd"
  refine ⟨Nat.zero_le _, fun pr hpr pt hpt => ?_⟩
  have s1 := (aq (HO.lst []) hpr).trans (aq (HO.dK []) hpt)
  have N1 : NoT (upd (upd H pr (HO.lst [])) pt (HO.dK [])) := az (az hN rfl) rfl
  have g1 : upd (upd H pr (HO.lst [])) pt (HO.dK []) pr = some (HO.lst []) := (aq (HO.dK []) hpt) _ _ ad
  have g2 : upd (upd H pr (HO.lst [])) pt (HO.dK []) pt = some (HO.dK []) := ad
  have pt0 : H pt = none := (aq (HO.lst []) hpr).free hpt
  generalize upd (upd H pr (HO.lst [])) pt (HO.dK []) = G1 at s1 N1 g1 g2 ⊢
  refine iL ?_
  walk_at "rd"
  have few := ok.few la lc (t := t)
  refine ⟨N1, ws, bs, s1 _ _ hm0, j_ s1 hv, ok.l1, ok.l2, by omega, ?_⟩
  intro out r rw1 H2 po oo hr hr2 a2 s2 N2
  have row := ok.row (t := t)
  unfold Due at k
  have lo : out.length <= 24 := by rw [po.length_eq, List.length_map]; exact few
  generalize rsd t bs = rs at po a2 k row ⊢
  have inA : ∀ z ∈ res rs out, (∃ x ∈ as, x.pa = z.pa) /\ z.cu ∈ cy := fun z m => by
    obtain ⟨r0, mr, e⟩ := (gE rs).2.1 _ (po.mem_iff.mp (h7 m).1)
    obtain ⟨e1, e2⟩ := Prod.mk.inj e
    obtain ⟨x, mx, ex⟩ := List.mem_map.mp (row r0 mr).1
    exact ⟨⟨x, mx, ex.trans e1.symm⟩, e2 ▸ (row r0 mr).2⟩
  have lr := fo rs out
  have lw := a2.len
  have s12 := s1.trans s2
  have AC2 := AC.same s12
  have npt : pr ≠ pt := fun z => by rw [z, g2] at g1; cases g1
  have nr : r ∉ [pr, pt] := by
    simp only [List.mem_cons, List.not_mem_nil, or_false]
    rintro (rfl | rfl)
    . rw [g1] at hr; cases hr
    . rw [g2] at hr; cases hr
  have old : ∀ {p : Addr} {o : HO}, H p = some o -> p ∉ [pr, pt] := fun {p o} e => by
    simp only [List.mem_cons, List.not_mem_nil, or_false]
    rintro (rfl | rfl)
    . rw [hpr] at e; cases e
    . rw [pt0] at e; cases e
  have tupn : ∀ {p : Addr} {l : List V}, H2 p = some (.tup l) -> p ∉ [pr, pt] := fun {p l} e => by
    simp only [List.mem_cons, List.not_mem_nil, or_false]
    rintro (rfl | rfl)
    . rw [s2 _ _ g1] at e; cases e
    . rw [s2 _ _ g2] at e; cases e
  refine iV (xs := rw1) (SqL.of hr2) (iW (xs := rw1) (fun i σ' G => Keep [pr, pt] H2 G /\ NoT G /\ ∃ ys x6 x7 x8, G pr = some (.lst ys) /\ A2 (RwAt G) ys (trn (((res rs out).take i).filter fun z => gcB as z.pa)) /\ G pt = some (.dK ((dk (mvd path (((res rs out).take i).filter fun z => gcB as z.pa))).map jn)) /\ σ' = [some (.ref d), some (.ref m0), some (L2.T path), some (.int t), some (.ref pr), some (.ref pt), x6, x7, x8]) ⟨Keep.refl, N2, [], _, _, _, s2 _ _ g1, .nil, s2 _ _ g2, rfl⟩ ?_ ?_ ?_)
  . rintro i σ' G _ ⟨kp, _⟩
    exact SqL.of (kp _ _ hr2 nr)
  . rintro i x σ' G hx ⟨kp, nG, ys, x6, x7, x8, hpr', ay, hpt', rfl⟩
    obtain ⟨z, hz, q, rfl, hq⟩ := a2.at_ hx
    have mz := List.mem_of_getElem? hz
    obtain ⟨⟨x, mx, ex⟩, _⟩ := inA z mz
    have sG : Same H G := fun p o e => kp _ _ (s12 _ _ e) (old e)
    have hqG : G q = some (.tup [L2.T z.pa, L2.T z.cu, .int z.am]) := kp _ _ hq (tupn hq)
    have ACG := AC.same sG
    walk_at "rd"
    refine ⟨q, _, rfl, SqT.of hqG, rfl, _, _, rfl, _, _, rfl, _, _, rfl, rfl, nG, d, .ref x.ls, rfl, ex ▸ ACG.get nd mx, ?_⟩
    walk_at "rd"
    refine ⟨_, _, .inl (SqL.of (ACG.ls x mx)), aD (j := 3) rfl, by walk_at "om", fun p hp => ⟨_, .inr (SqT.of ad), rfl, rfl, G, Gc.none (aq _ hp), ?_⟩⟩
    rw [wG nd mx ex, dM hz, List.filter_append]
    cases e : gcB as z.pa with
    | false =>
      rw [List.filter_cons_of_neg (by simp [e]), List.filter_nil, List.append_nil]
      exact itn (by decide) ⟨kp, nG, ys, _, _, _, hpr', ay, hpt', rfl, rfl, rfl⟩
    | true =>
      rw [List.filter_cons_of_pos (by simp [e]), List.filter_nil]
      refine itp rfl ⟨.inl ⟨_, SqL.of hpr'⟩, ?_⟩
      walk_at "rd"
      have lCi : (((res rs out).take i).filter fun z => gcB as z.pa).length <= 24 := Nat.le_trans (List.length_filter_le _ _) (by rw [List.length_take]; omega)
      generalize ((res rs out).take i).filter (fun z => gcB as z.pa) = Ci at ay hpt' lCi ⊢
      have ly := ay.len
      have lt : (trn Ci).length = Ci.length := List.length_map ..
      refine ⟨by walk_at "om", fun p1 hp1 => ⟨pr, ys, _, rfl, rfl, (aj (av hpr' hp1)).trans hpr', by omega, ?_⟩⟩
      have kG : Keep [pr, pt] G (upd (upd G p1 (HO.tup [L2.T z.pa, L2.T z.cu, V.int (0 - z.am)])) pr (HO.lst (ys ++ [V.ref p1]))) := (Keep.refl.new hp1).put (.head _)
      have kG1 : Keep [pr] G (upd (upd G p1 (HO.tup [L2.T z.pa, L2.T z.cu, V.int (0 - z.am)])) pr (HO.lst (ys ++ [V.ref p1]))) := (Keep.refl.new hp1).put (.head _)
      have ay2 := dq kG1 (LW.one hpr') ay
      have q1 : upd (upd G p1 (HO.tup [L2.T z.pa, L2.T z.cu, V.int (0 - z.am)])) pr (HO.lst (ys ++ [V.ref p1])) pr = some (HO.lst (ys ++ [V.ref p1])) := ad
      have q2 : upd (upd G p1 (HO.tup [L2.T z.pa, L2.T z.cu, V.int (0 - z.am)])) pr (HO.lst (ys ++ [V.ref p1])) pt = some (.dK ((dk (mvd path Ci)).map jn)) := kG1 _ _ hpt' (by simpa using Ne.symm npt)
      have q3 : upd (upd G p1 (HO.tup [L2.T z.pa, L2.T z.cu, V.int (0 - z.am)])) pr (HO.lst (ys ++ [V.ref p1])) p1 = some (HO.tup [L2.T z.pa, L2.T z.cu, V.int (0 - z.am)]) := (aj (Ne.symm (av hpr' hp1))).trans ad
      have N4 : NoT (upd (upd G p1 (HO.tup [L2.T z.pa, L2.T z.cu, V.int (0 - z.am)])) pr (HO.lst (ys ++ [V.ref p1]))) := az (az nG rfl) rfl
      generalize upd (upd G p1 (HO.tup [L2.T z.pa, L2.T z.cu, V.int (0 - z.am)])) pr (HO.lst (ys ++ [V.ref p1])) = G4 at kG kG1 ay2 q1 q2 q3 N4 ⊢
      refine ⟨.inl ⟨_, .inl q2⟩, _, DGet.k (k := .inr ⟨⟨z.cu⟩⟩) q2, ?_⟩
      rw [DH z.cu lE, su]
      walk_at "rd"
      have ld := (gE (mvd path Ci)).2.2
      have lm : (mvd path Ci).length = Ci.length := List.length_map ..
      refine ⟨pt, _, rfl, DPut.k (k := .inr ⟨⟨z.cu⟩⟩) q2 (by rw [List.length_map]; omega), ?_⟩
      rw [FF z.cu _ lE]
      have kt : ∀ (o : HO) (t : Addr) (l : List V), G4 t = some (.tup l) -> upd G4 pt o t = some (.tup l) := fun o t l e => by
        rw [aj fun z => by rw [z, q2] at e; cases e]; exact e
      refine ⟨(kp.trans kG).put (.tail _ (.head _)), az N4 rfl, ys ++ [.ref p1], _, _, _, (aj npt).trans q1, ?_, ?_, rfl, rfl, rfl⟩
      . have e1 : trn (Ci ++ [z]) = trn Ci ++ [⟨z.pa, z.cu, 0 - z.am⟩] := by unfold trn; rw [List.map_append, List.map_singleton, Int.zero_sub]
        rw [e1]
        exact (ay2.imp fun _ _ _ _ h => RwAt.mv _ _ _ _ (kt _) h).snoc ⟨p1, rfl, kt _ _ _ q3⟩
      . have e1 : mvd path (Ci ++ [z]) = mvd path Ci ++ [⟨path, z.cu, z.am⟩] := by unfold mvd; rw [List.map_append]; rfl
        rw [ad, e1, ka]; rfl
  . rintro σ' G ⟨kp, nG, ys, x6, x7, x8, hpr', ay, hpt', rfl⟩
    rw [lw, List.take_length] at ay hpt'
    walk_at "rd"
    refine i9 ?_
    walk_at "rd"
    have sG : Same H G := fun p o e => kp _ _ (s12 _ _ e) (old e)
    have lC : (da (gcB as) rs out).length <= 24 := Nat.le_trans (List.length_filter_le _ _) (by omega)
    have ay : A2 (RwAt G) ys (trn (da (gcB as) rs out)) := ay
    have hpt' : G pt = some (.dK ((dk (mvd path (da (gcB as) rs out))).map jn)) := hpt'
    have k := fun out2 => k out out2
    unfold due at k
    generalize da (gcB as) rs out = C at ay hpt' k lC
    have lm : (mvd path C).length = C.length := List.length_map ..
    have ld := (gE (mvd path C)).2.2
    refine ⟨_, (dk (mvd path C)).map fun e => e.1.2, hpt', by rw [List.map_map, List.map_map]; rfl, by rw [List.length_map]; omega, fun cz pz oz l hl => ⟨⟨_, SqL.of ad⟩, ?_⟩⟩
    obtain ⟨po2, oo2⟩ := Bp pz oz
    have lz := pz.length_eq
    rw [List.length_map] at lz
    have s3 := aq (HO.lst (cz.map L2.T)) hl
    have g3 : upd G l (HO.lst (cz.map L2.T)) l = some (HO.lst (cz.map L2.T)) := ad
    have N3 : NoT (upd G l (HO.lst (cz.map L2.T))) := az nG rfl
    generalize upd G l (HO.lst (cz.map L2.T)) = G3 at s3 g3 N3 ⊢
    refine ceA RwAt.mv l (cz.map L2.T) cz (fun v c => v = L2.T c) (fun c => decide (val (mvd path C) (path, c) ≠ 0)) (fun c => ⟨path, c, val (mvd path C) (path, c)⟩) g3 N3 (vZ cz) (by rw [List.length_map]; omega) (fun v c mc hc F zs M1 M0 sF nF hzs n1 n0 => ?_) fun D ws2 F hD sF nF gD aF => ?_
    . subst hc
      obtain ⟨z1, rfl⟩ := ex1 hzs
      have ve := we (po2.mem_iff.mp (List.mem_map.mpr ⟨c, mc, rfl⟩))
      have gd := DGet.k (k := .inr ⟨⟨c⟩⟩) (sF _ _ (s3 _ _ hpt'))
      rw [DH c lE, ve] at gd
      walk_at "rd"
      refine ⟨⟨[_], rfl, rfl⟩, pt, _, rfl, gd, ?_⟩
      walk_at "rd"
      by_cases hv : val (mvd path C) (path, c) = 0
      . exact itp hv (n0 (decide_eq_false fun z => z hv) _ (Same.refl _) nF)
      . refine itn hv ⟨pt, _, rfl, gd, by walk_at "om", fun p1 hp1 => n1 (decide_eq_true hv) _ _ (aq _ hp1) (az nF rfl) ⟨p1, rfl, ad⟩⟩
    . walk_at "rd"
      have er : (cz.filter fun c => decide (val (mvd path C) (path, c) ≠ 0)).map (fun c => (⟨path, c, val (mvd path C) (path, c)⟩ : Row)) = res (mvd path C) (cz.map fun c => (path, c)) := by
        unfold res
        rw [List.filter_map, List.map_map]; rfl
      rw [er] at aF
      have l1 := aF.len
      have l2 := ay.len
      have l3 := fo (mvd path C) (cz.map fun c => (path, c))
      rw [List.length_map] at l3
      have lt : (trn C).length = C.length := List.length_map ..
      have s4 := s3.trans sF
      refine ⟨ys, ws2, s4 _ _ hpr', gD, by omega, fun p5 hp5 => ?_⟩
      have s5 := aq (HO.lst (ys ++ ws2)) hp5
      exact k _ p5 _ _ po oo po2 oo2 ((sG.trans s4).free hp5) ad ((bj (s4.trans s5) ay).app (bj s5 aF)) ((sG.trans s4).trans s5) (az nF rfl)
end
open PySem L2 K19
section
variable {P : Program} {w : World} {K : PySem.W.Frag} {mg : Str -> Option Value} {base : Heap} {a : Adr}
open K3
def sp_at (K : PySem.W.Frag) : Sp := sp2 fun x y H Q _ => asR x fun p => asI y fun k => ∃ ns : List Int, SqL K H p (ns.map V.int) /\ 0 <= k /\ ∀ i, Q (.int i) H
theorem bW (T : Txt K mg a) : bw P w K mg base (XE P w) 1 a.fE a.iF ["_law_script", "_law_k"] (sp_at K) := by
  refine T.aI.okX ny (fun vs H Q E h => sp2.len h) (fun cdv A outer s H vs Q E hr h => ?_)
  obtain ⟨x0, x1, rfl, h⟩ := sp2.inv h
  try dsimp only [sp_at, sp2] at h
  obtain ⟨p, rfl, h1⟩ := asR.inv h
  obtain ⟨k, rfl, ns, hp, k0, q⟩ := asI.inv h1
  refine ⟨_, (ai (cG (bK wS (fv 1) (aQ (dN K) rfl T.iD eM (FA.pa (aa (fv 0) ah))) (bF _)) (ak (aT (al aJ (aU (aC K) (fv 0) (fv 1) (fun _ _ => rfl)) (al fK (al bz (aU (aC K) (fv 0) (fv 1) (fun _ _ => rfl)) ae) ae)))) bn)
      (ak (aT ae))), ?_⟩
  walk_at "rd"
  refine ⟨_, .inl hp, ?_⟩
  rw [List.length_map]
  by_cases hk : k < ns.length
  . obtain ⟨j, rfl⟩ : ∃ j : Nat, k = j := ⟨k.toNat, by omega⟩
    have hj : j < ns.length := by omega
    have e : atI (ns.map V.int) (j : Int) = some (.int ns[j]) := aD (by rw [List.getElem?_map, List.getElem?_eq_getElem hj]; rfl)
    refine itp hk ⟨_, _, .inl hp, e, ?_⟩
    walk_at "rd"
    refine ⟨_, _, .inl hp, e, ?_⟩
    walk_at "rd"
    exact q _
  . exact itn hk (q _)
def sp_qW : Sp := sp1 fun x H Q _ => asI x fun _ => Q (.bl true) H
theorem pW (T : Txt K mg a) : bw P w K mg base (XE P w) 1 a.im a.jA ["_law_found"] sp_qW := by
  refine T.ia.okX pI (fun vs H Q E h => sp1.len h) (fun cdv A outer s H vs Q E hr h => ?_)
  obtain ⟨x0, rfl, h⟩ := sp1.inv h
  try dsimp only [sp_qW, sp1] at h
  obtain ⟨i, rfl, k⟩ := asI.inv h
  refine ⟨_, (ak (aT (dY (aQ (eD K) rfl T.bQ bC (FA.pa (aa (fv 0) (aa (eC (v := .ty "int") rfl T.zA vk rfl) ah)))) (dR (AS (aQ (eD K) rfl T.bQ bC (FA.pa (aa (fv 0) (aa (eC (v := .ty "bool") rfl T.ze wV rfl) ah))))))))), ?_⟩
  walk_at "rd"
  first | exact k | exact iteT k
def sp_sW : Sp := sp1 fun x H Q _ => asI x fun y => Q (.int (365 * y + LD y)) H
theorem eA (T : Txt K mg a) : bw P w K mg base (XE P w) 1 a.ic a.jx ["_law_year"] sp_sW := by
  refine T.bL.okX qe (fun vs H Q E h => sp1.len h) (fun cdv A outer s H vs Q E hr h => ?_)
  obtain ⟨x0, rfl, h⟩ := sp1.inv h
  try dsimp only [sp_sW, sp1] at h
  obtain ⟨y, rfl, k⟩ := asI.inv h
  refine ⟨_, (ak (aT (al aJ (al fR (al aJ (al fK ae (fv 0)) (al bg (al aJ (fv 0) ae) ae)) (al bg (al aJ (fv 0) ae) ae)) (al bg (al aJ (fv 0) ae) ae)))), ?_⟩
  walk_at "rd"
  have e : 365 * y + (y + 3) / 4 - (y + 99) / 100 + (y + 399) / 400 = 365 * y + LD y := by unfold LD; omega
  rw [e]; exact k
theorem Ce {y : Int} (h : 0 <= y) : 0 <= LD y := by unfold LD; omega
theorem EI (y : Int) : FD (12 * y) = 365 * y + LD y := by
  unfold FD
  rw [show 12 * y / 12 = y by omega, show 12 * y % 12 = 0 by omega, if_neg (by decide)]
  show _ + S 0 = _
  rw [show S 0 = 0 by decide]; omega
abbrev LNG (y : Int) : List Int := 31 :: (28 + (LD (y + 1) - LD y)) :: R10
theorem y8 (y : Int) : (28 : Int) + (if 365 * (y + 1) + LD (y + 1) - (365 * y + LD y) = 366 then 1 else 0) = 28 + (LD (y + 1) - LD y) := by
  have h : LD (y + 1) = LD y + 1 \/ LD (y + 1) = LD y := by
    rw [w4]
    split
    . exact .inl rfl
    . exact .inr (Int.add_zero _)
  rcases h with h | h
  . rw [h, if_pos (by omega)]; omega
  . rw [h, if_neg (by omega)]; omega
def sp_pv : Sp := sp1 fun x H Q _ => NoT H /\ asI x fun y => ∀ p, H p = none -> Q (.ref p) (upd H p (.lst ((LNG y).map V.int)))
theorem nn (T : Txt K mg a) : bw P w K mg base (XE P w) 2 a.fO a.ir ["_law_year"] sp_pv := by
  refine T.fZ.okX ip (fun vs H Q E h => sp1.len h) (fun cdv A outer s H vs Q E hr h => ?_)
  obtain ⟨x0, rfl, h⟩ := sp1.inv h
  try dsimp only [sp_pv, sp1] at h
  have ND := ip.nd
  have HU := bf hr
  obtain ⟨hN, h1⟩ := h
  obtain ⟨y, rfl, k⟩ := asI.inv h1
  have sz := szl
  have G__law_start := eA (P := P) (w := w) (base := base) T
  have b__law_start := eB T.bL
  refine ⟨_, (ai (aM (i := 1) ND rfl (Or.inl rfl) (al aJ ae (fw Bi rfl T.zA vk (FA.pa (aa (gn (jK K HU) (al fR (au G__law_start (hr.mono (by decide)) rfl T.di T.bL.kp b__law_start .nil aK (FA.pa (aa (al aJ (fv 0) ae) ah))) (au G__law_start (hr.mono (by decide)) rfl T.di T.bL.kp b__law_start .nil aK (FA.pa (aa (fv 0) ah)))) ae (bF _)) ah)))))
      (ak (aT (dH (FA.pa (aa ae (aa (fv 1) (aa ae (aa ae (aa ae (aa ae (aa ae (aa ae (aa ae (aa ae (aa ae (aa ae ah))))))))))))))))), ?_⟩
  walk_at "rd"
  refine ⟨by walk_at "om", fun p hp => ?_⟩
  rw [y8]; exact k p hp
def sp_wI : Sp := sp1 fun x H Q _ => NoT H /\ asI x fun m => ∀ p H', Same H H' -> NoT H' -> H' p = some (.tup [.int (FD m), .int (FD (m + 1) - 1)]) -> Q (.ref p) H'
theorem fF (T : Txt K mg a) : bw P w K mg base (XE P w) 3 a.dX a.fW ["_law_month_here"] sp_wI := by
  refine T.cE.okX fI (fun vs H Q E h => sp1.len h) (fun cdv A outer s H vs Q E hr h => ?_)
  obtain ⟨x0, rfl, h⟩ := sp1.inv h
  try dsimp only [sp_wI, sp1] at h
  have ND := fI.nd
  obtain ⟨hN, h1⟩ := h
  obtain ⟨m, rfl, k⟩ := asI.inv h1
  have sz := szl
  have G__law_start := eA (P := P) (w := w) (base := base) T
  have b__law_start := eB T.bL
  have G__law_lengths := nn (P := P) (w := w) (base := base) T
  have b__law_lengths := nC T.fZ
  refine ⟨_, (ai (aM (i := 1) ND rfl (Or.inl rfl) (au G__law_lengths (hr.mono (by decide)) rfl T.oF T.fZ.kp b__law_lengths .nil aK (FA.pa (aa (al bg (fv 0) ae) ah))))
      (ai (aM (i := 2) ND rfl (Or.inl rfl) (al aJ (au G__law_start (hr.mono (by decide)) rfl T.di T.bL.kp b__law_start .nil aK (FA.pa (aa (al bg (fv 0) ae) ah))) (aQ (rR K rfl) rfl T.yO vO (FA.pa (aa (eE (n4 K) (fv 1) il (e_ (al bz (fv 0) ae))) ah)))))
      (ak (aT (bR (FA.pa (aa (fv 2) (aa (al fR (al aJ (fv 2) (aU (aC K) (fv 1) (al bz (fv 0) ae) (fun _ _ => rfl))) ae) ah)))))))), ?_⟩
  walk_at "rd"
  refine ⟨hN, fun p hp => ?_⟩
  have s1 := aq (HO.lst ((LNG (m / 12)).map V.int)) hp
  have N1 : NoT (upd H p (HO.lst ((LNG (m / 12)).map V.int))) := az hN rfl
  have g1 : upd H p (HO.lst ((LNG (m / 12)).map V.int)) p = some (HO.lst ((LNG (m / 12)).map V.int)) := ad
  change Ef K (V.ref p) none (some (m % 12)) (upd H p (HO.lst ((LNG (m / 12)).map V.int))) _
  generalize upd H p (HO.lst ((LNG (m / 12)).map V.int)) = G1 at s1 N1 g1 ⊢
  have m0 : 0 <= m % 12 /\ m % 12 < 12 := by omega
  refine ⟨p, _, rfl, SqL.of g1, fun q hq => ?_⟩
  rw [At _ m0.1, <- List.map_take]
  have s2 := aq (HO.lst (((LNG (m / 12)).take (m % 12).toNat).map V.int)) hq
  have g2 : upd G1 q (HO.lst (((LNG (m / 12)).take (m % 12).toNat).map V.int)) q = some (HO.lst (((LNG (m / 12)).take (m % 12).toNat).map V.int)) := ad
  have N2 : NoT (upd G1 q (HO.lst (((LNG (m / 12)).take (m % 12).toNat).map V.int))) := az N1 rfl
  generalize upd G1 q (HO.lst (((LNG (m / 12)).take (m % 12).toNat).map V.int)) = G2 at s2 g2 N2 ⊢
  refine ⟨_, .inl (SqL.of g2), ?_⟩
  walk_at "rd"
  rw [show 365 * (m / 12) + LD (m / 12) + ((LNG (m / 12)).take (m % 12).toNat).sum = FD m from EF m]
  have hl : (m % 12).toNat < (LNG (m / 12)).length := by show _ < 12; omega
  have ix : atI ((LNG (m / 12)).map V.int) (m % 12) = some (.int (LG (2000 + m / 12) (1 + m % 12))) := by
    have e := Ft m
    have e2 : m % 12 = ((m % 12).toNat : Int) := by omega
    rw [<- e]
    conv => lhs; rw [e2]
    exact aD (by rw [List.getElem?_map, List.getElem?_eq_getElem hl]; simp [List.getD, List.getElem?_eq_getElem hl])
  refine ⟨_, _, .inl (SqL.of (s2 _ _ g1)), ix, ?_⟩
  walk_at "rd"
  rw [<- BN]
  refine ⟨by walk_at "om", fun p3 hp3 => k p3 _ ((s1.trans s2).trans (aq _ hp3)) (az N2 rfl) ad⟩
def sp_sV : Sp := sp1 fun x H Q _ => NoT H /\ asI x fun d => (0 <= d /\ d <= 146096) /\ ∀ (i : Int) H', 0 <= i -> Same H H' -> NoT H' -> Q (.int i) H'
theorem qd (T : Txt K mg a) : bw P w K mg base (XE P w) 4 a.h8 a.jH ["_law_day_here"] sp_sV := by
  refine T.hJ.okX jC (fun vs H Q E h => sp1.len h) (fun cdv A outer s H vs Q E hr h => ?_)
  obtain ⟨x0, rfl, h⟩ := sp1.inv h
  try dsimp only [sp_sV, sp1] at h
  have ND := jC.nd
  obtain ⟨hN, h1⟩ := h
  obtain ⟨d, rfl, ⟨d0, d1⟩, k⟩ := asI.inv h1
  have sz := szl
  have G__law_month_ends := fF (P := P) (w := w) (base := base) T
  have b__law_month_ends := fY T.cE
  have G__law_start := eA (P := P) (w := w) (base := base) T
  have b__law_start := eB T.bL
  refine ⟨_, (ai (aM (i := 1) ND rfl (Or.inl rfl) (al bg (al fK (fv 0) ae) ae))
      (ai (oq (by passes_own) (bK zc (au G__law_start (hr.mono (by decide)) rfl T.di T.bL.kp b__law_start .nil aK (FA.pa (aa (fv 1) ah))) (fv 0) (bF _)) (ak (aM (i := 1) ND rfl (Or.inl rfl) (al fR (fv 1) ae))))
      (ai (oq (by passes_own) (bK gg (au G__law_start (hr.mono (by decide)) rfl T.di T.bL.kp b__law_start .nil aK (FA.pa (aa (al aJ (fv 1) ae) ah))) (fv 0) (bF _)) (ak (aM (i := 1) ND rfl (Or.inl rfl) (al aJ (fv 1) ae))))
      (ai (aM (i := 2) ND rfl (Or.inl rfl) ae)
      (ai (oq (by passes_own) (bK wS (aU (aC K) (au G__law_month_ends (hr.mono (by decide)) rfl T.gq T.cE.kp b__law_month_ends .nil aK (FA.pa (aa (al aJ (al fK ae (fv 1)) (fv 2)) ah))) ae (fun _ _ => rfl)) (fv 0) (bF _)) (ak (aM (i := 2) ND rfl (Or.inl rfl) (al aJ (fv 2) ae))))
      (ak (aT (al aJ (al fK ae (fv 1)) (fv 2))))))))), ?_⟩
  walk_at "rd"
  refine ⟨fun n σ H1 => ∃ y : Int, σ = [some (.int d), some (.int y), none] /\ H = H1 /\ 0 <= y /\ n = y.toNat, ⟨_, _, rfl, rfl, by omega, rfl⟩, ?_⟩
  rintro n σ H1 ⟨y, rfl, rfl, y0, rfl⟩
  walk_at "rd"
  by_cases h2 : d < 365 * y + LD y
  . have y1 : 1 <= y := by
      by_cases z : y = 0
      . rw [z] at h2
        have : LD 0 = 0 := by decide
        omega
      . omega
    exact itp h2 ⟨_, fun σ' H' z => z, (y - 1).toNat, by omega, y - 1, rfl, rfl, by omega, rfl⟩
  . refine itn h2 ⟨fun n σ H1 => ∃ y : Int, σ = [some (.int d), some (.int y), none] /\ H = H1 /\ 0 <= y /\ 365 * y + LD y <= d /\ n = (d - y).toNat, ⟨_, _, rfl, rfl, y0, by omega, rfl⟩, ?_⟩
    rintro n σ H1 ⟨y, rfl, rfl, y0, h3, rfl⟩
    walk_at "rd"
    by_cases h4 : 365 * (y + 1) + LD (y + 1) <= d
    . have := Ce (y := y + 1) (by omega)
      exact itp h4 ⟨_, fun σ' H' z => z, (d - (y + 1)).toNat, by omega, y + 1, rfl, rfl, by omega, h4, rfl⟩
    . refine itn h4 ?_
      walk_at "rd"
      refine ⟨fun n σ H1 => ∃ m : Int, σ = [some (.int d), some (.int y), some (.int m)] /\ Same H H1 /\ NoT H1 /\ 0 <= m /\ m <= 11 /\ n = (11 - m).toNat, ⟨_, _, rfl, Same.refl _, hN, by omega, by omega, rfl⟩, ?_⟩
      rintro n σ H1 ⟨m, rfl, s1, N1, m0, m1, rfl⟩
      walk_at "rd"
      refine ⟨N1, fun p H2 s2 N2 hp => ⟨_, _, .inr (SqT.of hp), aD (j := 1) rfl, ?_⟩⟩
      walk_at "rd"
      by_cases h5 : FD (12 * y + m + 1) - 1 < d
      . have m2 : m + 1 <= 11 := by
          by_cases z : m = 11
          . exfalso
            rw [z, show 12 * y + 11 + 1 = 12 * (y + 1) by omega, EI] at h5
            omega
          . omega
        exact itp h5 ⟨_, fun σ' H' z => z, (11 - (m + 1)).toNat, by omega, m + 1, rfl, s1.trans s2, N2, by omega, m2, rfl⟩
      . exact itn h5 (k _ _ (by omega) (s1.trans s2) N2)
def sp_wz (K : PySem.W.Frag) : Sp := sp1 fun x H Q _ => asR x fun p => ∃ ns : List Int, SqL K H p (ns.map V.int) /\ ∀ i : Int, 300 <= i -> i <= 145800 -> Q (.int i) H
theorem hX (T : Txt K mg a) : bw P w K mg base (XE P w) 2 a.ja a.lA ["_law_script"] (sp_wz K) := by
  refine T.de.okX lg (fun vs H Q E h => sp1.len h) (fun cdv A outer s H vs Q E hr h => ?_)
  obtain ⟨x0, rfl, h⟩ := sp1.inv h
  try dsimp only [sp_wz, sp1] at h
  have ND := lg.nd
  obtain ⟨p, rfl, ns, hp, k⟩ := asR.inv h
  have G__law_start := eA (P := P) (w := w) (base := base) T
  have b__law_start := eB T.bL
  have G__law_cell_at := bW (P := P) (w := w) (base := base) T
  have b__law_cell_at := bV T.aI
  refine ⟨_, (ai (aM (i := 1) ND rfl (Or.inl rfl) (au G__law_cell_at (hr.mono (by decide)) rfl T.aX T.aI.kp b__law_cell_at .nil aK (FA.pa (aa (fv 0) (aa ae ah)))))
      (ak (aT (aQ (AQ rfl) rfl T.Cg yQ (FA.pa (aa ae (aa (al aJ (al fR (au G__law_start (hr.mono (by decide)) rfl T.di T.bL.kp b__law_start .nil aK (FA.pa (aa (al aJ (al bz (fv 1) ae) ae) ah))) ae) (al bz (al bg (fv 1) ae) ae)) ah))))))), ?_⟩
  walk_at "rd"
  refine ⟨ns, hp, fun i => ?_⟩
  have y1 : 1 <= i % 399 + 1 /\ i % 399 + 1 <= 399 := by omega
  have z1 : 0 <= i / 399 % 50 /\ i / 399 % 50 < 50 := by omega
  generalize i % 399 + 1 = y at y1
  generalize i / 399 % 50 = z at z1
  have f1 := Ce (show 0 <= y by omega)
  have f2 : LD y <= 101 := by unfold LD; clear z1 f1; omega
  generalize LD y = t at f1 f2
  refine k _ ?_ ?_
  . split <;> omega
  . split <;> omega
def sp_zN (K : PySem.W.Frag) : Sp := sp2 fun x y H Q _ => asR x fun p => asI y fun k => ∃ ns : List Int, SqL K H p (ns.map V.int) /\ 0 <= k /\ ∀ i : Int, 0 <= i -> i <= 146096 -> Q (.int i) H
theorem uE (T : Txt K mg a) : bw P w K mg base (XE P w) 3 a.j7 a.mZ ["_law_script", "_law_k"] (sp_zN K) := by
  refine T.jR.okX tE (fun vs H Q E h => sp2.len h) (fun cdv A outer s H vs Q E hr h => ?_)
  obtain ⟨x0, x1, rfl, h⟩ := sp2.inv h
  try dsimp only [sp_zN, sp2] at h
  obtain ⟨p, rfl, h1⟩ := asR.inv h
  obtain ⟨j, rfl, ns, hp, k0, k⟩ := asI.inv h1
  have G__law_base := hX (P := P) (w := w) (base := base) T
  have b__law_base := hE T.de
  have G__law_cell_at := bW (P := P) (w := w) (base := base) T
  have b__law_cell_at := bV T.aI
  refine ⟨_, (ak (aT (aQ (zq rfl) rfl T.Cn AJ (FA.pa (aa ae (aa (al aJ (au G__law_base (hr.mono (by decide)) rfl T.iR T.de.kp b__law_base .nil aK (FA.pa (aa (fv 0) ah))) (al bz (au G__law_cell_at (hr.mono (by decide)) rfl T.aX T.aI.kp b__law_cell_at .nil aK (FA.pa (aa (fv 0) (aa (fv 1) ah)))) ae)) ah)))))), ?_⟩
  walk_at "rd"
  refine ⟨ns, hp, fun i i0 i1 => ⟨ns, hp, k0, fun x => ?_⟩⟩
  refine k _ ?_ ?_
  . split <;> omega
  . split <;> omega
end
open PySem L2 K19
section
variable {P : Program} {w : World} {K : PySem.W.Frag} {mg : Str -> Option Value} {base : Heap} {a : Adr}
open K3
theorem iH {ta : TA} {g : TG} {tb : TS} {D : fq} {σ : St} {H : Hp} (h : ta σ H fun vs H1 => ∃ j : Int, vs = [.int j] /\ -(2 ^ 62) <= j /\ j < 2 ^ 62 /\ FE (Itr 0 j.toNat) g tb D σ H1) : rm (Cp ta) g tb D σ H := h
theorem xt (l : List Nat) (lo hi : Option Int) : (js l lo hi).length <= l.length := by
  unfold js; rw [List.length_take, List.length_drop]; omega
theorem nR {l : List Nat} {lo hi : Option Int} {x : Nat} (h : x ∈ js l lo hi) : x ∈ l := by
  unfold js at h; exact List.mem_of_mem_drop (List.mem_of_mem_take h)
abbrev AH : List Nat := [97, 98, 99, 100, 101, 102, 103, 104]
theorem Aq {l : List Nat} (h : l.length = 8) (x : Int) : ∃ z ∈ l, atI l (x % 8) = some z := by
  obtain ⟨j, e⟩ := Int.eq_ofNat_of_zero_le (Int.emod_nonneg x (show (8 : Int) ≠ 0 by decide))
  have b := Int.emod_lt_of_pos x (show (0 : Int) < 8 by decide)
  rw [e] at b ⊢
  have hj : j < l.length := by omega
  exact ⟨l[j], List.getElem_mem hj, aD (List.getElem?_eq_getElem hj)⟩
structure NmOk (ls : List (List Nat)) : Prop where
  len : ls.length = 5
  nd : ls.Nodup
  nm : ∀ l ∈ ls, nm l = true
def sgs : List (List Nat) := [[107], [109], [112], [107, 109], [122]]
theorem E7 {u v s : List Nat} (hs : s ∈ sgs) (lu : u.length + v.length <= 10) (hu : ∀ x ∈ u, x ∈ AH) (hv : ∀ x ∈ v, x ∈ AH) : nm (u ++ s ++ v) = true := by
  have hs2 : 1 <= s.length /\ s.length <= 2 /\ ∀ x ∈ s, 97 <= x /\ x <= 122 := by
    have : ∀ s ∈ sgs, 1 <= s.length /\ s.length <= 2 /\ ∀ x ∈ s, 97 <= x /\ x <= 122 := by decide
    exact this s hs
  have ha : ∀ x ∈ AH, 97 <= x /\ x <= 122 := by decide
  have l : (u ++ s ++ v).length = u.length + s.length + v.length := by rw [List.length_append, List.length_append]
  unfold nm lie
  rw [decide_eq_true (by omega), decide_eq_true (by omega), Bool.true_and, Bool.true_and, List.all_eq_true]
  intro x m
  have : 97 <= x /\ x <= 122 := by
    rcases List.mem_append.mp m with m | m
    . rcases List.mem_append.mp m with m | m
      . exact ha x (hu x m)
      . exact hs2.2.2 x m
    . exact ha x (hv x m)
  rw [decide_eq_true this.1, decide_eq_true this.2]; rfl
theorem NmOk.of {u v : List Nat} (lu : u.length + v.length <= 10) (hu : ∀ x ∈ u, x ∈ AH) (hv : ∀ x ∈ v, x ∈ AH) : NmOk (sgs.map fun s => u ++ s ++ v) := by
  refine ⟨rfl, ?_, fun l m => ?_⟩
  . refine List.pairwise_map.mpr ((show sgs.Nodup by decide).imp fun {x y} h e => h ?_)
    exact List.append_cancel_left (List.append_cancel_right e)
  . obtain ⟨s, ms, rfl⟩ := List.mem_map.mp m
    exact E7 ms lu hu hv
theorem Bf {ws : List V} {ls : List (List Nat)} (h : A2 (fun (v : V) (c : List Nat) => v = L2.T c) ws ls) : ws = ls.map L2.T := by
  induction h with
  | nil => rfl
  | cons e _ ih => rw [List.map_cons, e, ih]
def sp_tB : Sp := sp1 fun x H Q _ => NoT H /\ asI x fun c => ∀ p H' (ls : List (List Nat)), Same H H' -> NoT H' -> H p = none -> H' p = some (.lst (ls.map L2.T)) -> NmOk ls -> Q (.ref p) H'
theorem pO (T : Txt K mg a) : bw P w K mg base (XE P w) 1 a.h9 a.jG ["_law_cell"] sp_tB := by
  refine T.hU.okX jz (fun vs H Q E h => sp1.len h) (fun cdv A outer s H vs Q E hr h => ?_)
  obtain ⟨x0, rfl, h⟩ := sp1.inv h
  try dsimp only [sp_tB, sp1] at h
  have ND := jz.nd
  obtain ⟨hN, h1⟩ := h
  obtain ⟨c, rfl, k⟩ := asI.inv h1
  have sz := szl
  refine ⟨_, (ai (aM (i := 1) ND rfl (Or.inr rfl) (aE []))
      (ai (aM (i := 2) ND rfl (Or.inl rfl) (al bg (fv 0) ae))
      (ai (d8 (by passes_own) rfl (gS rfl T.jj (FA.pa (aa (al bz (fv 0) ae) ah))) (aN (i := 3) ND rfl (Or.inl rfl)) (ai (aM (i := 1) ND rfl (Or.inr rfl) (al aJ (fv 1) (aU (aC K) (aE [97, 98, 99, 100, 101, 102, 103, 104]) (al bz (fv 2) ae) (fun _ _ => rfl))))
      (ak (aM (i := 2) ND rfl (Or.inl rfl) (al bg (fv 2) ae)))))
      (ai (aM (i := 4) ND rfl (Or.inr rfl) (al bz (al bg (fv 0) ae) (al aJ (aQ (dN K) rfl T.iD eM (FA.pa (aa (fv 1) ah))) ae)))
      (ak (aT (cn rfl (cl := _) (x := "_law_sign") (xs := ["_law_sign"]) (fr := ["_law_word", "_law_at"]) (ks := [1, 4]) (by exact ⟨rfl, by decide +kernel, rfl, by decide +kernel, rfl, cg rfl, rfl, aP rfl, aP (k := fun y => List.lookup y _) rfl, ci rfl⟩) rfl (bM K (dH (FA.pa (aa (aE [107]) (aa (aE [109]) (aa (aE [112]) (aa (aE [107, 109]) (aa (aE [122]) ah)))))))) (fun _ _ _ _ _ => (aN (i := 0) (dD (l := ["_law_sign", "_law_word", "_law_at"]) (by decide)) rfl (Or.inl rfl))) (fun _ _ _ _ _ => fj) (fun _ _ _ _ _ => (al aJ (al aJ (eE rP (fv 1) il (e_ (fv 2))) (fv 0)) (eE rP (fv 1) (e_ (fv 2)) il)))))))))), ?_⟩
  walk_at "rd"
  refine iH ?_
  walk_at "rd"
  refine ⟨by omega, by omega, gJ (lo := 0) (n := (c % 6).toNat) (fun i σ' H' => H = H' /\ ∃ wd x2 x3, wd.length = i /\ (∀ x ∈ wd, x ∈ AH) /\ σ' = [some (.int c), some (L2.T wd), some (.int x2), x3, none]) ⟨rfl, [], _, _, rfl, (fun _ m => nomatch m), rfl⟩ ?_ ?_⟩
  . rintro i σ' H' hi ⟨rfl, wd, x2, x3, lw, hw, rfl⟩
    obtain ⟨z, mz, ez⟩ := Aq (l := AH) rfl x2
    walk_at "rd"
    refine ⟨by show 8 <= sizeLine; omega, ?_⟩
    show match atI AH (x2 % 8) with | some c => _ | none => False
    rw [ez]
    refine ⟨by omega, wd ++ [z], _, _, by rw [List.length_append, lw]; rfl, fun x m => ?_, rfl, rfl, rfl⟩
    rcases List.mem_append.mp m with m | m
    . exact hw x m
    . rw [List.mem_singleton.mp m]; exact mz
  . rintro σ' H' ⟨rfl, wd, x2, x3, lw, hw, rfl⟩
    walk_at "rd"
    refine ⟨by omega, by omega, i9 ?_⟩
    walk_at "rd"
    refine ⟨by walk_at "om", fun p hp => ⟨⟨_, SqL.of ad⟩, ?_⟩⟩
    generalize c / 8 % ((wd.length : Int) + 1) = t
    have l1 := xt wd none (some t)
    have l2 := xt wd (some t) none
    have s1 := aq (HO.lst (sgs.map L2.T)) hp
    refine ceA (S := fun _ v c => v = L2.T c) (fun _ _ _ _ _ h => h) p (sgs.map L2.T) sgs (fun v c => v = L2.T c) (fun _ => true) (fun s => js wd none (some t) ++ s ++ js wd (some t) none) ad (az hN rfl) (vZ sgs) (by show 5 < sizeLine; omega) (fun v s ms hs G zs M1 M0 sG nG hz n1 n0 => ?_) fun D ws G hD sG nG gD aG => ?_
    . subst hs
      obtain ⟨z1, rfl⟩ := ex1 hz
      have ls : s.length <= 2 := (show ∀ s ∈ sgs, s.length <= 2 by decide) s ms
      walk_at "rd"
      exact ⟨⟨[_], rfl, rfl⟩, by omega, by omega, by omega, by rw [List.length_append]; omega, n1 rfl _ _ (Same.refl _) nG rfl⟩
    . rw [List.filter_eq_self.mpr (fun _ _ => rfl)] at aG
      rw [Bf aG] at gD
      exact k D G _ (s1.trans sG) nG (s1.free hD) gD (NmOk.of (by omega) (fun x m => hw x (nR m)) fun x m => hw x (nR m))
def sp_xJ : Sp := sp1 fun x H Q _ => NoT H /\ asI x fun c => ∀ p H' (ls : List (List Nat)), Same H H' -> NoT H' -> H p = none -> H' p = some (.lst (ls.map L2.T)) -> ls.length = 3 -> (∀ l ∈ ls, cur l = true) -> Q (.ref p) H'
theorem fQ (T : Txt K mg a) : bw P w K mg base (XE P w) 1 a.dU a.fP ["_law_cell"] sp_xJ := by
  refine T.ck.okX fB (fun vs H Q E h => sp1.len h) (fun cdv A outer s H vs Q E hr h => ?_)
  obtain ⟨x0, rfl, h⟩ := sp1.inv h
  try dsimp only [sp_xJ, sp1] at h
  have ND := fB.nd
  obtain ⟨hN, h1⟩ := h
  obtain ⟨c, rfl, k⟩ := asI.inv h1
  have sz := szl
  refine ⟨_, (ai (aM (i := 1) ND rfl (Or.inr rfl) (al aJ (aU (aC K) (aE [65, 66, 67, 68, 69, 70, 71, 72]) (al bz (al bg (fv 0) ae) ae) (fun _ _ => rfl)) (aU (aC K) (aE [83, 84, 85, 86, 87, 88, 89, 90]) (al bz (al bg (fv 0) ae) ae) (fun _ _ => rfl))))
      (ak (aT (cn rfl (cl := _) (x := "_law_sign") (xs := ["_law_sign"]) (fr := ["_law_two", "_law_cell"]) (ks := [1, 0]) (by exact ⟨rfl, by decide +kernel, rfl, by decide +kernel, rfl, cg rfl, rfl, aP rfl, aP (k := fun y => List.lookup y _) rfl, ci rfl⟩) rfl (Am (aE [75, 76, 77])) (fun _ _ _ _ _ => (aN (i := 0) (dD (l := ["_law_sign", "_law_two", "_law_cell"]) (by decide)) rfl (Or.inl rfl))) (fun _ _ _ _ _ => fj) (fun _ _ _ _ _ => (al aJ (al aJ (eE rP (fv 1) il (e_ (al bz (fv 2) ae))) (fv 0)) (eE rP (fv 1) (e_ (al bz (fv 2) ae)) il))))))), ?_⟩
  walk_at "rd"
  obtain ⟨z1, m1, e1⟩ := Aq (l := [65, 66, 67, 68, 69, 70, 71, 72]) rfl (c / 3)
  obtain ⟨z2, m2, e2⟩ := Aq (l := [83, 84, 85, 86, 87, 88, 89, 90]) rfl (c / 24)
  rw [e1]
  refine ⟨by walk_at "om", ?_⟩
  dsimp only
  rw [e2]
  refine ⟨by walk_at "om", by walk_at "om", ?_⟩
  have up : ∀ x ∈ [z1, z2], 65 <= x /\ x <= 90 := by
    have a1 : ∀ x ∈ ([65, 66, 67, 68, 69, 70, 71, 72] : List Nat), 65 <= x /\ x <= 90 := by decide
    have a2 : ∀ x ∈ ([83, 84, 85, 86, 87, 88, 89, 90] : List Nat), 65 <= x /\ x <= 90 := by decide
    intro x m
    simp only [List.mem_cons, List.not_mem_nil, or_false] at m
    rcases m with rfl | rfl
    . exact a1 _ m1
    . exact a2 _ m2
  have l2 : (js [z1, z2] none (some (c % 3))).length + (js [z1, z2] (some (c % 3)) none).length = 2 := by
    rcases (by omega : c % 3 = 0 \/ c % 3 = 1 \/ c % 3 = 2) with e | e | e <;> rw [e] <;> rfl
  refine cmS (fun _ => True) (fun _ _ _ => trivial) [75, 76, 77] (fun _ => true) (fun x => L2.T (js [z1, z2] none (some (c % 3)) ++ [x] ++ js [z1, z2] (some (c % 3)) none)) (fun R r => r) (by decide) (by show 3 <= sizeLine; omega) (fun c _ H R _ r => r) (fun x _ _ H R _ r => ?_) (fun D hD => ?_)
  . walk_at "rd"
    exact ⟨by walk_at "om", by omega, by walk_at "om", by rw [List.length_append, List.length_singleton]; omega, r⟩
  . refine k D _ ([75, 76, 77].map fun x => js [z1, z2] none (some (c % 3)) ++ [x] ++ js [z1, z2] (some (c % 3)) none) (aq _ hD) (az hN rfl) hD ad rfl fun l m => ?_
    obtain ⟨x, mx, rfl⟩ := List.mem_map.mp m
    have hx : 65 <= x /\ x <= 90 := (show ∀ x ∈ ([75, 76, 77] : List Nat), 65 <= x /\ x <= 90 by decide) x mx
    unfold cur lie
    rw [decide_eq_true (by rw [List.length_append, List.length_append, List.length_singleton]; omega), Bool.true_and, List.all_eq_true]
    intro y my
    have : 65 <= y /\ y <= 90 := by
      rcases List.mem_append.mp my with my | my
      . rcases List.mem_append.mp my with my | my
        . exact up y (nR my)
        . rw [List.mem_singleton.mp my]; exact hx
      . exact up y (nR my)
    rw [decide_eq_true this.1, decide_eq_true this.2]; rfl
end
open PySem L2 K19
section
variable {P : Program} {w : World} {K : PySem.W.Frag} {mg : Str -> Option Value} {base : Heap} {a : Adr}
open K3
theorem oN {l : List Nat} (h : nm l = true) : 58 ∉ l := fun m => by have := (om h).2.2 58 m; omega
structure POk (l : List Nat) : Prop where
  pn : lK l = true
  lo : ∀ c ∈ l, c < 128
  ln : l.length + 1 <= 13 * (spN 58 l).length
theorem POk.len {l : List Nat} (h : POk l) : l.length <= 100 := by
  have := h.pn
  unfold lK at this
  simp only [Bool.and_eq_true, decide_eq_true_eq] at this
  have := h.ln
  omega
theorem POk.top {l : List Nat} (hl : nm l = true) : POk l := by
  have e := lJ 58 _ (oN hl)
  obtain ⟨h1, h2, h3⟩ := om hl
  refine ⟨?_, fun x hx => by have := h3 x hx; omega, by rw [e]; simp; omega⟩
  unfold lK
  rw [e]
  simp [hl]
theorem POk.ext {u n : List Nat} (hn : nm n = true) (h : POk u) (l5 : (spN 58 u).length <= 5) : POk (u ++ 58 :: n) := by
  have e := gj (v := u) (oN hn)
  obtain ⟨h1, h2, h3⟩ := om hn
  have hp := h.pn
  unfold lK at hp
  simp only [Bool.and_eq_true, decide_eq_true_eq] at hp
  refine ⟨?_, fun x hx => ?_, ?_⟩
  . unfold lK
    rw [e, List.length_append, List.all_append]
    simp only [Bool.and_eq_true, decide_eq_true_eq]
    exact ⟨⟨by omega, by simp; omega⟩, hp.2, by simp [hn]⟩
  . rcases List.mem_append.mp hx with m | m
    . exact h.lo x m
    . rcases List.mem_cons.mp m with rfl | m
      . decide
      . have := h3 x m; omega
  . have := h.ln
    rw [e, List.length_append, List.length_append, List.length_singleton, List.length_cons]
    omega
structure Ok1 (as : List La) (x : La) : Prop where
  nw : ∀ y ∈ as, y.pa ≠ x.pa
  po : POk x.pa
  ki : x.ki ∈ KDS
  fi : 0 <= x.fi /\ x.fi <= 10
  un : ∀ t, x.un = some t -> 10 < t /\ t <= 146096
  cu : ∀ l, x.cu = some l -> cur l = true
  st : (nm x.pa = true /\ x.fi = 0 /\ x.un = none) \/ (∃ u n, u ∈ as /\ x.pa = u.pa ++ 58 :: n /\ 58 ∉ n /\ u.un = none /\ u.fi <= x.fi /\ x.ki = u.ki)
def AsOk (as : List La) : Prop := ∀ i x, as[i]? = some x -> Ok1 (as.take i) x
theorem AsOk.snoc {as : List La} {x : La} (h : AsOk as) (hx : Ok1 as x) : AsOk (as ++ [x]) := fun i y e => by
  rcases Nat.lt_trichotomy i as.length with l | l | l
  . rw [List.getElem?_append_left l] at e
    rw [List.take_append_of_le_length (by omega)]
    exact h i y e
  . subst l
    rw [List.getElem?_append_right (Nat.le_refl _), Nat.sub_self] at e
    cases e
    rw [List.take_left']
    . exact hx
    . rfl
  . rw [List.getElem?_append_right (by omega), show i - as.length = (i - as.length - 1) + 1 by omega] at e
    cases e
theorem AsOk.nd {as : List La} (h : AsOk as) : (as.map (·.pa)).Nodup := by
  rw [List.nodup_iff_pairwise_ne]
  refine List.pairwise_iff_getElem.mpr fun i j hi hj hij e => ?_
  rw [List.length_map] at hi hj
  rw [List.getElem_map, List.getElem_map] at e
  have o := h j as[j] (by simp)
  refine o.nw as[i] ?_ e
  rw [List.mem_iff_getElem]
  exact ⟨i, by rw [List.length_take]; omega, by rw [List.getElem_take]⟩
structure As8 (as : List La) : Prop where
  ok : AsOk as
  len : as.length <= 8
  own : ∃ x ∈ as, x.cu = none /\ x.fi = 0 /\ x.un = none /\ x.ki = [111, 119, 110]
def P8 (n : Nat -> List Nat) : List (List Nat) := [n 0, n 1, n 3, n 0 ++ 58 :: n 2, n 0 ++ 58 :: n 3, n 1 ++ 58 :: n 2, n 3 ++ 58 :: n 4, (n 0 ++ 58 :: n 2) ++ 58 :: n 0]
theorem B1 {l : List Nat} (h : 58 ∉ l) : spN 58 l = [l] := lJ 58 _ h
theorem EN {n : Nat -> List Nat} (hn : ∀ i, i < 5 -> 58 ∉ n i) (ne : ∀ i j, i < j -> j < 5 -> n i ≠ n j) : (P8 n).Nodup := by
  have key : ((P8 n).map (spN 58)).Nodup := by
    have h0 := hn 0 (by decide); have h1 := hn 1 (by decide); have h2 := hn 2 (by decide); have h3 := hn 3 (by decide); have h4 := hn 4 (by decide)
    have e : (P8 n).map (spN 58) = [[n 0], [n 1], [n 3], [n 0, n 2], [n 0, n 3], [n 1, n 2], [n 3, n 4], [n 0, n 2, n 0]] := by
      unfold P8
      simp only [List.map_cons, List.map_nil, gj h0, gj h2, gj h3, gj h4, B1 h0, B1 h1, B1 h3, List.cons_append, List.nil_append]
    rw [e]
    have a01 := ne 0 1 (by decide) (by decide)
    have a03 := ne 0 3 (by decide) (by decide)
    have a13 := ne 1 3 (by decide) (by decide)
    have a23 := ne 2 3 (by decide) (by decide)
    have a31 := Ne.symm a13
    simp [a01, a03, a13, a23, a31, Ne.symm a01, Ne.symm a03]
  exact (List.pairwise_map.mp key).imp fun h e => h (by rw [e])
theorem wP {as : List La} {x : La} (h : ∀ y ∈ as, y.pa ≠ x.pa) : fU (as.map kyL) (.inr ⟨⟨x.pa⟩⟩) (.ref x.ls) = (as ++ [x]).map kyL := by
  rw [tT, List.map_append]
  . rfl
  . induction as with
    | nil => rfl
    | cons y r ih => rw [List.map_cons, bY (fun z => h y (.head _) (by simpa [kyL] using z)), ih fun z m => h z (.tail _ m)]
structure AF (n : Nat -> List Nat) (as : List La) (m : Nat) : Prop where
  pa : as.map (·.pa) = (P8 n).take m
  ok : AsOk as
  fi : ∀ x ∈ as, x.fi <= m
  un : ∀ j u, j <= 3 -> as[j]? = some u -> u.un = none
  ow : 2 <= m -> ∃ x ∈ as, x.cu = none /\ x.fi = 0 /\ x.un = none /\ x.ki = [111, 119, 110]
  le : m <= 8
structure NF (n : Nat -> List Nat) : Prop where
  n_ : ∀ i, i < 5 -> nm (n i) = true
  nd : (P8 n).Nodup
  po : ∀ l ∈ P8 n, POk l
theorem NF.of {ls : List (List Nat)} (h : NmOk ls) : NF fun i => ls.getD i [] := by
  have hl := h.len
  have e : ∀ i, i < 5 -> ls.getD i [] ∈ ls := fun i hi => by
    have : i < ls.length := by omega
    simp [List.getD, List.getElem?_eq_getElem this]
  have a : ∀ i, i < 5 -> nm (ls.getD i []) = true := fun i hi => h.nm _ (e i hi)
  refine ⟨a, EN (fun i hi => oN (a i hi)) fun i j hij hj q => ?_, fun l m => ?_⟩
  . have hi2 : i < ls.length := by omega
    have hj2 : j < ls.length := by omega
    simp only [List.getD, List.getElem?_eq_getElem hi2, List.getElem?_eq_getElem hj2, Option.getD_some] at q
    have := List.pairwise_iff_getElem.mp h.nd i j hi2 hj2 hij
    exact this q
  . have t := fun i hi => POk.top (a i hi)
    have l1 : ∀ i, i < 5 -> (spN 58 (ls.getD i [])).length = 1 := fun i hi => by rw [B1 (oN (a i hi))]; rfl
    have x := fun i j hi hj => (t i hi).ext (a j hj) (by rw [l1 i hi]; decide)
    unfold P8 at m
    simp only [List.mem_cons, List.not_mem_nil, or_false] at m
    rcases m with rfl | rfl | rfl | rfl | rfl | rfl | rfl | rfl
    . exact t 0 (by decide)
    . exact t 1 (by decide)
    . exact t 3 (by decide)
    . exact x 0 2 (by decide) (by decide)
    . exact x 0 3 (by decide) (by decide)
    . exact x 1 2 (by decide) (by decide)
    . exact x 3 4 (by decide) (by decide)
    . exact (x 0 2 (by decide) (by decide)).ext (a 0 (by decide)) (by rw [gj (oN (a 2 (by decide))), List.length_append, l1 0 (by decide)]; show 1 + 1 <= 5; decide)
section
variable {n : Nat -> List Nat} {as : List La} {m : Nat} {x : La}
theorem AF.len (h : AF n as m) : as.length = m := by
  have := congrArg List.length h.pa
  rw [List.length_map, List.length_take] at this
  have l8 : (P8 n).length = 8 := rfl
  have := h.le
  omega
theorem AF.nw (h : AF n as m) (hn : NF n) (hx : (P8 n)[m]? = some x.pa) : ∀ y ∈ as, y.pa ≠ x.pa := fun y my e => by
  have : y.pa ∈ (P8 n).take m := h.pa ▸ List.mem_map_of_mem my
  obtain ⟨i, hi, ei⟩ := List.mem_iff_getElem.mp this
  rw [List.length_take] at hi
  rw [List.getElem_take] at ei
  obtain ⟨hm, em⟩ := List.getElem?_eq_some_iff.mp hx
  have := List.pairwise_iff_getElem.mp hn.nd i m (by omega) hm (by omega)
  exact this (ei.trans (e.trans em.symm))
theorem AF.snoc (h : AF n as m) (hx : (P8 n)[m]? = some x.pa) (o : Ok1 as x) (fi : x.fi <= m + 1) (hu : m <= 3 -> x.un = none) (hw : m = 1 -> x.cu = none /\ x.fi = 0 /\ x.un = none /\ x.ki = [111, 119, 110]) : AF n (as ++ [x]) (m + 1) := by
  have l8 : (P8 n).length = 8 := rfl
  have hm := (List.getElem?_eq_some_iff.mp hx).1
  have ln := h.len
  refine ⟨?_, h.ok.snoc o, fun y my => ?_, fun j u hj e => ?_, fun m2 => ?_, by omega⟩
  . rw [List.map_append, h.pa, List.take_succ, hx]; rfl
  . rcases List.mem_append.mp my with my | my
    . have := h.fi y my; omega
    . rw [List.mem_singleton.mp my]; omega
  . rcases Nat.lt_trichotomy j as.length with l | l | l
    . rw [List.getElem?_append_left l] at e
      exact h.un j u hj e
    . subst l
      rw [List.getElem?_append_right (Nat.le_refl _), Nat.sub_self] at e
      cases e
      exact hu (by omega)
    . rw [List.getElem?_append_right (by omega), show j - as.length = (j - as.length - 1) + 1 by omega] at e
      cases e
  . by_cases m1 : m = 1
    . exact ⟨x, List.mem_append_right _ (List.mem_singleton.mpr rfl), hw m1⟩
    . obtain ⟨y, my, hy⟩ := h.ow (by omega)
      exact ⟨y, List.mem_append_left _ my, hy⟩
theorem AF.at_ (h : AF n as m) {j : Nat} {p : List Nat} (hj : j < m) (e : (P8 n)[j]? = some p) : ∃ u, as[j]? = some u /\ u.pa = p := by
  have := congrArg (·[j]?) h.pa
  rw [List.getElem?_map, List.getElem?_take, if_pos hj, e] at this
  cases e2 : as[j]? with
  | none => rw [e2] at this; cases this
  | some u => rw [e2] at this; exact ⟨u, rfl, Option.some.inj this⟩
end
end
open PySem L2 K19
section
variable {P : Program} {w : World} {K : PySem.W.Frag} {mg : Str -> Option Value} {base : Heap} {a : Adr}
open K3
theorem dS {H : Hp} {p : Addr} (o : HO) (h : H p = none) (n : NoT H) (f : jI o = true) : ∃ G, upd H p o = G /\ Same H G /\ G p = some o /\ NoT G := ⟨_, rfl, aq _ h, ad, az n f⟩
abbrev sgA (sc pn pc : Addr) (c : Int) (pk pt d : Addr) (x7 x8 x9 x10 x11 x12 : Option V) : St := [some (.ref sc), some (.ref pn), some (.ref pc), some (.int c), some (.ref pk), some (.ref pt), some (.ref d), x7, x8, x9, x10, x11, x12]
def FT : Stmt -> List Stmt
  | .For _ _ b _ _ => b
  | _ => []
noncomputable abbrev Ay : List Stmt := FT ((aA aO).getD 8 (.Pass ⟨0, 0, 0, 0⟩))
theorem Fo {c0 c1 : List Nat} {H : Hp} {Q : VK} {i : Int} (h0 : 0 <= i) (h1 : i < 4) (q : ∀ cu, (cu = none \/ cu = some c0 \/ cu = some c1) -> Q (cuV cu) H) : ko [V.non, V.non, L2.T c0, L2.T c1] H H Q (.int i) := by
  obtain ⟨j, rfl⟩ : ∃ j : Nat, i = j := ⟨i.toNat, by omega⟩
  unfold ko
  rcases (by omega : j = 0 \/ j = 1 \/ j = 2 \/ j = 3) with rfl | rfl | rfl | rfl
  . exact q none (.inl rfl)
  . exact q none (.inl rfl)
  . exact q (some c0) (.inr (.inl rfl))
  . exact q (some c1) (.inr (.inr rfl))
theorem bA4 (T : Txt K mg a) {cdv : Value} {A : Around} {outer : List Env} {s : Shared} {H : Hp} {E : XK} (hr : Room 2 (A.deeper (PyProof.Rows.envOfC "_law_accounts" (ag aO) s.heap.objs.size a.bx cdv))) : ∃ u, PSs (eL (XE P w) P w K mg base ["_law_script", "_law_names_here", "_law_currencies_here", "_law_cell", "_law_kinds", "_law_tops", "_law_accounts_here", "_law_k", "_law_some", "_law_more", "_law_upper", "_law_until", "_law_currency"] "_law_accounts" (ag aO) a.bx cdv A outer s H E) (List.drop 4 Ay) u /\
    ∀ (D : fq) sc pn pc c pk pt d (i : Int) p5 (mo : Int) uls (un : Option Int) x12 (cy : List (List Nat)) svs q up (x : Nat) (xs : List V) nx kvs ucu (ufi : Int) uun uki G, NoT G -> G pc = some (.lst (cy.map L2.T)) -> cy.length = 3 -> (∀ l ∈ cy, cur l = true) -> G uls = some (.lst [ucu, .int ufi, uun, L2.T uki]) -> G p5 = some (.lst svs) -> atI svs i = some (.ref q) -> G q = some (.tup [L2.T up, .int (x : Int)]) -> G pn = some (.lst xs) -> atI xs (x : Int) = some (L2.T nx) -> up.length <= 100 -> nx.length <= 12 -> G d = some (.dK kvs) -> kvs.length <= 100 ->
      (∀ x12 p cu, (∀ l, cu = some l -> cur l = true) -> G p = none -> D.nx (sgA sc pn pc c pk pt d (some (.int i)) (some (.ref p5)) (some (.int mo)) (some (.ref uls)) (some (cl un)) x12) (upd (upd G p (.lst [cuV cu, .int (ufi + mo / 28 % 2), cl un, L2.T uki])) d (.dK (fU kvs (.inr ⟨⟨up ++ [58] ++ nx⟩⟩) (.ref p))))) ->
      u D (sgA sc pn pc c pk pt d (some (.int i)) (some (.ref p5)) (some (.int mo)) (some (.ref uls)) (some (cl un)) x12) G := by
  have sz := szl
  have ND := dm.nd
  have HU := bf hr
  refine ⟨_, (ai (aM (i := 12) ND rfl (Or.inl rfl) (ku (FA.pa (aa fL (aa fL (aa (aU (aC K) (fv 2) ae (fun _ _ => rfl)) (aa (aU (aC K) (fv 2) ae (fun _ _ => rfl)) ah))))) (al bz (al bg (fv 9) ae) ae) (fun _ _ => rfl)))
      (ak (gm (Nat.lt_of_le_of_lt (Nat.add_le_add_left (by decide) _) HU) (fv 6) (al aJ (al aJ (aU (aC K) (aU (aC K) (fv 8) (fv 7) (fun _ _ => rfl)) ae (fun _ _ => rfl)) (aE [58])) (aU (aC K) (fv 1) (aU (aC K) (aU (aC K) (fv 8) (fv 7) (fun _ _ => rfl)) ae (fun _ _ => rfl)) (fun _ _ => rfl))) (dH (FA.pa (aa (fv 12) (aa (al aJ (aU (aC K) (fv 10) ae (fun _ _ => rfl)) (al bz (al bg (fv 9) ae) ae)) (aa (fv 11) (aa (aU (aC K) (fv 10) ae (fun _ _ => rfl)) ah)))))) rfl))), fun D sc pn pc c pk pt d i p5 mo uls un x12 cy svs q up x xs nx kvs ucu ufi uun uki G nG hpc lcy ccy hu h5 e5 hq hpn ex lup lnx hd lkv k => ?_⟩
  obtain ⟨c0, c1, c2, rfl⟩ : ∃ c0 c1 c2, cy = [c0, c1, c2] := by
    match cy, lcy with
    | [c0, c1, c2], _ => exact ⟨c0, c1, c2, rfl⟩
  walk_at "rd"
  refine ⟨nG, _, _, .inl (SqL.of hpc), aD (j := 0) rfl, _, _, .inl (SqL.of hpc), aD (j := 1) rfl, by walk_at "om", fun p _ => Fo (by omega) (by omega) fun cu hcu => ?_⟩
  refine ⟨_, _, .inl (SqL.of hu), aD (j := 1) rfl, ?_⟩
  walk_at "rd"
  refine ⟨_, _, .inl (SqL.of hu), aD (j := 3) rfl, by walk_at "om", fun p1 hp1 => ?_⟩
  obtain ⟨G1, e1, s1, g1, N1⟩ := dS (HO.lst [cuV cu, V.int (ufi + mo / 28 % 2), cl un, L2.T uki]) hp1 nG rfl
  have k1 := k
  rw [e1]
  refine ⟨_, _, .inl (SqL.of (s1 _ _ h5)), e5, ?_⟩
  walk_at "rd"
  refine ⟨_, _, .inr (SqT.of (s1 _ _ hq)), aD (j := 0) rfl, ?_⟩
  walk_at "rd"
  refine ⟨by omega, _, _, .inl (SqL.of (s1 _ _ h5)), e5, ?_⟩
  walk_at "rd"
  refine ⟨_, _, .inr (SqT.of (s1 _ _ hq)), aD (j := 1) rfl, ?_⟩
  walk_at "rd"
  refine ⟨_, _, .inl (SqL.of (s1 _ _ hpn)), ex, ?_⟩
  walk_at "rd"
  refine ⟨by rw [List.length_append]; show up.length + 1 + _ <= _; omega, d, _, rfl, DPut.k (k := .inr ⟨⟨up ++ [58] ++ nx⟩⟩) (s1 _ _ hd) (by rw [sizeLine_eq]; omega), ?_⟩
  rw [<- e1]
  refine k _ p1 cu (fun l e => ?_) hp1
  rcases hcu with h | h | h
  . rw [h] at e; cases e
  . rw [h] at e; cases e; exact ccy _ (.head _)
  . rw [h] at e; cases e; exact ccy _ (.tail _ (.head _))
theorem bA0 (T : Txt K mg a) {cdv : Value} {A : Around} {outer : List Env} {s : Shared} {H : Hp} {E : XK} (hr : Room 2 (A.deeper (PyProof.Rows.envOfC "_law_accounts" (ag aO) s.heap.objs.size a.bx cdv))) {u4 : TS} (hu4 : PSs (eL (XE P w) P w K mg base ["_law_script", "_law_names_here", "_law_currencies_here", "_law_cell", "_law_kinds", "_law_tops", "_law_accounts_here", "_law_k", "_law_some", "_law_more", "_law_upper", "_law_until", "_law_currency"] "_law_accounts" (ag aO) a.bx cdv A outer s H E) (List.drop 4 Ay) u4) : ∃ ub : TS, PSs (eL (XE P w) P w K mg base ["_law_script", "_law_names_here", "_law_currencies_here", "_law_cell", "_law_kinds", "_law_tops", "_law_accounts_here", "_law_k", "_law_some", "_law_more", "_law_upper", "_law_until", "_law_currency"] "_law_accounts" (ag aO) a.bx cdv A outer s H E) Ay ub /\
    ∀ (D : fq) sc pn pc c pk pt d (i : Int) p5 x9 x10 x11 x12 svs q up (x : Int) (ns : List Int) kvs uls ucu (ufi : Int) uun uki G, SqL K G sc (ns.map V.int) -> 0 <= i -> G p5 = some (.lst svs) -> atI svs i = some (.ref q) -> G q = some (.tup [L2.T up, .int x]) -> G d = some (.dK kvs) -> eg kvs (.inr ⟨⟨up⟩⟩) = some (.ref uls) -> G uls = some (.lst [ucu, .int ufi, uun, L2.T uki]) -> 0 <= ufi -> ufi <= 10 ->
      (∀ mo un, (∀ t, un = some t -> 10 < t /\ t <= 146096) -> (i = 0 -> un = none) -> u4 D (sgA sc pn pc c pk pt d (some (.int i)) (some (.ref p5)) (some (.int mo)) (some (.ref uls)) (some (cl un)) x12) G) ->
      ub D (sgA sc pn pc c pk pt d (some (.int i)) (some (.ref p5)) x9 x10 x11 x12) G := by
  have sz := szl
  have ND := dm.nd
  have HU := bf hr
  have G__law_base := hX (P := P) (w := w) (base := base) T
  have b__law_base := hE T.de
  have G__law_cell_at := bW (P := P) (w := w) (base := base) T
  have b__law_cell_at := bV T.aI
  refine ⟨_, (ai (aM (i := 9) ND rfl (Or.inl rfl) (au G__law_cell_at (hr.mono (by decide)) rfl T.aX T.aI.kp b__law_cell_at .nil aK (FA.pa (aa (fv 0) (aa (al aJ ae (fv 7)) ah)))))
      (ai (aM (i := 10) ND rfl (Or.inl rfl) (cx (Nat.lt_of_le_of_lt (Nat.add_le_add_left (by decide) _) HU) (fv 6) (aU (aC K) (aU (aC K) (fv 8) (fv 7) (fun _ _ => rfl)) ae (fun _ _ => rfl)) (fun _ _ => rfl)))
      (ai (aM (i := 11) ND rfl (Or.inl rfl) fL)
      (ai (cG (L2.PW.pt (vE (bK (jK K HU) (al bz (fv 9) ae) ae (bF _)) (r9 (bK (hZ K HU) (fv 7) ae (bF _))))) (ak (aM (i := 11) ND rfl (Or.inl rfl) (al aJ (al aJ (al aJ (aU (aC K) (fv 10) ae (fun _ _ => rfl)) ae) (aQ (AQ rfl) rfl T.Cg yQ (FA.pa (aa ae (aa (al fR (au G__law_base (hr.mono (by decide)) rfl T.iR T.de.kp b__law_base .nil aK (FA.pa (aa (fv 0) ah))) (aU (aC K) (fv 10) ae (fun _ _ => rfl))) ah))))) (al bz (al bg (fv 9) ae) ae)))) bn)
      hu4)))), fun D sc pn pc c pk pt d i p5 x9 x10 x11 x12 svs q up x ns kvs uls ucu ufi uun uki G hS i0 h5 e5 hq hd hv hu f0 f1 k => ?_⟩
  have dget := DGet.k (k := .inr ⟨⟨up⟩⟩) hd
  rw [hv] at dget
  walk_at "rd"
  refine ⟨ns, hS, by omega, fun mo => ⟨_, _, .inl (SqL.of h5), e5, ?_⟩⟩
  walk_at "rd"
  refine ⟨_, _, .inr (SqT.of hq), aD (j := 0) rfl, ?_⟩
  walk_at "rd"
  refine ⟨d, _, rfl, dget, ?_⟩
  by_cases m1 : mo % 4 = 1
  . refine itp m1 ?_
    by_cases i1 : i = 0
    . exact itp i1 (k mo none (fun t e => nomatch e) fun _ => rfl)
    . refine itn i1 ?_
      walk_at "rd"
      refine ⟨_, _, .inl (SqL.of hu), aD (j := 1) rfl, ?_⟩
      walk_at "rd"
      refine ⟨ns, hS, fun bs b0 b1 => ⟨_, _, .inl (SqL.of hu), aD (j := 1) rfl, ?_⟩⟩
      walk_at "rd"
      refine k mo (some _) (fun t e => ?_) fun z => absurd z i1
      cases e
      split <;> omega
  . exact itn m1 (k mo none (fun t e => nomatch e) fun _ => rfl)
end
open PySem L2 K19
section
variable {P : Program} {w : World} {K : PySem.W.Frag} {mg : Str -> Option Value} {base : Heap} {a : Adr}
open K3
theorem AM {ls : List (List Nat)} (nok : NmOk ls) (i : Nat) (hi : i < 5) : atI (ls.map L2.T) (i : Int) = some (L2.T (ls.getD i [])) := aD (by
  have : i < ls.length := by rw [nok.len]; exact hi
  rw [List.getElem?_map, List.getElem?_eq_getElem this]; simp [List.getD, List.getElem?_eq_getElem this])
def sp_t7 (K : PySem.W.Frag) : Sp := sp1 fun x H Q _ => NoT H /\ asR x fun sc => ∃ ns : List Int, SqL K H sc (ns.map V.int) /\ ∀ d as H', Same H H' -> NoT H' -> H d = none -> H' d = some (.dK (as.map kyL)) -> AcAt H' d as -> As8 as -> Q (.ref d) H'
theorem lW (T : Txt K mg a) : bw P w K mg base (XE P w) 3 a.bx a.g9 ["_law_script"] (sp_t7 K) := by
  refine T.eJ.okX dm (fun vs H Q E h => sp1.len h) (fun cdv A outer s H vs Q E hr h => ?_)
  obtain ⟨x0, rfl, h⟩ := sp1.inv h
  try dsimp only [sp_t7, sp1] at h
  have ND := dm.nd
  have HU := bf hr
  obtain ⟨hN, h1⟩ := h
  obtain ⟨sc, rfl, ns, hS, k⟩ := asR.inv h1
  have sz := szl
  have G__law_cell_at := bW (P := P) (w := w) (base := base) T
  have b__law_cell_at := bV T.aI
  have G__law_currencies := fQ (P := P) (w := w) (base := base) T
  have b__law_currencies := f_ T.ck
  have G__law_names := pO (P := P) (w := w) (base := base) T
  have b__law_names := pL T.hU
  obtain ⟨u4, hu4, k4⟩ := bA4 (P := P) (w := w) (base := base) T (cdv := cdv) (A := A) (outer := outer) (s := s) (H := H) (E := E) hr
  obtain ⟨ub, hub, kb⟩ := bA0 T hr hu4
  have c7 : ∃ u, PSs (eL (XE P w) P w K mg base ["_law_script", "_law_names_here", "_law_currencies_here", "_law_cell", "_law_kinds", "_law_tops", "_law_accounts_here", "_law_k", "_law_some", "_law_more", "_law_upper", "_law_until", "_law_currency"] "_law_accounts" (ag aO) a.bx cdv A outer s H E) (List.drop 7 (aA aO)) u /\ ∀ pn pc c pk pt d x7 (ls cy : List (List Nat)) (as : List La) H1, H1 pn = some (.lst (ls.map L2.T)) -> NmOk ls -> H1 pc = some (.lst (cy.map L2.T)) -> cy.length = 3 -> (∀ l ∈ cy, cur l = true) -> H1 pt = some (.lst [L2.T (ls.getD 0 []), L2.T (ls.getD 1 []), L2.T (ls.getD 3 [])]) -> H1 d = some (.dK (as.map kyL)) -> (∀ x ∈ as, H1 x.ls = some (.lst [cuV x.cu, .int x.fi, cl x.un, L2.T x.ki])) -> AF (fun i => ls.getD i []) as 3 -> Same H H1 -> NoT H1 -> H d = none ->
      u { nx := fun _ H' => Q .non H', rt := Q } (sgA sc pn pc c pk pt d x7 none none none none none) H1 := by
    refine ⟨_, (ai (aM (i := 8) ND rfl (Or.inl rfl) (dH (FA.pa (aa (bR (FA.pa (aa (aU (aC K) (fv 5) ae (fun _ _ => rfl)) (aa ae ah)))) (aa (bR (FA.pa (aa (aU (aC K) (fv 5) ae (fun _ _ => rfl)) (aa ae ah)))) (aa (bR (FA.pa (aa (aU (aC K) (fv 5) ae (fun _ _ => rfl)) (aa ae ah)))) (aa (bR (FA.pa (aa (aU (aC K) (fv 5) ae (fun _ _ => rfl)) (aa ae ah)))) (aa (bR (FA.pa (aa (al aJ (al aJ (aU (aC K) (fv 5) ae (fun _ _ => rfl)) (aE [58])) (aU (aC K) (fv 1) ae (fun _ _ => rfl))) (aa ae ah)))) ah))))))))
      (ai (d8 (by passes_own) rfl (gS rfl T.jj (FA.pa (aa ae ah))) (aN (i := 7) ND rfl (Or.inl rfl)) hub)
      (ak (aT (fv 6))))), fun pn pc c pk pt d x7 ls cy as H1 hpn nok hpc lcy ccy hpt hd hls F s1 N1 hd0 => ?_⟩
    have NFn := NF.of nok
    have l5 := nok.len
    have at5 : ∀ i : Nat, i < 5 -> atI (ls.map L2.T) (i : Int) = some (L2.T (ls.getD i [])) := fun i hi => aD (by
      have : i < ls.length := by omega
      rw [List.getElem?_map, List.getElem?_eq_getElem this]; simp [List.getD, List.getElem?_eq_getElem this])
    generalize hn : (fun i => ls.getD i []) = n at F NFn
    have en : ∀ i, ls.getD i [] = n i := fun i => congrFun hn i
    simp only [en] at hpt at5 ⊢
    have pl : ∀ l ∈ P8 n, l.length <= 100 := fun l m => (NFn.po l m).len
    have nl : ∀ i : Nat, i < 5 -> (n i).length <= 12 := fun i hi => (om (NFn.n_ i hi)).2.1
    walk_at "rd"
    refine ⟨_, _, .inl (SqL.of hpt), aD (j := 0) rfl, by walk_at "om", fun p0 h0 => ?_⟩
    obtain ⟨G0, e0, s0, g0, N0⟩ := dS (HO.tup [L2.T (n 0), V.int 2]) h0 N1 rfl
    rw [e0]
    refine ⟨_, _, .inl (SqL.of (s0 _ _ hpt)), aD (j := 0) rfl, by walk_at "om", fun p1 h1 => ?_⟩
    obtain ⟨G1, e1, s11, g1, N11⟩ := dS (HO.tup [L2.T (n 0), V.int 3]) h1 N0 rfl
    rw [e1]
    have s01 := s0.trans s11
    refine ⟨_, _, .inl (SqL.of (s01 _ _ hpt)), aD (j := 1) rfl, by walk_at "om", fun p2 h2 => ?_⟩
    obtain ⟨G2, e2, s12, g2, N12⟩ := dS (HO.tup [L2.T (n 1), V.int 2]) h2 N11 rfl
    rw [e2]
    have s02 := s01.trans s12
    refine ⟨_, _, .inl (SqL.of (s02 _ _ hpt)), aD (j := 2) rfl, by walk_at "om", fun p3 h3 => ?_⟩
    obtain ⟨G3, e3, s13, g3, N13⟩ := dS (HO.tup [L2.T (n 3), V.int 4]) h3 N12 rfl
    rw [e3]
    have s03 := s02.trans s13
    refine ⟨_, _, .inl (SqL.of (s03 _ _ hpt)), aD (j := 0) rfl, ?_⟩
    have n0 := nl 0 (by decide)
    have n2 := nl 2 (by decide)
    walk_at "rd"
    refine ⟨by omega, _, _, .inl (SqL.of (s03 _ _ hpn)), at5 2 (by decide), ?_⟩
    walk_at "rd"
    refine ⟨by rw [List.length_append]; show (n 0).length + 1 + _ <= _; omega, by walk_at "om", fun p4 h4 => ?_⟩
    obtain ⟨G4, e4, s14, g4, N14⟩ := dS (HO.tup [L2.T (n 0 ++ [58] ++ n 2), V.int 0]) h4 N13 rfl
    rw [e4]
    refine ⟨by walk_at "om", fun p5 h5 => ?_⟩
    obtain ⟨G5, e5, s15, g5, N15⟩ := dS (HO.lst [V.ref p0, V.ref p1, V.ref p2, V.ref p3, V.ref p4]) h5 N14 rfl
    rw [e5]
    have s45 := s14.trans s15
    have s05 := s03.trans s45
    have tab : ∀ i : Nat, i < 5 -> ∃ q up x j, atI [V.ref p0, V.ref p1, V.ref p2, V.ref p3, V.ref p4] (0 + (i : Int)) = some (.ref q) /\ G5 q = some (.tup [L2.T up, .int ((x : Nat) : Int)]) /\ x < 5 /\ j <= 3 /\ j < 3 + i /\ (P8 n)[j]? = some up /\ (P8 n)[3 + i]? = some (up ++ 58 :: n x) := fun i hi => by
      rw [Int.zero_add]
      rcases (by omega : i = 0 \/ i = 1 \/ i = 2 \/ i = 3 \/ i = 4) with rfl | rfl | rfl | rfl | rfl
      . exact ⟨p0, n 0, 2, 0, aD rfl, (s11.trans (s12.trans (s13.trans s45))) _ _ g0, by decide, by decide, by decide, rfl, rfl⟩
      . exact ⟨p1, n 0, 3, 0, aD rfl, (s12.trans (s13.trans s45)) _ _ g1, by decide, by decide, by decide, rfl, rfl⟩
      . exact ⟨p2, n 1, 2, 1, aD rfl, (s13.trans s45) _ _ g2, by decide, by decide, by decide, rfl, rfl⟩
      . exact ⟨p3, n 3, 4, 2, aD rfl, s45 _ _ g3, by decide, by decide, by decide, rfl, rfl⟩
      . refine ⟨p4, n 0 ++ 58 :: n 2, 0, 3, aD rfl, ?_, by decide, by decide, by decide, rfl, rfl⟩
        have := s15 _ _ g4
        rw [List.append_assoc] at this; exact this
    have od : ∀ {p : Addr} {l : List V}, G5 p = some (.lst l) -> p ∉ [d] := fun {p l} e m => by
      rw [List.mem_singleton.mp m, s05 _ _ hd] at e; cases e
    have odt : ∀ {p : Addr} {l : List V}, G5 p = some (.tup l) -> p ∉ [d] := fun {p l} e m => by
      rw [List.mem_singleton.mp m, s05 _ _ hd] at e; cases e
    have hpn5 := s05 _ _ hpn
    have hpc5 := s05 _ _ hpc
    refine iH ?_
    walk_at "rd"
    refine gJ (lo := 0) (n := 5) (fun i σ' G => Keep [d] G5 G /\ NoT G /\ ∃ as x7 x9 x10 x11 x12, G d = some (.dK (as.map kyL)) /\ (∀ x ∈ as, G x.ls = some (.lst [cuV x.cu, .int x.fi, cl x.un, L2.T x.ki])) /\ AF n as (3 + i) /\ σ' = sgA sc pn pc c pk pt d x7 (some (.ref p5)) x9 x10 x11 x12) ⟨Keep.refl, N15, as, _, _, _, _, _, s05 _ _ hd, fun x m => s05 _ _ (hls x m), F, rfl⟩ ?_ ?_
    . rintro i σ' G hi ⟨kp, nG, as, x7, x9, x10, x11, x12, hdG, hlG, FG, rfl⟩
      obtain ⟨q, up, x, j, eq, hq, lx, j3, ji, ej, ex⟩ := tab i hi
      obtain ⟨u, hu, pu⟩ := FG.at_ ji ej
      have mu := List.mem_of_getElem? hu
      have hqG := kp _ _ hq (odt hq)
      have g5G := kp _ _ g5 (od g5)
      have hnG := kp _ _ hpn5 (od hpn5)
      have hcG := kp _ _ hpc5 (od hpc5)
      have sH : Same H G := fun p o e => kp _ _ (s05 _ _ (s1 _ _ e)) (by intro m; rw [List.mem_singleton.mp m, hd0] at e; cases e)
      have hSG := hS.same sH
      have nd := FG.ok.nd
      have dget : DGet G d (L2.T up) (some (.ref u.ls)) := by
        have := DGet.k (k := .inr ⟨⟨u.pa⟩⟩) hdG
        rw [AcAt.val (H := G) (d := d) nd mu] at this
        rw [<- pu]; exact this
      have key : ∀ (D : fq) (mo : Int) un x12, (∀ t, un = some t -> 10 < t /\ t <= 146096) -> (i = 0 -> un = none) -> (∀ σ' G', (Keep [d] G5 G' /\ NoT G' /\ ∃ as x7 x9 x10 x11 x12, G' d = some (.dK (as.map kyL)) /\ (∀ x ∈ as, G' x.ls = some (.lst [cuV x.cu, .int x.fi, cl x.un, L2.T x.ki])) /\ AF n as (3 + (i + 1)) /\ σ' = sgA sc pn pc c pk pt d x7 (some (.ref p5)) x9 x10 x11 x12) -> D.nx σ' G') -> u4 D (sgA sc pn pc c pk pt d (some (.int (0 + (i : Int)))) (some (.ref p5)) (some (.int mo)) (some (.ref u.ls)) (some (cl un)) x12) G := fun D mo un x12 hun hun0 kD => by
        have e58 : up ++ [58] ++ n x = up ++ 58 :: n x := by rw [List.append_assoc]; rfl
        refine k4 D sc pn pc c pk pt d _ p5 mo u.ls un x12 cy _ q up x _ (n x) _ _ u.fi _ u.ki G nG hcG lcy ccy (hlG u mu) g5G eq hqG hnG (at5 x lx) (by rw [<- pu]; exact (NFn.po _ (pu ▸ List.mem_of_getElem? ej)).len) (nl x lx) hdG (by rw [List.length_map]; have := FG.len; omega) fun x12 p cu hcu hp => kD _ _ ?_
        rw [e58]
        have ou := (FG.ok j u hu)
        have X : Ok1 as ⟨up ++ 58 :: n x, cu, u.fi + mo / 28 % 2, un, u.ki, p⟩ := ⟨FG.nw NFn (x := ⟨up ++ 58 :: n x, cu, u.fi + mo / 28 % 2, un, u.ki, p⟩) ex, NFn.po _ (List.mem_of_getElem? ex), ou.ki, ⟨by have := ou.fi; show 0 <= u.fi + mo / 28 % 2; omega, by have := FG.fi u mu; show u.fi + mo / 28 % 2 <= 10; omega⟩, hun, hcu, .inr ⟨u, n x, mu, by rw [pu], oN (NFn.n_ x lx), FG.un j u j3 hu, by show u.fi <= u.fi + mo / 28 % 2; omega, rfl⟩⟩
        rw [wP (x := ⟨up ++ 58 :: n x, cu, u.fi + mo / 28 % 2, un, u.ki, p⟩) X.nw]
        have pd : p ≠ d := Ne.symm (av hdG hp)
        refine ⟨(kp.new hp).put (.head _), az (az nG rfl) rfl, _, _, _, _, _, _, ad, fun y my => ?_, FG.snoc ex X (by have := FG.fi u mu; show u.fi + mo / 28 % 2 <= _; omega) (fun h3 => hun0 (by omega)) (fun h1 => by omega), rfl⟩
        rcases List.mem_append.mp my with my | my
        . have e := hlG y my
          rw [aj (e9 e hdG (by intro z; cases z)), aj (av e hp)]; exact e
        . rw [List.mem_singleton.mp my]
          exact (aj pd).trans ad
      have dget := AcAt.val (H := G) (d := d) nd mu
      rw [pu] at dget
      have ou := (FG.ok j u hu).fi
      walk_at "rd"
      refine kb _ sc pn pc c pk pt d _ p5 _ _ _ _ _ q up x ns _ u.ls _ u.fi _ u.ki G hSG (by omega) g5G eq hqG hdG dget (hlG u mu) ou.1 ou.2 fun mo un h1 h2 => key _ mo un _ h1 (fun z => h2 (by omega)) fun _ _ h => h
    . rintro σ' G ⟨kp, nG, as, x7, x9, x10, x11, x12, hdG, hlG, FG, rfl⟩
      walk_at "rd"
      have sH : Same H G := fun p o e => kp _ _ (s05 _ _ (s1 _ _ e)) (by intro m; rw [List.mem_singleton.mp m, hd0] at e; cases e)
      exact k d as G sH nG hd0 hdG ⟨.inl hdG, hlG⟩ ⟨FG.ok, by have := FG.len; omega, FG.ow (by decide)⟩
  obtain ⟨u7, hu7, c7⟩ := c7
  refine ⟨_, (ai (aM (i := 1) ND rfl (Or.inl rfl) (au G__law_names (hr.mono (by decide)) rfl T.sO T.hU.kp b__law_names .nil aK (FA.pa (aa (au G__law_cell_at (hr.mono (by decide)) rfl T.aX T.aI.kp b__law_cell_at .nil aK (FA.pa (aa (fv 0) (aa ae ah)))) ah))))
      (ai (aM (i := 2) ND rfl (Or.inl rfl) (au G__law_currencies (hr.mono (by decide)) rfl T.gk T.ck.kp b__law_currencies .nil aK (FA.pa (aa (au G__law_cell_at (hr.mono (by decide)) rfl T.aX T.aI.kp b__law_cell_at .nil aK (FA.pa (aa (fv 0) (aa ae ah)))) ah))))
      (ai (aM (i := 3) ND rfl (Or.inl rfl) (al bg (au G__law_cell_at (hr.mono (by decide)) rfl T.aX T.aI.kp b__law_cell_at .nil aK (FA.pa (aa (fv 0) (aa ae ah)))) ae))
      (ai (aM (i := 4) ND rfl (Or.inl rfl) (dH (FA.pa (aa (ku (FA.pa (aa (aE [103, 97, 105, 110]) (aa (aE [99, 111, 115, 116]) (aa (aE [103, 97, 105, 110]) (aa (aE [104, 97, 118, 101]) ah))))) (al bz (fv 3) ae) (fun _ _ => rfl)) (aa (aE [111, 119, 110]) (aa (ku (FA.pa (aa (aE [99, 111, 115, 116]) (aa (aE [111, 119, 101]) (aa (aE [104, 97, 118, 101]) ah)))) (al bz (al bg (fv 3) ae) ae) (fun _ _ => rfl)) ah))))))
      (ai (aM (i := 5) ND rfl (Or.inl rfl) (dH (FA.pa (aa (aU (aC K) (fv 1) ae (fun _ _ => rfl)) (aa (aU (aC K) (fv 1) ae (fun _ _ => rfl)) (aa (aU (aC K) (fv 1) ae (fun _ _ => rfl)) ah))))))
      (ai (aM (i := 6) ND rfl (Or.inl rfl) nM)
      (ai (d8 (by passes_own) rfl (gS rfl T.jj (FA.pa (aa ae ah))) (aN (i := 7) ND rfl (Or.inl rfl)) (ak (gm (Nat.lt_of_le_of_lt (Nat.add_le_add_left (by decide) _) HU) (fv 6) (aU (aC K) (fv 5) (fv 7) (fun _ _ => rfl)) (dH (FA.pa (aa fL (aa ae (aa fL (aa (aU (aC K) (fv 4) (fv 7) (fun _ _ => rfl)) ah)))))) rfl)))
      hu7))))))), ?_⟩
  walk_at "rd"
  refine ⟨ns, hS, hN, fun pn H1 ls s1 N1 hpn0 hpn nok => ⟨ns, hS.same s1, N1, fun pc H2 cy s2 N2 hpc0 hpc lcy ccy => ⟨ns, (hS.same s1).same s2, fun c => ⟨N2, by walk_at "om", fun _ _ => qG (ls := [[103, 97, 105, 110], [99, 111, 115, 116], [103, 97, 105, 110], [104, 97, 118, 101]]) (by omega) (by show _ < (4 : Int); omega) fun k0 mk0 => ?_⟩⟩⟩⟩
  refine ⟨N2, by walk_at "om", fun _ _ => qG (ls := [[99, 111, 115, 116], [111, 119, 101], [104, 97, 118, 101]]) (by omega) (by show _ < (3 : Int); omega) fun k2 mk2 => ?_⟩
  walk_at "rd"
  refine ⟨by walk_at "om", fun pk hpk => ?_⟩
  obtain ⟨G1, e1, s11, g1, N11⟩ := dS (HO.lst [L2.T k0, L2.T [111, 119, 110], L2.T k2]) hpk N2 rfl
  rw [e1]
  have hpn1 := s11 _ _ (s2 _ _ hpn)
  refine ⟨_, _, .inl (SqL.of hpn1), AM nok 0 (by decide), _, _, .inl (SqL.of hpn1), AM nok 1 (by decide), _, _, .inl (SqL.of hpn1), AM nok 3 (by decide), by walk_at "om", fun pt hpt d hd => ?_⟩
  obtain ⟨G2, e2, s12, g2, N12⟩ := dS (HO.lst [L2.T (ls.getD 0 []), L2.T (ls.getD 1 []), L2.T (ls.getD 3 [])]) hpt N11 rfl
  rw [e2] at hd ⊢
  obtain ⟨G3, e3, s13, g3, N13⟩ := dS (HO.dK []) hd N12 rfl
  rw [e3]
  have s23 := s11.trans (s12.trans s13)
  have s03 := s1.trans (s2.trans s23)
  have d0 : H d = none := (s1.trans (s2.trans (s11.trans s12))).free hd
  have NFn := NF.of nok
  have KD : k0 ∈ KDS /\ k2 ∈ KDS := ⟨(show ∀ k ∈ ([[103, 97, 105, 110], [99, 111, 115, 116], [103, 97, 105, 110], [104, 97, 118, 101]] : List (List Nat)), k ∈ KDS by decide) _ mk0, (show ∀ k ∈ ([[99, 111, 115, 116], [111, 119, 101], [104, 97, 118, 101]] : List (List Nat)), k ∈ KDS by decide) _ mk2⟩
  have tab : ∀ i : Nat, i < 3 -> ∃ pa kd, atI [L2.T (ls.getD 0 []), L2.T (ls.getD 1 []), L2.T (ls.getD 3 [])] (0 + (i : Int)) = some (L2.T pa) /\ (P8 fun i => ls.getD i [])[i]? = some pa /\ nm pa = true /\ atI [L2.T k0, L2.T [111, 119, 110], L2.T k2] (0 + (i : Int)) = some (L2.T kd) /\ kd ∈ KDS /\ (i = 1 -> kd = [111, 119, 110]) := fun i hi => by
    rw [Int.zero_add]
    rcases (by omega : i = 0 \/ i = 1 \/ i = 2) with rfl | rfl | rfl
    . exact ⟨_, k0, aD rfl, rfl, NFn.n_ 0 (by decide), aD rfl, KD.1, fun z => by cases z⟩
    . exact ⟨_, _, aD rfl, rfl, NFn.n_ 1 (by decide), aD rfl, (show ([111, 119, 110] : List Nat) ∈ KDS by decide), fun _ => rfl⟩
    . exact ⟨_, k2, aD rfl, rfl, NFn.n_ 3 (by decide), aD rfl, KD.2, fun z => by cases z⟩
  obtain ⟨n, hn⟩ : ∃ n : Nat -> List Nat, n = fun i => ls.getD i [] := ⟨_, rfl⟩
  rw [<- hn] at NFn tab
  have od : ∀ {p : Addr} {l : List V}, G3 p = some (.lst l) -> p ∉ [d] := fun {p l} e m => by
    rw [List.mem_singleton.mp m, g3] at e; cases e
  have g1' := (s12.trans s13) _ _ g1
  have g2' := s13 _ _ g2
  refine iH ?_
  walk_at "rd"
  refine gJ (lo := 0) (n := 3) (fun i σ' G => Keep [d] G3 G /\ NoT G /\ ∃ as x7, G d = some (.dK (as.map kyL)) /\ (∀ x ∈ as, G x.ls = some (.lst [cuV x.cu, .int x.fi, cl x.un, L2.T x.ki])) /\ AF n as i /\ σ' = sgA sc pn pc (c / 200) pk pt d x7 none none none none none) ⟨Keep.refl, N13, [], _, g3, (fun _ m => nomatch m), ⟨rfl, (fun _ _ e => nomatch e), (fun _ m => nomatch m), (fun _ _ _ e => nomatch e), (fun z => absurd z (by decide)), by decide⟩, rfl⟩ ?_ ?_
  . rintro i σ' G hi ⟨kp, nG, as, x7, hdG, hlG, FG, rfl⟩
    obtain ⟨pa, kd, t1, t2, t3, t4, t5, t6⟩ := tab i hi
    walk_at "rd"
    refine ⟨_, _, .inl (SqL.of (kp _ _ g1' (od g1'))), t4, by walk_at "om", fun p hp => ?_⟩
    refine ⟨_, _, .inl (SqL.of ((aj (av (kp _ _ g2' (od g2')) hp)).trans (kp _ _ g2' (od g2')))), t1, ?_⟩
    have X : Ok1 as ⟨pa, none, 0, none, kd, p⟩ := ⟨FG.nw NFn (x := ⟨pa, none, 0, none, kd, p⟩) t2, NFn.po _ (List.mem_of_getElem? t2), t5, ⟨Int.le_refl _, (by decide : (0 : Int) <= 10)⟩, (fun t e => nomatch e), (fun t e => nomatch e), .inl ⟨t3, rfl, rfl⟩⟩
    have pd : p ≠ d := Ne.symm (av hdG hp)
    refine ⟨d, _, rfl, DPut.k (k := .inr ⟨⟨pa⟩⟩) ((aj (Ne.symm pd)).trans hdG) (by rw [List.length_map, sizeLine_eq]; have := FG.len; omega), ?_⟩
    rw [wP (x := ⟨pa, none, 0, none, kd, p⟩) X.nw]
    refine ⟨(kp.new hp).put (.head _), az (az nG rfl) rfl, _, _, ad, fun y my => ?_, FG.snoc t2 X (by show (0 : Int) <= _; omega) (fun _ => rfl) (fun h1 => ⟨rfl, rfl, rfl, t6 h1⟩), rfl⟩
    rcases List.mem_append.mp my with my | my
    . have e := hlG y my
      rw [aj (e9 e hdG (by intro z; cases z)), aj (av e hp)]; exact e
    . rw [List.mem_singleton.mp my]
      exact (aj pd).trans ad
  . rintro σ' G ⟨kp, nG, as, x7, hdG, hlG, FG, rfl⟩
    have ol : ∀ {p : Addr} {l : List V}, G3 p = some (.lst l) -> G p = some (.lst l) := fun e => kp _ _ e (od e)
    rw [hn] at FG
    exact c7 pn pc _ pk pt d x7 ls cy as G (ol (s23 _ _ (s2 _ _ hpn))) nok (ol (s23 _ _ hpc)) lcy ccy (ol g2') hdG hlG FG (fun p o e => kp _ _ (s03 _ _ e) fun m => by rw [List.mem_singleton.mp m, d0] at e; cases e) nG d0
end
open PySem L2 K19
section
variable {P : Program} {w : World} {K : PySem.W.Frag} {mg : Str -> Option Value} {base : Heap} {a : Adr}
open K3
structure CR (c : Acc) (x : La) : Prop where
  pa : c.pa = x.pa
  ki : c.ki = L2.T x.ki
  fi : c.fi = x.fi
  be : c.be ≠ [] -> x.un = none
theorem FC {α β : Type} {R : α -> β -> Prop} {xs : List α} {ys : List β} (h : A2 R xs ys) {x : α} (m : x ∈ xs) : ∃ y ∈ ys, R x y := by
  induction h with
  | nil => cases m
  | cons r _ ih =>
    rcases List.mem_cons.mp m with rfl | m
    . exact ⟨_, .head _, r⟩
    . obtain ⟨y, my, r⟩ := ih m; exact ⟨y, .tail _ my, r⟩
theorem Fj {α β : Type} {R : α -> β -> Prop} {xs : List α} {ys : List β} (h : A2 R xs ys) {y : β} (m : y ∈ ys) : ∃ x ∈ xs, R x y := by
  induction h with
  | nil => cases m
  | cons r _ ih =>
    rcases List.mem_cons.mp m with rfl | m
    . exact ⟨_, .head _, r⟩
    . obtain ⟨y, my, r⟩ := ih m; exact ⟨y, .tail _ my, r⟩
theorem wA {α β : Type} {R : α -> β -> Prop} {f : α -> α} : ∀ {xs : List α} {ys : List β}, (∀ x y, y ∈ ys -> R x y -> R (f x) y) -> A2 R xs ys -> A2 R (xs.map f) ys
  | _, _, _, .nil => .nil
  | _, _, k, .cons r h => .cons (k _ _ (.head _) r) (wA (fun x y m => k x y (.tail _ m)) h)
theorem zp {cs : List Acc} {as : List La} {l : List Nat} {f : Acc -> Acc} (hf : ∀ z, (f z).pa = z.pa /\ (f z).ki = z.ki /\ (f z).fi = z.fi) (hb : ∀ x ∈ as, x.pa = l -> ∀ z : Acc, (f z).be ≠ [] -> z.be ≠ [] \/ x.un = none) (h : A2 CR cs as) : A2 CR (kx cs l f) as := by
  refine wA (fun c x mx r => ?_) h
  by_cases e : c.pa = l
  . rw [if_pos e]
    refine ⟨(hf c).1.trans r.pa, (hf c).2.1.trans r.ki, (hf c).2.2.trans r.fi, fun z => ?_⟩
    rcases hb x mx (r.pa.symm.trans e) c z with z | z
    . exact r.be z
    . exact z
  . rw [if_neg e]; exact r
def OldK (H G : Hp) (d : Addr) : Prop := ∀ p o, H p = some o -> p ≠ d -> G p = some o
theorem OldK.keep {H G G' : Hp} {d : Addr} {S : List Addr} (h : OldK H G d) (k : Keep S G G') (n : ∀ p ∈ S, H p = none) : OldK H G' d := fun p o e np => k _ _ (h p o e np) fun m => by rw [n p m] at e; cases e
theorem Da {cs : List Acc} {l : List Nat} (h : ∀ c ∈ cs, c.pa ≠ l) : fnd cs l = none := List.find?_eq_none.mpr fun c m => by simpa using h c m
theorem B5 {as : List La} (nd : (as.map (·.pa)).Nodup) {x y : La} (mx : x ∈ as) (my : y ∈ as) (e : x.pa = y.pa) : x = y := by
  induction as with
  | nil => cases mx
  | cons z r ih =>
    rw [List.map_cons] at nd
    obtain ⟨n1, n2⟩ := List.nodup_cons.mp nd
    rcases List.mem_cons.mp mx with rfl | mx1
    . rcases List.mem_cons.mp my with rfl | my1
      . rfl
      . exact absurd (by rw [e]; exact List.mem_map_of_mem (f := (·.pa)) my1) n1
    . rcases List.mem_cons.mp my with rfl | my1
      . exact absurd (by rw [<- e]; exact List.mem_map_of_mem (f := (·.pa)) mx1) n1
      . exact ih n2 mx1 my1
structure CI (C A : Addr) (H G : Hp) (d ch cd : Addr) (cs : List Acc) (as : List La) (n : Nat) : Prop where
  old : OldK H G d
  nT : NoT G
  at_ : CAt C A G ch cd cs
  cr : A2 CR cs as
  fr : ∀ c ∈ cs, H c.ob = none /\ H c.bl = none
  lb : ∀ c ∈ cs, c.be.length <= n
theorem CI.dict {C A : Addr} {H G : Hp} {d ch cd : Addr} {cs : List Acc} {as : List La} {n : Nat} {u : HO} (h : CI C A H G d ch cd cs as n) (hd : H d = some u) (h1 : H ch = none) (h2 : H cd = none) {o : HO} (f : jI o = true) : CI C A H (upd G d o) d ch cd cs as n := by
  have ne : ∀ {p : Addr}, H p = none -> p ∉ [d] := fun e m => by rw [List.mem_singleton.mp m, hd] at e; cases e
  exact ⟨fun p z e np => (aj np).trans (h.old p z e np), az h.nT f, h.at_.keep (S := [d]) (Keep.refl.put (.head _)) (ne h1) (ne h2) fun c m => ⟨ne (h.fr c m).1, ne (h.fr c m).2⟩, h.cr, h.fr, h.lb⟩
theorem vq {G : Hp} {as : List La} {i : Nat} {y v : V} (h : rh G (.dK (as.map kyL)) i y v) : ∃ x, as[i]? = some x /\ y = L2.T x.pa /\ v = .ref x.ls := by
  obtain ⟨kk, e, rfl⟩ := h
  rw [List.getElem?_map] at e
  obtain ⟨x, ex, e2⟩ := Option.map_eq_some_iff.mp e
  cases e2
  exact ⟨x, ex, rfl, rfl⟩
theorem BZ (x : V) : List.lookup (Str.ofString "shut") [(Str.ofString "by_path", x)] = none := by rw [bB (by decide +kernel)]; rfl
theorem Dp (x : V) : List.lookup (Str.ofString "add") [(Str.ofString "by_path", x)] = none := by rw [bB (by decide +kernel)]; rfl
theorem Dc (x : V) : List.lookup (Str.ofString "add_top") [(Str.ofString "by_path", x)] = none := by rw [bB (by decide +kernel)]; rfl
theorem vH {G : Hp} {d : Addr} {o : Obj} {as : List La} (nd : (as.map (·.pa)).Nodup) {x : La} (m : x ∈ as) (h : G d = some (.frz o (.dK (as.map kyL)))) : DGet G d (L2.T x.pa) (some (.ref x.ls)) :=
  .inl ⟨_, .inr ⟨⟨x.pa⟩⟩, .inr ⟨o, h⟩, rfl, (AcAt.val (H := G) (d := d) nd m).symm⟩
def sp_tV (C A : Addr) : Sp := sp1 fun x H Q _ => NoT H /\ asR x fun d => ∃ as, H d = some (.dK (as.map kyL)) /\ AcAt H d as /\ As8 as /\ ∀ ch cd cs H', ChAt C A H' ch as cd cs -> (∀ c ∈ cs, H c.bl = none) -> H ch = none -> H cd = none -> Same H H' -> NoT H' -> Q (.ref ch) H'
theorem qh (T : Txt K mg a) : bw P w K mg base (XE P w) 8 a.fe a.jD ["_law_accounts_here"] (sp_tV a.aY a.aL) := by
  refine T.hV.okX jE (fun vs H Q E h => sp1.len h) (fun cdv A outer s H vs Q E hr h => ?_)
  obtain ⟨x0, rfl, h⟩ := sp1.inv h
  try dsimp only [sp_tV, sp1] at h
  have ND := jE.nd
  have HU := bf hr
  obtain ⟨hN, h1⟩ := h
  obtain ⟨d, rfl, as, hd, AC, A8, k⟩ := asR.inv h1
  have sz := szl
  have nd := A8.ok.nd
  have l8 := A8.len
  have G_Chart_shut := pZ (P := P) (w := w) (base := base) T
  have b_Chart_shut := pK T.j9
  have G_Chart_add := sJ (P := P) (w := w) (base := base) T
  have b_Chart_add := sE T.mP
  have G_Chart_add_top := mI (P := P) (w := w) (base := base) T
  have b_Chart_add_top := lY T.iC
  have G_Chart___init__ := kg (P := P) (w := w) (base := base) T
  have b_Chart___init__ := lI T.gQ
  have c2 : ∃ u, PSs (eL (XE P w) P w K mg base ["_law_accounts_here", "_law_chart_here", "_law_path", "_law_currency", "_law_first", "_law_until", "_law_kind"] "_law_chart" (ag bI) a.fe cdv A outer s H E) (List.drop 2 (aA bI)) u /\ ∀ ch cd cs x2 x3 x4 x5 x6 G, CI a.aY a.aL H G d ch cd cs as 20 -> (∀ c ∈ cs, c.un = none) -> G d = some (.dK (as.map kyL)) -> H ch = none -> H cd = none ->
      u { nx := fun _ H' => Q .non H', rt := Q } [some (.ref d), some (.ref ch), x2, x3, x4, x5, x6] G := by
    refine ⟨_, (ai (nJ (d8 (by passes_own) rfl (nQ (fv 0)) (aN (i := 2) ND rfl (Or.inl rfl)) (ak (cG (nX (lj (aU (aC K) (cx (Nat.lt_of_le_of_lt (Nat.add_le_add_left (by decide) _) HU) (fv 0) (fv 2) (fun _ _ => rfl)) ae (fun _ _ => rfl)))) (ak (dF (cY (fv 1) T.b_ T.pM G_Chart_shut (hr.mono (by decide)) b_Chart_shut .nil aK (FA.pa (aa (fv 2) (aa (aU (aC K) (cx (Nat.lt_of_le_of_lt (Nat.add_le_add_left (by decide) _) HU) (fv 0) (fv 2) (fun _ _ => rfl)) ae (fun _ _ => rfl)) ah)))))) bn))))
      (ak (aT (fv 1)))), fun ch cd cs x2 x3 x4 x5 x6 G I un0 hdG hch0 hcd0 => zL ?_⟩
    walk_at "rd"
    refine ⟨d, .dK (as.map kyL), rfl, rfl, .inl hdG, fun o _ => Ai (fun i σ' G' => G' d = some (.frz o (.dK (as.map kyL))) /\ ∃ cs x2, CI a.aY a.aL H G' d ch cd cs as 20 /\ (∀ j c, i <= j -> cs[j]? = some c -> c.un = none) /\ σ' = [some (.ref d), some (.ref ch), x2, x3, x4, x5, x6]) ⟨ad, cs, _, ?_, fun j c _ e => un0 c (List.mem_of_getElem? e), rfl⟩ (fun i σ' G' h => h.1) ?_ ?_⟩
    . exact I.dict hd hch0 hcd0 rfl
    . rintro i y v σ' G' hi en ⟨hf, cs, x2, I, un, rfl⟩
      obtain ⟨x, ex, rfl, rfl⟩ := vq en
      have mx := List.mem_of_getElem? ex
      have ok := A8.ok i x ex
      have dg := vH nd mx hf
      have hx : G' x.ls = some (.lst [cuV x.cu, .int x.fi, cl x.un, L2.T x.ki]) := I.old _ _ (AC.ls x mx) (e9 (AC.ls x mx) hd (by intro z; cases z))
      have lp := ok.po.len
      obtain ⟨dx, hch⟩ := I.at_.ob
      walk_at "rd"
      refine ⟨d, .ref x.ls, rfl, dg, ?_⟩
      walk_at "rd"
      refine ⟨_, _, .inl (SqL.of hx), aD (j := 2) rfl, ?_⟩
      cases eu : x.un with
      | none => exact itp rfl ⟨hf, cs, _, I, fun j c hj e => un j c (by omega) e, rfl⟩
      | some t =>
        refine itn (by intro z; cases z) ?_
        walk_at "rd"
        have ut := ok.un t eu
        obtain ⟨c, hc, rc⟩ : ∃ c, cs[i]? = some c /\ CR c x := by
          have l1 := I.cr.len
          have l2 := (List.getElem?_eq_some_iff.mp ex).1
          have hi : i < cs.length := by omega
          obtain ⟨y, ey, r⟩ := I.cr.at_ (List.getElem?_eq_getElem hi)
          rw [ex] at ey; cases ey
          exact ⟨cs[i], List.getElem?_eq_getElem hi, r⟩
        have mc := List.mem_of_getElem? hc
        have fx := ok.fi
        have be0 : c.be = [] := by
          cases eb : c.be with
          | nil => rfl
          | cons _ _ => have := rc.be (by rw [eb]; intro z; cases z); rw [eu] at this; cases this
        have eV : cl (some t) = V.int t := rfl
        rw [eu, eV] at hx
        refine ⟨dx, _, hch, BZ _, d, .ref x.ls, rfl, dg, ?_⟩
        walk_at "rd"
        refine ⟨_, _, .inl (SqL.of hx), aD (j := 2) rfl, I.nT, ⟨ok.po.lo, by omega⟩, ?_⟩
        walk_at "rd"
        refine ⟨⟨by omega, ut.2⟩, cd, cs, c, I.at_, mc, rc.pa, ok.po.pn, un i c (Nat.le_refl _) hc, by rw [rc.fi]; omega, be0, fun H2 J2 K2 N2 => ?_⟩
        have nob : ∀ p ∈ cs.map (·.ob), H p = none := fun p m => by
          obtain ⟨z, mz, rfl⟩ := List.mem_map.mp m
          exact (I.fr z mz).1
        have fr2 : ∀ z ∈ kx cs x.pa (shu t), ∃ y ∈ cs, z.ob = y.ob /\ z.bl = y.bl /\ z.be = y.be := fun z mz => by
          obtain ⟨y, my, e⟩ := i4 mz
          refine ⟨y, my, ?_⟩
          rw [e]; split <;> exact ⟨rfl, rfl, rfl⟩
        refine ⟨K2 _ _ hf (fun m => by rw [nob _ m] at hd; cases hd), _, _, ⟨I.old.keep K2 nob, N2, J2, zp (fun _ => ⟨rfl, rfl, rfl⟩) (fun y my ey z hz => .inl hz) I.cr, fun z mz => ?_, fun z mz => ?_⟩, fun j z hj e => ?_, rfl⟩
        . obtain ⟨y, my, e1, e2, _⟩ := fr2 z mz
          rw [e1, e2]; exact I.fr y my
        . obtain ⟨y, my, _, _, e3⟩ := fr2 z mz
          rw [e3]; exact I.lb y my
        . unfold kx at e
          rw [List.getElem?_map] at e
          obtain ⟨y, ey, rfl⟩ := Option.map_eq_some_iff.mp e
          obtain ⟨w1, ew, r1⟩ := I.cr.at_ ey
          have ne : ¬ y.pa = x.pa := fun z => by
            have := (A8.ok j w1 ew).nw x (by
              rw [List.mem_iff_getElem?]
              exact ⟨i, by rw [List.getElem?_take, if_pos (by omega)]; exact ex⟩)
            exact this (z.symm.trans r1.pa)
          rw [if_neg ne]
          exact un j y (by omega) ey
    . rintro σ' G' ⟨hf, cs, x2, I, un, rfl⟩
      walk_at "rd"
      refine ⟨d, o, _, hf, .inl ⟨hdG, rfl, ?_⟩⟩
      have I2 := I.dict (o := .dK (as.map kyL)) hd hch0 hcd0 rfl
      refine k ch cd cs _ ⟨I2.at_, fun x mx => ?_⟩ (fun c m => (I2.fr c m).2) hch0 hcd0 (fun p z e => ?_) I2.nT
      . obtain ⟨c, mc, r⟩ := Fj I2.cr mx
        exact ⟨c, mc, r.pa, r.ki⟩
      . by_cases hp : p = d
        . rw [hp, ad]; rw [hp, hd] at e; exact e
        . exact I2.old p z e hp
  obtain ⟨u2, hu2, c2⟩ := c2
  refine ⟨_, (ai (aM (i := 1) ND rfl (Or.inl rfl) (qw T.y6 G_Chart___init__ (hr.mono (by decide)) rfl T.AZ b_Chart___init__ .nil aK))
      (ai (nJ (d8 (by passes_own) rfl (nQ (fv 0)) (aN (i := 2) ND rfl (Or.inl rfl)) (ai (zl (cx (Nat.lt_of_le_of_lt (Nat.add_le_add_left (by decide) _) HU) (fv 0) (fv 2) (fun _ _ => rfl)) (wC K (n := 4) rfl (bA (aN (i := 3) ND rfl (Or.inl rfl)) (bA (aN (i := 4) ND rfl (Or.inl rfl)) (bA (aN (i := 5) ND rfl (Or.inl rfl)) (bA (aN (i := 6) ND rfl (Or.inl rfl)) ii))))))
      (ak (cG (bK EG (aE [58]) (fv 2) (by with_unfolding_all rfl)) (ak (dF (cY (fv 1) T.b_ T.sD G_Chart_add (hr.mono (by decide)) b_Chart_add .nil aK (FA.pa (aa (fv 2) (aa (fv 3) (aa (fv 4) ah))))))) (ak (dF (cY (fv 1) T.b_ T.lU G_Chart_add_top (hr.mono (by decide)) b_Chart_add_top .nil aK (FA.pa (aa (fv 2) (aa (fv 6) ah)))))))))))
      hu2)), ?_⟩
  walk_at "rd"
  intro ch dx hch hdx ndx
  refine ⟨az (az hN rfl) rfl, dx, ad, fun cd H1 hcd J1 kp N1 => zL ?_⟩
  have k0 := jl hch hdx kp
  have hcd0 := fz hcd
  walk_at "rd"
  have I0 : CI a.aY a.aL H H1 d ch cd [] (as.take 0) 0 := ⟨fun p o e _ => k0 _ _ e List.not_mem_nil, N1, J1, .nil, (fun _ m => nomatch m), fun _ m => nomatch m⟩
  refine ⟨d, .dK (as.map kyL), rfl, rfl, .inl (k0 _ _ hd List.not_mem_nil), fun o _ => Ai (fun i σ' G' => G' d = some (.frz o (.dK (as.map kyL))) /\ ∃ cs x2 x3 x4 x5 x6, CI a.aY a.aL H G' d ch cd cs (as.take i) i /\ (∀ c ∈ cs, c.un = none) /\ σ' = [some (.ref d), some (.ref ch), x2, x3, x4, x5, x6]) ⟨ad, [], _, _, _, _, _, I0.dict hd hch hcd0 rfl, (fun _ m => nomatch m), rfl⟩ (fun i σ' G' h => h.1) ?_ ?_⟩
  . rintro i y v σ' G' hi en ⟨hf, cs, x2, x3, x4, x5, x6, I, un, rfl⟩
    obtain ⟨x, ex, rfl, rfl⟩ := vq en
    have mx := List.mem_of_getElem? ex
    have ok := A8.ok i x ex
    have dg := vH nd mx hf
    have hx : G' x.ls = some (.lst [cuV x.cu, .int x.fi, cl x.un, L2.T x.ki]) := I.old _ _ (AC.ls x mx) (e9 (AC.ls x mx) hd (by intro z; cases z))
    have lp := ok.po.len
    obtain ⟨dx, hch1⟩ := I.at_.ob
    have i8 : i < as.length := (List.getElem?_eq_some_iff.mp ex).1
    have lc : cs.length <= 8 := by have := I.cr.len; rw [List.length_take] at this; omega
    have ef : fnd cs x.pa = none := Da fun c mc e => by
      obtain ⟨z, mz, r⟩ := FC I.cr mc
      exact ok.nw z mz (r.pa.symm.trans e)
    have et : as.take (i + 1) = as.take i ++ [x] := by rw [List.take_succ, ex]; rfl
    walk_at "rd"
    refine ⟨d, .ref x.ls, rfl, dg, x.ls, _, rfl, SqL.of hx, rfl, ?_⟩
    walk_at "rd"
    refine ⟨_, _, ⟨rfl, rfl⟩, _, _, rfl, _, _, rfl, _, _, rfl, rfl, ?_⟩
    have fre : ∀ {p : Addr}, G' p = none -> H p = none := fun {p} e => by
      cases e1 : H p with
      | none => rfl
      | some z =>
        by_cases hp : p = d
        . rw [hp, hf] at e; cases e
        . rw [I.old p z e1 hp] at e; cases e
    have sub : ∀ {y : La}, y ∈ as.take i -> y ∈ as := fun m => List.mem_of_mem_take m
    rcases ok.st with ⟨t1, t2, t3⟩ | ⟨u, n, mu, ep, n58, uu, uf, uk⟩
    . refine itn (fun z => oN t1 (of_decide_eq_true z)) ?_
      walk_at "rd"
      refine ⟨dx, _, hch1, Dc _, I.nT, t1, ok.ki, cd, cs, I.at_, by omega, ef, fun c H2 p1 p2 p3 p4 p5 p6 p7 J2 K2 N2 => ?_⟩
      refine ⟨K2 _ _ hf (fun m => by rw [List.mem_singleton.mp m, hcd0] at hd; cases hd), _, _, _, _, _, _, ⟨I.old.keep K2 (fun p m => by rw [List.mem_singleton.mp m]; exact hcd0), N2, J2, ?_, fun z mz => ?_, fun z mz => ?_⟩, fun z mz => ?_, rfl, rfl, rfl, rfl, rfl⟩
      . rw [et]; exact I.cr.snoc ⟨p1, p2, p3.trans t2.symm, fun z => absurd p5 z⟩
      . rcases List.mem_append.mp mz with mz | mz
        . exact I.fr z mz
        . rw [List.mem_singleton.mp mz]; exact ⟨fre p6, fre p7⟩
      . rcases List.mem_append.mp mz with mz | mz
        . have := I.lb z mz; omega
        . rw [List.mem_singleton.mp mz, p5]; exact Nat.zero_le _
      . rcases List.mem_append.mp mz with mz | mz
        . exact un z mz
        . rw [List.mem_singleton.mp mz]; exact p4
    . obtain ⟨cu', mcu, rcu⟩ := Fj I.cr mu
      refine itp (by rw [ep]; simp) ?_
      walk_at "rd"
      have hc : cuV x.cu = V.non \/ ∃ cl, cuV x.cu = L2.T cl /\ cur cl = true := by
        cases ec : x.cu with
        | none => exact .inl rfl
        | some l => exact .inr ⟨l, rfl, ok.cu l ec⟩
      have fx := ok.fi
      have ncl : ∀ p ∈ cd :: cs.map (·.bl), H p = none := fun p m => by
        rcases List.mem_cons.mp m with rfl | m
        . exact hcd0
        . obtain ⟨z, mz, rfl⟩ := List.mem_map.mp m
          exact (I.fr z mz).2
      refine ⟨dx, _, hch1, Dp _, I.nT, ⟨ok.po.lo, by omega⟩, hc, ⟨fx.1, by omega⟩, u.pa, n, cd, cs, cu', ep, n58, ok.po.pn, I.at_, by omega, (fun c m => by have := I.lb c m; omega), ef, mcu, rcu.pa, un cu' mcu, by rw [rcu.fi]; exact uf, fun c H2 p1 p2 p3 p4 p5 p6 p7 J2 K2 N2 => ?_⟩
      have fr2 : ∀ z ∈ kx cs u.pa (grw x.pa), ∃ y ∈ cs, z.ob = y.ob /\ z.bl = y.bl /\ z.un = y.un /\ z.be.length <= y.be.length + 1 := fun z mz => by
        obtain ⟨y, my, e⟩ := i4 mz
        refine ⟨y, my, ?_⟩
        rw [e]; split
        . exact ⟨rfl, rfl, rfl, by show (y.be ++ [x.pa]).length <= _; rw [List.length_append]; exact Nat.le_refl _⟩
        . exact ⟨rfl, rfl, rfl, Nat.le_succ _⟩
      refine ⟨K2 _ _ hf (fun m => by rw [ncl _ m] at hd; cases hd), _, _, _, _, _, _, ⟨I.old.keep K2 ncl, N2, J2, ?_, fun z mz => ?_, fun z mz => ?_⟩, fun z mz => ?_, rfl, rfl, rfl, rfl, rfl⟩
      . rw [et]
        refine (zp (f := grw x.pa) (fun _ => ⟨rfl, rfl, rfl⟩) (fun y my ey z hz => .inr ?_) I.cr).snoc ⟨p1, by rw [p2, rcu.ki, uk], p3, fun z => absurd p5 z⟩
        rw [B5 nd (sub my) (sub mu) ey]; exact uu
      . rcases List.mem_append.mp mz with mz | mz
        . obtain ⟨y, my, e1, e2, _⟩ := fr2 z mz
          rw [e1, e2]; exact I.fr y my
        . rw [List.mem_singleton.mp mz]; exact ⟨fre p6, fre p7⟩
      . rcases List.mem_append.mp mz with mz | mz
        . obtain ⟨y, my, _, _, _, e3⟩ := fr2 z mz
          have := I.lb y my; omega
        . rw [List.mem_singleton.mp mz, p5]; exact Nat.zero_le _
      . rcases List.mem_append.mp mz with mz | mz
        . obtain ⟨y, my, _, _, e3, _⟩ := fr2 z mz
          rw [e3]; exact un y my
        . rw [List.mem_singleton.mp mz]; exact p4
  . rintro σ' G' ⟨hf, cs, x2, x3, x4, x5, x6, I, un, rfl⟩
    walk_at "rd"
    refine ⟨d, o, _, hf, .inl ⟨k0 _ _ hd List.not_mem_nil, rfl, ?_⟩⟩
    have el : as.take (gb (.dK (as.map kyL))) = as := List.take_of_length_le (by show _ <= (as.map kyL).length; rw [List.length_map]; exact Nat.le_refl _)
    rw [el] at I
    have ln : gb (.dK (as.map kyL)) = as.length := List.length_map ..
    have I2 := I.dict (o := .dK (as.map kyL)) hd hch hcd0 rfl
    exact c2 ch cd cs _ _ _ _ _ _ ⟨I2.old, I2.nT, I2.at_, I2.cr, I2.fr, fun c m => by have := I2.lb c m; omega⟩ un ad hch hcd0
end
open PySem L2 K19
section
variable {P : Program} {w : World} {K : PySem.W.Frag} {mg : Str -> Option Value} {base : Heap} {a : Adr}
open K3
def sp_ww : Sp := sp3 fun x y z H Q _ => NoT H /\ asR x fun d => asT y fun l => asI z fun day => ∃ as x, AcAt H d as /\ (as.map (·.pa)).Nodup /\ x ∈ as /\ x.pa = l /\ Q (.bl (opn x.fi x.un day)) H
theorem nE (T : Txt K mg a) : bw P w K mg base (XE P w) 1 a.fX a.iu ["_law_accounts_here", "_law_path", "_law_day_here"] sp_ww := by
  refine T.fJ.okG io (fun vs H Q E h => sp3.len h) (fun cdv A outer s H vs Q E hr h => ?_)
  obtain ⟨x0, x1, x2, rfl, h⟩ := sp3.inv h
  try dsimp only [sp_ww, sp3] at h
  have ND := io.nd
  have HU := bf hr
  obtain ⟨hN, h1⟩ := h
  obtain ⟨d, rfl, h2⟩ := asR.inv h1
  obtain ⟨l, rfl, h3⟩ := asT.inv h2
  obtain ⟨day, rfl, as, x, AC, nd, mx, rfl, k⟩ := asI.inv h3
  have sz := szl
  refine ⟨hN, _, (ai (zl (eE (n4 K) (cx (Nat.lt_of_le_of_lt (Nat.add_le_add_left (by decide) _) HU) (fv 0) (fv 1) (fun _ _ => rfl)) (e_ ae) (e_ ae)) (wC K (n := 2) rfl (bA (aN (i := 3) ND rfl (Or.inl rfl)) (bA (aN (i := 4) ND rfl (Or.inl rfl)) ii))))
      (ak (aT (dY (gn gg (fv 3) (fv 2) (bF _)) (dR (B7 (vM (zf (fv 4))) (dR (gn wS (fv 2) (fv 4) (bF _))))))))), ?_⟩
  walk_at "rd"
  refine ⟨d, .ref x.ls, rfl, AC.get nd mx, ?_⟩
  walk_at "rd"
  refine ⟨x.ls, _, rfl, SqL.of (AC.ls x mx), fun p hp => ?_⟩
  have s1 := aq (HO.lst (nH [cuV x.cu, V.int x.fi, cl x.un, L2.T x.ki] (some 1) (some 3))) hp
  have g1 : upd H p (HO.lst (nH [cuV x.cu, V.int x.fi, cl x.un, L2.T x.ki] (some 1) (some 3))) p = some (HO.lst [V.int x.fi, cl x.un]) := ad.trans rfl
  generalize upd H p (HO.lst (nH [cuV x.cu, V.int x.fi, cl x.un, L2.T x.ki] (some 1) (some 3))) = G1 at s1 g1 ⊢
  refine ⟨p, [V.int x.fi, cl x.un], rfl, SqL.of g1, rfl, _, _, rfl, _, _, rfl, rfl, ?_⟩
  walk_at "rd"
  have fin : ∀ b : Bool, opn x.fi x.un day = b -> ∃ G, Gc H G G1 /\ Q (.bl b) G := fun b e => ⟨H, Gc.none s1, by rw [<- e]; exact k⟩
  by_cases h1 : x.fi <= day
  . refine itp h1 ?_
    have e1 : opn x.fi x.un day = lat x.un day := by unfold opn; rw [decide_eq_true h1]; rfl
    cases eu : x.un with
    | none => exact itp rfl (fin _ (by rw [e1, eu]; rfl))
    | some t => exact itn (by intro z; cases z) (fin _ (by rw [e1, eu]; rfl))
  . refine itn h1 (fin _ ?_)
    unfold opn; rw [decide_eq_false h1]; rfl
def tk (as : List La) (day : Int) (cy : List Nat) (v : V) : Bool := as.any fun x => decide (v = L2.T x.pa) && (opn x.fi x.un day && inV (cuV x.cu) [.non, L2.T cy])
theorem CF {as : List La} {day : Int} {cy : List Nat} (nd : (as.map (·.pa)).Nodup) {x : La} (m : x ∈ as) : tk as day cy (L2.T x.pa) = (opn x.fi x.un day && inV (cuV x.cu) [.non, L2.T cy]) := by
  unfold tk
  cases e : (opn x.fi x.un day && inV (cuV x.cu) [.non, L2.T cy]) with
  | true => exact List.any_eq_true.mpr ⟨x, m, by rw [e, decide_eq_true rfl]; rfl⟩
  | false =>
    refine List.any_eq_false.mpr fun y my => ?_
    by_cases h : L2.T x.pa = L2.T y.pa
    . have hp : x.pa = y.pa := by simpa using h
      rw [<- B5 nd m my hp, e, Bool.and_false]; decide
    . rw [decide_eq_false h, Bool.false_and]; decide
theorem wB {G : Hp} {p pr : Addr} {ys : List V} {rs : List Row} (r : Row) (hpr : G pr = some (.lst ys)) (hp : G p = none) (ay : A2 (RwAt G) ys rs) (nG : NoT G) :
    Keep [pr] G (upd (upd G p (.tup [L2.T r.pa, L2.T r.cu, .int r.am])) pr (.lst (ys ++ [.ref p]))) /\ NoT (upd (upd G p (.tup [L2.T r.pa, L2.T r.cu, .int r.am])) pr (.lst (ys ++ [.ref p]))) /\ upd (upd G p (.tup [L2.T r.pa, L2.T r.cu, .int r.am])) pr (.lst (ys ++ [.ref p])) pr = some (.lst (ys ++ [.ref p])) /\ A2 (RwAt (upd (upd G p (.tup [L2.T r.pa, L2.T r.cu, .int r.am])) pr (.lst (ys ++ [.ref p])))) (ys ++ [.ref p]) (rs ++ [r]) := by
  have kG : Keep [pr] G (upd (upd G p (.tup [L2.T r.pa, L2.T r.cu, .int r.am])) pr (.lst (ys ++ [.ref p]))) := (Keep.refl.new hp).put (.head _)
  exact ⟨kG, az (az nG rfl) rfl, ad, (dq kG (LW.one hpr) ay).snoc ⟨p, rfl, (aj (Ne.symm (av hpr hp))).trans ad⟩⟩
def sp_qJ : Sp := sp4 fun x y z t H Q _ => NoT H /\ asI x fun c => asR y fun d => asI z fun day => asR t fun pc => 0 <= day /\ ∃ (as : List La) (cy : List (List Nat)), H d = some (.dK (as.map kyL)) /\ AcAt H d as /\ As8 as /\ H pc = some (.lst (cy.map L2.T)) /\ cy.length = 3 /\ ∀ q vs rs H', H q = none -> H' q = some (.lst vs) -> A2 (RwAt H') vs rs -> rs.length <= 4 -> (∀ r ∈ rs, r.pa ∈ as.map (·.pa) /\ r.cu ∈ cy) -> Same H H' -> NoT H' -> Q (.ref q) H'
theorem nk (T : Txt K mg a) : bw P w K mg base (XE P w) 2 a.fM a.iy ["_law_cell", "_law_accounts_here", "_law_day_here", "_law_currencies_here"] sp_qJ := by
  refine T.fH.okX iA (fun vs H Q E h => sp4.len h) (fun cdv A outer s H vs Q E hr h => ?_)
  obtain ⟨x0, x1, x2, x3, rfl, h⟩ := sp4.inv h
  try dsimp only [sp_qJ, sp4] at h
  have ND := iA.nd
  have HU := bf hr
  obtain ⟨hN, h1⟩ := h
  obtain ⟨c, rfl, h2⟩ := asI.inv h1
  obtain ⟨d, rfl, h3⟩ := asR.inv h2
  obtain ⟨day, rfl, h4⟩ := asI.inv h3
  obtain ⟨pc, rfl, d0, as, cy, hd, AC, A8, hpc, lcy, k⟩ := asR.inv h4
  have sz := szl
  have nd := A8.ok.nd
  have l8 := A8.len
  obtain ⟨c1, mc1, ec⟩ : ∃ c1 ∈ cy, atI (cy.map L2.T) (c % 3) = some (L2.T c1) := by
    obtain ⟨j, e⟩ := Int.eq_ofNat_of_zero_le (Int.emod_nonneg c (show (3 : Int) ≠ 0 by decide))
    have b := Int.emod_lt_of_pos c (show (0 : Int) < 3 by decide)
    rw [e] at b ⊢
    have hj : j < cy.length := by omega
    exact ⟨cy[j], List.getElem_mem hj, aD (by simp [hj])⟩
  have G__law_is_open := nE (P := P) (w := w) (base := base) T
  have b__law_is_open := nv T.fJ
  refine ⟨_, (ai (aM (i := 4) ND rfl (Or.inr rfl) (aU (aC K) (fv 3) (al bz (fv 0) ae) (fun _ _ => rfl)))
      (ai (nJ (lh (i0 := 5) ND rfl (Or.inl rfl) rfl (cl := _) (x := "_law_path") (xs := ["_law_path"]) (fr := ["_law_accounts_here", "_law_day_here", "_law_currency"]) (ks := [1, 2, 4]) (by exact ⟨rfl, by decide +kernel, rfl, by decide +kernel, rfl, cg rfl, rfl, aP rfl, aP (k := fun y => List.lookup y _) rfl, ci rfl⟩) rfl (nQ (fv 1)) (fun _ _ _ _ _ => (aN (i := 0) (dD (l := ["_law_path", "_law_accounts_here", "_law_day_here", "_law_currency"]) (by decide)) rfl (Or.inl rfl))) (fun _ _ _ _ _ => (fc (uK (L2.PW.pt (vE (eO (au G__law_is_open (hr.mono (by decide)) rfl T.pA T.fJ.kp b__law_is_open .nil u1 (FA.pa (aa (fv 1) (aa (fv 0) (aa (fv 2) ah)))))) (r9 (bK (rD K) (aU (aC K) (cx (Nat.lt_of_le_of_lt (Nat.add_le_add_left (by decide) _) HU) (fv 1) (fv 0) (fun _ _ => rfl)) ae (fun _ _ => rfl)) (bR (FA.pa (aa fL (aa (fv 3) ah)))) (by with_unfolding_all rfl)))))))) (fun _ _ _ _ _ => (fv 0))))
      (ai (aM (i := 6) ND rfl (Or.inl rfl) (dH (FA.pa ah)))
      (ai (aM (i := 7) ND rfl (Or.inl rfl) ae)
      (ai (d8 (by passes_own) rfl (gS rfl T.jj (FA.pa (aa (al aJ ae (al bz (al bg (fv 0) ae) ae)) ah))) (aN (i := 8) ND rfl (Or.inl rfl)) (ai (aM (i := 9) ND rfl (Or.inl rfl) (al aJ ae (al bz (al aJ (al bg (fv 0) (al aJ ae (al fK ae (fv 8)))) (al fK ae (fv 8))) (ku (FA.pa (aa ae (aa ae (aa (al D8 ae ae) ah)))) (al bz (al bg (fv 0) ae) ae) (fun _ _ => rfl)))))
      (ai (aM (i := 7) ND rfl (Or.inl rfl) (al aJ (fv 7) (fv 9)))
      (ak (dF (fN K PySem.F.plainAttrs_list PySem.F.slot_list_append PySem.F.type_list_append d4 (fv 6) (FA.pa (aa (bR (FA.pa (aa (aU (aC K) (fv 5) (al bz (al bg (fv 0) (al aJ ae (al fK ae (fv 8)))) (aQ (dN K) rfl T.iD eM (FA.pa (aa (fv 5) ah)))) (fun _ _ => rfl)) (aa (fv 4) (aa (fv 9) ah))))) ah))))))))
      (ai (dF (fN K PySem.F.plainAttrs_list PySem.F.slot_list_append PySem.F.type_list_append d4 (fv 6) (FA.pa (aa (bR (FA.pa (aa (aU (aC K) (fv 5) (al bz (al bg (fv 0) ae) (aQ (dN K) rfl T.iD eM (FA.pa (aa (fv 5) ah)))) (fun _ _ => rfl)) (aa (fv 4) (aa (al fR ae (fv 7)) ah))))) ah))))
      (ak (aT (fv 6))))))))), ?_⟩
  walk_at "rd"
  refine ⟨_, _, .inl (SqL.of hpc), ec, ?_⟩
  refine cmK d (as.map kyL) (tk as day c1) (fun v => v) (fun R r => r) (.inl hd) (by rw [List.length_map, sizeLine_eq]; omega) (fun v mv D ys o R hD nD r => ?_) (fun v mv _ D ys o R hD nD r => r) fun D hD => ?_
  . have eV : ∃ x ∈ as, v = L2.T x.pa := by
      obtain ⟨e, me, rfl⟩ := List.mem_map.mp mv
      obtain ⟨x, mx, rfl⟩ := List.mem_map.mp me
      exact ⟨x, mx, rfl⟩
    obtain ⟨x, mx, rfl⟩ := eV
    have et : tk as day c1 (L2.T x.pa) = (opn x.fi x.un day && inV (cuV x.cu) [.non, L2.T c1]) := CF nd mx
    rw [et] at r
    have nG : NoT (upd (upd H d (HO.frz o (HO.dK (as.map kyL)))) D (HO.lst ys)) := az (az hN rfl) rfl
    have AG : AcAt (upd (upd H d (HO.frz o (HO.dK (as.map kyL)))) D (HO.lst ys)) d as := ⟨.inr ⟨o, (aj (Ne.symm nD)).trans ad⟩, fun y my => by
      have e := AC.ls y my
      rw [aj (av e hD), aj (e9 e hd (by intro z; cases z))]; exact e⟩
    generalize upd (upd H d (HO.frz o (HO.dK (as.map kyL)))) D (HO.lst ys) = G at r nG AG ⊢
    walk_at "rd"
    refine ⟨nG, nG, as, x, AG, nd, mx, rfl, ?_⟩
    cases eo : opn x.fi x.un day with
    | false =>
      rw [eo, Bool.false_and] at r
      exact itn (by decide) r
    | true =>
      rw [eo, Bool.true_and] at r
      refine itp rfl ⟨d, .ref x.ls, rfl, AG.get nd mx, ?_⟩
      walk_at "rd"
      exact ⟨_, _, .inl (SqL.of (AG.ls x mx)), aD (j := 0) rfl, by walk_at "om", fun p hp => ⟨_, .inr (SqT.of ad), by cases x.cu <;> rfl, rfl, G, Gc.none (aq _ hp), r⟩⟩
  . have vin : ∀ v ∈ ((as.map kyL).map fun e => kV e.1).filter (tk as day c1), ∃ x ∈ as, v = L2.T x.pa := fun v m => by
      obtain ⟨e, me, rfl⟩ := List.mem_map.mp (List.mem_filter.mp m).1
      obtain ⟨x, mx, rfl⟩ := List.mem_map.mp me
      exact ⟨x, mx, rfl⟩
    have vne : 0 < (((as.map kyL).map fun e => kV e.1).filter (tk as day c1)).length := by
      obtain ⟨x, mx, x1, x2, x3, _⟩ := A8.own
      refine List.length_pos_of_mem (a := L2.T x.pa) (List.mem_filter.mpr ⟨List.mem_map.mpr ⟨kyL x, List.mem_map_of_mem mx, rfl⟩, ?_⟩)
      rw [CF nd mx, x1, x2, x3]
      unfold opn
      rw [decide_eq_true d0]; rfl
    have vl : (((as.map kyL).map fun e => kV e.1).filter (tk as day c1)).length <= 8 := Nat.le_trans (List.length_filter_le _ _) (by rw [List.length_map, List.length_map]; exact l8)
    rw [show ∀ l : List V, l.map (fun v => v) = l from fun l => List.map_id l]
    generalize ((as.map kyL).map fun e => kV e.1).filter (tk as day c1) = vs at vin vne vl ⊢
    have pick : ∀ x : Int, ∃ y ∈ as, atI vs (x % (vs.length : Int)) = some (L2.T y.pa) := fun x => by
      have p0 : (0 : Int) < vs.length := by omega
      obtain ⟨j, e⟩ := Int.eq_ofNat_of_zero_le (Int.emod_nonneg x (Int.ne_of_gt p0))
      have b := Int.emod_lt_of_pos x p0
      rw [e] at b ⊢
      have hj : j < vs.length := by omega
      obtain ⟨y, my, ey⟩ := vin vs[j] (List.getElem_mem hj)
      exact ⟨y, my, by rw [<- ey]; exact aD (List.getElem?_eq_getElem hj)⟩
    obtain ⟨G1, e1, s1, g1, N1⟩ := dS (HO.lst vs) hD hN rfl
    rw [e1]
    walk_at "rd"
    refine ⟨Nat.zero_le _, fun pr hpr => ?_⟩
    obtain ⟨G2, e2, s2, g2, N2⟩ := dS (HO.lst []) hpr N1 rfl
    rw [e2]
    have s12 := s1.trans s2
    have pr0 : H pr = none := s1.free hpr
    have npr : D ≠ pr := av g1 hpr
    refine iH ?_
    walk_at "rd"
    refine ⟨by omega, by omega, gJ (lo := 0) (n := (1 + c / 3 % 3).toNat) (fun i σ' G => Keep [pr] G2 G /\ NoT G /\ ∃ ys rs tot x8 x9, G pr = some (.lst ys) /\ A2 (RwAt G) ys rs /\ rs.length = i /\ (∀ r ∈ rs, r.pa ∈ as.map (·.pa) /\ r.cu ∈ cy) /\ σ' = [some (.int c), some (.ref d), some (.int day), some (.ref pc), some (L2.T c1), some (.ref D), some (.ref pr), some (.int tot), x8, x9]) ⟨Keep.refl, N2, [], [], _, _, _, g2, .nil, rfl, (fun _ m => nomatch m), rfl⟩ ?_ ?_⟩
    . rintro i σ' G hi ⟨kp, nG, ys, rs, tot, x8, x9, hpr', ay, lrs, hin, rfl⟩
      have gD := kp _ _ (s2 _ _ g1) (by simpa using npr)
      have li : i < 4 := by omega
      obtain ⟨y, my, ey⟩ := pick (c / (11 + 5 * (0 + (i : Int))))
      have ly := ay.len
      have pos : 0 < ([9, 1000, 10 ^ Int.toNat 14] : List Int).getD (c / 9 % 3).toNat 0 := by
        rcases (by omega : c / 9 % 3 = 0 \/ c / 9 % 3 = 1 \/ c / 9 % 3 = 2) with e | e | e <;> rw [e] <;> decide
      walk_at "rd"
      refine ⟨⟨by omega, by omega⟩, nG, by decide, by walk_at "om", fun _ _ => yw (ns := [9, 1000, 10 ^ Int.toNat 14]) (by omega) (by show _ < (3 : Int); omega) ?_⟩
      generalize ([9, 1000, 10 ^ Int.toNat 14] : List Int).getD (c / 9 % 3).toNat 0 = md at pos
      walk_at "rd"
      refine ⟨pos, .inl ⟨_, SqL.of hpr'⟩, ⟨by omega, by omega⟩, _, .inl (SqL.of gD), by omega, _, _, .inl (SqL.of gD), ey, by walk_at "om", fun p hp => ⟨pr, ys, _, rfl, rfl, (aj (av hpr' hp)).trans hpr', by omega, ?_⟩⟩
      obtain ⟨q1, q2, q3, q4⟩ := wB ⟨y.pa, c1, 1 + (c / (9 + 14 * (0 + (i : Int))) + 7 * (0 + (i : Int))) % md⟩ hpr' hp ay nG
      refine ⟨kp.trans q1, q2, _, _, _, _, _, q3, q4, by rw [List.length_append, lrs]; rfl, fun r m => ?_, rfl, rfl, rfl⟩
      rcases List.mem_append.mp m with m | m
      . exact hin r m
      . rw [List.mem_singleton.mp m]; exact ⟨List.mem_map_of_mem my, mc1⟩
    . rintro σ' G ⟨kp, nG, ys, rs, tot, x8, x9, hpr', ay, lrs, hin, rfl⟩
      have gD := kp _ _ (s2 _ _ g1) (by simpa using npr)
      obtain ⟨y, my, ey⟩ := pick (c / 13)
      have ly := ay.len
      walk_at "rd"
      refine ⟨.inl ⟨_, SqL.of hpr'⟩, _, .inl (SqL.of gD), by omega, _, _, .inl (SqL.of gD), ey, by walk_at "om", fun p hp => ⟨pr, ys, _, rfl, rfl, (aj (av hpr' hp)).trans hpr', by omega, ?_⟩⟩
      obtain ⟨q1, q2, q3, q4⟩ := wB ⟨y.pa, c1, 0 - tot⟩ hpr' hp ay nG
      refine k pr _ _ _ pr0 q3 q4 (by rw [List.length_append, List.length_singleton]; omega) (fun r m => ?_) (fun p o e => (kp.trans q1) _ _ (s12 _ _ e) fun m => by rw [List.mem_singleton.mp m, pr0] at e; cases e) q2
      rcases List.mem_append.mp m with m | m
      . exact hin r m
      . rw [List.mem_singleton.mp m]; exact ⟨List.mem_map_of_mem my, mc1⟩
end
open PySem L2 K19
section
variable {P : Program} {w : World} {K : PySem.W.Frag} {mg : Str -> Option Value} {base : Heap} {a : Adr}
open K3
structure WS (J C A : Addr) (K : PySem.W.Frag) (H : Hp) (sc d ch pc j : Addr) (ns : List Int) (as : List La) (cd : Addr) (cs : List Acc) (cy : List (List Nat)) (b u : Addr) (vs : List V) (bs : List Bk) : Prop where
  dc : H d = some (.dK (as.map kyL))
  ac : AcAt H d as
  ch_ : ChAt C A H ch as cd cs
  jo : JAt J H j b u vs
  bk : A2 (BkAt H) vs bs
  ok : BsOk as cy bs
  cc : H pc = some (.lst (cy.map L2.T))
  nT : NoT H
  sc_ : SqL K H sc (ns.map V.int) /\ ((∀ H', SqL K H' sc (ns.map V.int)) \/ sc ≠ b)
  ap : pc ≠ b /\ (∀ x ∈ as, x.ls ≠ b) /\ ∀ c ∈ cs, c.bl ≠ b
section
variable {J C A : Addr} {H H' : Hp} {sc d ch pc j : Addr} {ns : List Int} {as : List La} {cd : Addr} {cs : List Acc} {cy : List (List Nat)} {b u : Addr} {vs : List V} {bs : List Bk}
theorem JAt.same (h : JAt J H j b u vs) (s : Same H H') : JAt J H' j b u vs := h.keep (S := []) (Keep.same s) List.not_mem_nil List.not_mem_nil List.not_mem_nil
theorem ChAt.same {C A : Addr} (h : ChAt C A H ch as cd cs) (s : Same H H') : ChAt C A H' ch as cd cs := ⟨h.at_.same s, h.kd⟩
theorem WS.same (h : WS J C A K H sc d ch pc j ns as cd cs cy b u vs bs) (s : Same H H') (n : NoT H') : WS J C A K H' sc d ch pc j ns as cd cs cy b u vs bs :=
  ⟨s _ _ h.dc, h.ac.same s, h.ch_.same s, h.jo.same s, j_ s h.bk, h.ok, s _ _ h.cc, n, ⟨h.sc_.1.same s, h.sc_.2⟩, h.ap⟩
theorem WS.put (h : WS J C A K H sc d ch pc j ns as cd cs cy b u vs bs) {t q : Addr} {rv : List V} {rs : List Row} {nt : List Nat} {day : Int} (k : Keep [b] H H') (n : NoT H') (hj : JAt J H' j b u (vs ++ [.ref q])) (ht : H' t = some (.tup rv)) (hr : A2 (RwAt H) rv rs) (hq : H' q = some (.tup [.int vs.length, .int day, L2.T nt, .ref t, .non])) (l1 : bs.length <= 19) (l2 : rs.length <= 40) (hin : ∀ r ∈ rs, r.pa ∈ as.map (·.pa) /\ r.cu ∈ cy) :
    WS J C A K H' sc d ch pc j ns as cd cs cy b u (vs ++ [.ref q]) (bs ++ [⟨vs.length, day, rs⟩]) := by
  have lb := h.jo.ls
  have lw := LW.one lb
  have nd : d ∉ [b] := lw.no h.dc (by intro _ z; cases z)
  obtain ⟨dx, ho⟩ := h.ch_.at_.ob
  refine ⟨k _ _ h.dc nd, ⟨.inl (k _ _ h.dc nd), fun x m => k _ _ (h.ac.ls x m) (by simpa using h.ap.2.1 x m)⟩, ⟨h.ch_.at_.keep k (lw.no ho (by intro _ z; cases z)) (lw.no h.ch_.at_.dc (by intro _ z; cases z)) fun c m => ⟨?_, by simpa using h.ap.2.2 c m⟩, h.ch_.kd⟩, hj, (oZ k lw h.bk).snoc ⟨q, t, rv, nt, rfl, hq, ht, dq k lw hr⟩, ⟨by rw [List.length_append]; show _ + 1 <= _; omega, fun z m => ?_, fun z m => ?_⟩, k _ _ h.cc (by simpa using h.ap.1), n, ⟨?_, h.sc_.2⟩, h.ap⟩
  . obtain ⟨dc, e⟩ := (h.ch_.at_.ac c m).ob
    exact lw.no e (by intro _ z; cases z)
  . rcases List.mem_append.mp m with m | m
    . exact h.ok.l2 z m
    . rw [List.mem_singleton.mp m]; exact l2
  . rcases List.mem_append.mp m with m | m
    . exact h.ok.mem z m
    . rw [List.mem_singleton.mp m]; exact hin
  . rcases h.sc_.2 with z | z
    . exact z _
    . rcases h.sc_.1 with (e | ⟨o, e⟩) | e
      . exact .inl (.inl (k _ _ e (by simpa using z)))
      . exact .inl (.inr ⟨o, k _ _ e (by simpa using z)⟩)
      . exact .inr e
end
theorem AX {H : Hp} {n : Nat} {i : Int} : EqH K H n (.int i) (.int i) true := by
  have := EqH.flat (K := K) (H := H) (n := n) (x := .int i) (y := .int i) rfl rfl
  rwa [show eqV (.int i) (.int i) = true from beq_self_eq_true i] at this
theorem wt {H : Hp} {n : Nat} {l : List Nat} : EqH K H n (L2.T l) (L2.T l) true := by
  have := EqH.flat (K := K) (H := H) (n := n) (x := L2.T l) (y := L2.T l) rfl rfl
  rwa [show eqV (L2.T l) (L2.T l) = true by simp [eqV]] at this
theorem EU {H : Hp} {n : Nat} {v v' : V} {e : Row} (h : RwAt H v e) (h' : RwAt H v' e) : EqH K H (n + 1) v v' true := by
  obtain ⟨q, rfl, e1⟩ := h
  obtain ⟨q', rfl, e2⟩ := h'
  by_cases hq : q = q'
  . subst hq; exact .same
  . have := EqH.tup (K := K) (H := H) (n := n) (e := fun _ => true) hq (SqT.of e1) (SqT.of e2) fun j x y gx gy => by
      match j, gx, gy with
      | 0, gx, gy => cases gx; cases gy; exact wt
      | 1, gx, gy => cases gx; cases gy; exact wt
      | 2, gx, gy => cases gx; cases gy; exact AX
      | j + 3, gx, gy => simp at gx
    exact this
theorem DN {H : Hp} {n : Nat} {xs ys : List V} {ls : List Row} (h : A2 (RwAt H) xs ls) (h' : A2 (RwAt H) ys ls) : ∀ (j : Nat) (x y : V), xs[j]? = some x -> ys[j]? = some y -> EqH K H (n + 1) x y true := fun j x y gx gy => by
  obtain ⟨e, g1, r1⟩ := h.at_ gx
  obtain ⟨e', g2, r2⟩ := h'.at_ gy
  rw [g1] at g2; cases g2
  exact EU r1 r2
theorem yR {H : Hp} {p q : Addr} {xs ys : List V} {ls : List Row} (hp : H p = some (.lst xs)) (hq : H q = some (.lst ys)) (h : A2 (RwAt H) xs ls) (h' : A2 (RwAt H) ys ls) : EqR K H p q true := by
  have := EqR.lst (K := K) (e := fun _ => true) (SqL.of hp) (SqL.of hq) (h.len.trans h'.len.symm) (DN (n := 49) h h')
  rwa [show (List.range xs.length).all (fun _ => true) = true by simp] at this
theorem DZ {H : Hp} {p q : Addr} {xs : List V} {bs : List Bk} (hp : H p = some (.lst xs)) (hq : H q = some (.lst xs)) (h : A2 (BkAt H) xs bs) : EqR K H p q true := by
  have := EqR.lst (K := K) (e := fun _ => true) (SqL.of hp) (SqL.of hq) rfl (fun j x y gx gy => by
    rw [gx] at gy; cases gy
    obtain ⟨_, _, q, _, _, _, rfl, _⟩ := h.at_ gx
    exact .same)
  rwa [show (List.range xs.length).all (fun _ => true) = true by simp] at this
theorem xx (c : List Nat) : ∀ rs : List Row, ((rs.filter fun r => decide (r.cu = c)).map (·.am)).sum = cyS rs c
  | [] => rfl
  | r :: q => by
    have ih := xx c q
    by_cases h : r.cu = c
    . rw [List.filter_cons_of_pos (by exact decide_eq_true h), List.map_cons, List.sum_cons, ih, cyS, if_pos h]
    . rw [List.filter_cons_of_neg (by simpa using h), ih, cyS, if_neg h, Int.zero_add]
theorem AV {ws : List V} {is : List Int} (h : A2 (fun (v : V) (i : Int) => v = .int i) ws is) : ws = is.map V.int := by
  induction h with
  | nil => rfl
  | cons e _ ih => rw [List.map_cons, e, ih]
theorem Ek {ws : List V} {is : List Bool} (h : A2 (fun (v : V) (i : Bool) => v = .bl i) ws is) : ws = is.map V.bl := by
  induction h with
  | nil => rfl
  | cons e _ ih => rw [List.map_cons, e, ih]
abbrev sgL (sc d ch pc j : Addr) (x5 : Option V) (t yr : Int) (path : List Nat) (po : Addr) (x10 x11 x12 x13 x14 : Option V) : St := [some (.ref sc), some (.ref d), some (.ref ch), some (.ref pc), some (.ref j), x5, some (.int t), some (.int yr), some (L2.T path), some (.ref po), x10, x11, x12, x13, x14]
theorem BA {g : List Nat -> Bool} {p : List Nat} {rs : List Row} {out out2 : List Pt} (h : da g rs out = []) (po : out2.Perm ((dk (mvd p (da g rs out))).map (·.1))) : due g p rs out out2 = [] := by
  unfold due
  rw [h] at po ⊢
  have : out2 = [] := List.perm_nil.mp po
  rw [this]; rfl
theorem zz {ws : List V} {R : V -> Row -> Prop} (h : A2 R ws []) : ws = [] := by cases h; rfl
theorem D4 {K : PySem.W.Frag} {H : Hp} {p q : Addr} {xs : List V} (hx : SqL K H p xs) (hy : SqL K H q []) : EqR K H p q xs.isEmpty := by
  cases xs with
  | nil => exact EqR.lst (e := fun _ => true) hx hy rfl fun j x y gx _ => by simp at gx
  | cons x r => exact EqR.len hx hy (by simp)
theorem p19 (T : Txt K mg a) {cdv : Value} {A : Around} {outer : List Env} {s : Shared} {H : Hp} {E : XK} (hr : Room 9 (A.deeper (PyProof.Rows.envOfC "law" (ag cI) s.heap.objs.size a.fT cdv))) : ∃ tz, PSs (eL (XE P w) P w K mg base ["_law_script", "_law_accounts_here", "_law_chart_here", "_law_currencies_here", "_law_journal", "_law_k", "_law_day_here", "_law_year", "_law_path", "_law_own", "_law_bookings", "_law_due_here", "_law_found", "_law_currency", "_law_rest"] "law" (ag cI) a.fT cdv A outer s H E) (List.drop 19 (aA cI)) tz /\
    ∀ (D : fq) sc d ch pc j x5 (yr : Int) path po x10 x11 x12 x13 x14 ns as cd cs cy b u vs bs (opa : List (List Nat)) rs out out2 G, WS a.aW a.aY a.aL K G sc d ch pc j ns as cd cs cy b u vs bs -> As8 as -> cy.length = 3 -> G po = some (.lst (opa.map L2.T)) -> (∀ l ∈ opa, gcB as l = false) -> opa.length <= 8 -> out.Perm ((dk rs).map (·.1)) -> out2.Perm ((dk (mvd path (da (gcB as) rs out))).map (·.1)) -> rsd (FD (12 * yr + 11 + 1) - 1) bs = rs ++ due (gcB as) path rs out out2 -> (∀ H', D.rt (.bl true) H') ->
      tz D (sgL sc d ch pc j x5 (FD (12 * yr + 11 + 1) - 1) yr path po x10 x11 x12 x13 x14) G := by
  have sz := szl
  have sz1 := yk
  have ND := jd.nd
  have HU := bf hr
  have G_carry_rows := gv (P := P) (w := w) (base := base) T
  have b_carry_rows := gu T.cL
  have G__law_balances := gO (P := P) (w := w) (base := base) T
  have b__law_balances := gT T.cX
  have G_Journal_every := df (P := P) (w := w) (base := base) T
  have b_Journal_every := dl T.cW
  refine ⟨_, (ai (cG (bK (mM K) (fv 8) (fv 9) (by with_unfolding_all rfl)) (ak (aT tZ)) bn)
      (ai (lh (i0 := 14) ND rfl (Or.inl rfl) rfl (cl := _) (x := "_law_row") (xs := ["_law_row"]) (fr := ["_law_accounts_here"]) (ks := [1]) (by exact ⟨rfl, by decide +kernel, rfl, by decide +kernel, rfl, cg rfl, rfl, aP rfl, aP (k := fun y => List.lookup y _) rfl, ci rfl⟩) rfl (bM K (au G__law_balances (hr.mono (by decide)) rfl T.iB T.cX.kp b__law_balances .nil aK (FA.pa (aa (jf (fv 4) T.ce T.dv G_Journal_every (hr.mono (by decide)) b_Journal_every .nil aK) (aa (fv 6) ah))))) (fun _ _ _ _ _ => (aN (i := 0) (dD (l := ["_law_row", "_law_accounts_here"]) (by decide)) rfl (Or.inl rfl))) (fun _ _ _ _ _ => (fc (bK (rD K) (aU (aC K) (cx (Nat.lt_of_le_of_lt (Nat.add_le_add_left (by decide) _) HU) (fv 1) (aU (aC K) (fv 0) ae (fun _ _ => rfl)) (fun _ _ => rfl)) ae (fun _ _ => rfl)) (bR (FA.pa (aa (aE [103, 97, 105, 110]) (aa (aE [99, 111, 115, 116]) ah)))) (by with_unfolding_all rfl)))) (fun _ _ _ _ _ => (fv 0)))
      (ak (aT (dY (gn (jK K HU) (fv 14) (dH (FA.pa ah)) (bF _)) (dR (gn (jK K HU) (au G_carry_rows (hr.mono (by decide)) rfl T.ij T.cL.kp b_carry_rows .nil aK (FA.pa (aa (fv 2) (aa (fv 4) (aa (fv 8) (aa (al aJ ae (fv 7)) ah)))))) (dH (FA.pa ah)) (bF _)))))))), fun D sc d ch pc j x5 yr path po x10 x11 x12 x13 x14 ns as cd cs cy b u vs bs opa rs out out2 G W A8 lcy hpo hop lop p1 p2 er k => ?_⟩
  walk_at "rd"
  refine ⟨_, .inl (SqL.of hpo), rfl, by simp [eF], ?_⟩
  rw [AD]
  by_cases hp : ¬ path ∈ opa
  . rw [decide_eq_false hp]; exact itp rfl (k G)
  have hp := Decidable.not_not.mp hp
  have gp := hop path hp
  have nd := A8.ok.nd
  have l8 := A8.len
  rw [decide_eq_true hp]
  refine itn (by decide) (i9 ?_)
  walk_at "rd"
  obtain ⟨dj, hj⟩ := W.jo.ob
  refine ⟨dj, _, hj, lG _ _, W.nT, b, u, vs, W.jo, fun l hl => ?_⟩
  obtain ⟨G1, e1, s1, g1, N1⟩ := dS (HO.lst vs) hl W.nT rfl
  rw [e1]
  have few := W.ok.few l8 lcy (t := FD (12 * yr + 11 + 1) - 1)
  have row := W.ok.row (t := FD (12 * yr + 11 + 1) - 1)
  refine ⟨N1, vs, bs, g1, j_ s1 W.bk, W.ok.l1, W.ok.l2, by omega, ?_⟩
  intro out3 r ws H2 po3 oo3 hr hr2 a2 s2 N2
  have W2 := W.same (s1.trans s2) N2
  have nil3 : ∀ out3, da (gcB as) (rsd (FD (12 * yr + 11 + 1) - 1) bs) out3 = [] := fun out3 => by rw [er]; exact Aw gp p1 p2
  have lo : out3.length <= 24 := by rw [po3.length_eq, List.length_map]; exact few
  have lr := fo (rsd (FD (12 * yr + 11 + 1) - 1) bs) out3
  have lw := a2.len
  refine ⟨r, rfl, ⟨_, SqL.of hr2⟩, ceA RwAt.mv r ws _ (RwAt H2) (fun z => gcB as z.pa) id hr2 N2 a2 (by omega) (fun v z mz hz F zs M1 M0 sF nF hzs n1 n0 => ?_) fun D1 ws2 F hD sF nF gD aF => ?_⟩
  . obtain ⟨q, rfl, hq⟩ := hz
    have hq := sF _ _ hq
    obtain ⟨z1, rfl⟩ := ex1 hzs
    obtain ⟨r0, mr, e⟩ := (gE _).2.1 _ (po3.mem_iff.mp (h7 mz).1)
    obtain ⟨x, mx, ex⟩ := List.mem_map.mp (row r0 mr).1
    have ex : x.pa = z.pa := ex.trans (Prod.mk.inj e).1.symm
    have AF := W2.ac.same sF
    walk_at "rd"
    refine ⟨⟨[_], rfl, rfl⟩, _, _, .inr (SqT.of hq), aD (j := 0) rfl, d, .ref x.ls, rfl, ex ▸ AF.get nd mx, ?_⟩
    walk_at "rd"
    refine ⟨_, _, .inl (SqL.of (AF.ls x mx)), aD (j := 3) rfl, by walk_at "om", fun p hp => ⟨_, .inr (SqT.of ad), rfl, rfl, ?_⟩⟩
    rw [wG nd mx ex]
    have s3 := aq (HO.tup [L2.T [103, 97, 105, 110], L2.T [99, 111, 115, 116]]) hp
    cases e : gcB as z.pa with
    | true => exact itp rfl (n1 e _ _ s3 (az nF rfl) ⟨q, rfl, s3 _ _ hq⟩)
    | false => exact itn (by decide) (n0 e _ s3 (az nF rfl))
  . have aF : A2 (RwAt F) ws2 (da (gcB as) (rsd (FD (12 * yr + 11 + 1) - 1) bs) out3) := by rw [List.map_id] at aF; exact aF
    rw [nil3] at aF
    rw [zz aF] at gD
    have W3 := W2.same sF nF
    refine ⟨Nat.zero_le _, fun p hp => ?_⟩
    obtain ⟨G4, e4, s4, g4, N4⟩ := dS (HO.lst []) hp nF rfl
    rw [e4]
    walk_at "rd"
    refine ⟨_, D4 (SqL.of (s4 _ _ gD)) (SqL.of g4), ?_⟩
    have W4 := W3.same s4 N4
    refine itp rfl ⟨N4, b, u, vs, bs, as, cy, cd, cs, W4.jo, W4.bk, W4.ok, l8, lcy, nd, W4.ch_, ?_⟩
    intro out5 out6 r5 ws5 H5 p5 o5 p6 o6 hr5 hr6 a5 s5 N5
    rw [show (12 : Int) * (2000 + yr - 2000) = 12 * yr by omega] at p6 a5
    rw [BA (nil3 out5) p6] at a5
    rw [zz a5] at hr6
    refine ⟨Nat.zero_le _, fun p hp => ?_⟩
    obtain ⟨G6, e6, s6, g6, N6⟩ := dS (HO.lst []) hp N5 rfl
    rw [e6]
    walk_at "rd"
    exact ⟨_, D4 (SqL.of (s6 _ _ hr6)) (SqL.of g6), k _⟩
end
open PySem L2 K19
section
variable {P : Program} {w : World} {K : PySem.W.Frag} {mg : Str -> Option Value} {base : Heap} {a : Adr}
open K3
theorem wX (x y : V) : List.lookup (Str.ofString "put") [(Str.ofString "bookings", x), (Str.ofString "undoings", y)] = none := by rw [bB (by decide +kernel), bB (by decide +kernel)]; rfl
theorem vF {A : List (List Nat)} {cy : List (List Nat)} {rs : List Row} {out : List Pt} (po : out.Perm ((dk rs).map (·.1))) (h : ∀ r ∈ rs, r.pa ∈ A /\ r.cu ∈ cy) : ∀ r ∈ res rs out, r.pa ∈ A /\ r.cu ∈ cy := fun r m => by
  obtain ⟨r0, mr, e⟩ := (gE rs).2.1 _ (po.mem_iff.mp (h7 m).1)
  obtain ⟨e1, e2⟩ := Prod.mk.inj e
  rw [e1, e2]; exact h r0 mr
theorem DW {A : List (List Nat)} {cy : List (List Nat)} {g : List Nat -> Bool} {p : List Nat} {rs : List Row} {out out2 : List Pt} (po : out.Perm ((dk rs).map (·.1))) (po2 : out2.Perm ((dk (mvd p (da g rs out))).map (·.1))) (hp : p ∈ A) (h : ∀ r ∈ rs, r.pa ∈ A /\ r.cu ∈ cy) : ∀ r ∈ due g p rs out out2, r.pa ∈ A /\ r.cu ∈ cy := fun r m => by
  have hc : ∀ r ∈ da g rs out, r.pa ∈ A /\ r.cu ∈ cy := fun r m => vF po h r (List.mem_filter.mp m).1
  rcases List.mem_append.mp m with m | m
  . obtain ⟨z, mz, rfl⟩ := List.mem_map.mp m
    exact hc z mz
  . exact vF po2 (fun z mz => by obtain ⟨y, my, rfl⟩ := List.mem_map.mp mz; exact ⟨hp, (hc y my).2⟩) r m
theorem xc {g : List Nat -> Bool} {p : List Nat} {rs : List Row} {out out2 : List Pt} {cy : List (List Nat)} (lo : out.length <= 24) (lc : cy.length = 3) (po : out.Perm ((dk rs).map (·.1))) (po2 : out2.Perm ((dk (mvd p (da g rs out))).map (·.1))) (h : ∀ r ∈ rs, r.cu ∈ cy) : (due g p rs out out2).length <= 27 := by
  unfold due
  have l1 : (trn (da g rs out)).length = (da g rs out).length := List.length_map ..
  have l2 : (da g rs out).length <= 24 := Nat.le_trans (List.length_filter_le _ _) (Nat.le_trans (fo _ _) lo)
  have l3 := fo (mvd p (da g rs out)) out2
  have l4 : (dk (mvd p (da g rs out))).length <= 3 := by
    have := v3 (rs := mvd p (da g rs out)) (ps := [p]) (cu := cy) fun r m => by
      obtain ⟨z, mz, rfl⟩ := List.mem_map.mp m
      exact ⟨List.mem_singleton.mpr rfl, (vF (A := rs.map (·.pa)) (cy := cy) po (fun y my => ⟨List.mem_map_of_mem my, h y my⟩) z (List.mem_filter.mp mz).1).2⟩
    rw [lc] at this; simpa using this
  have l5 := po2.length_eq
  rw [List.length_map] at l5
  rw [List.length_append]; omega
structure DS (H0 G : Hp) (as : List La) (t : Int) (path : List Nat) (bs : List Bk) (q f : Addr) (ws1 ws2 : List V) (out out2 : List Pt) : Prop where
  s0 : Same H0 G
  nT : NoT G
  f0 : H0 f = none
  ff : G f = some (.lst ws1)
  qq : G q = some (.lst ws2)
  qf : q ≠ f
  l1 : ws1.length <= 500
  a2 : A2 (RwAt G) ws2 (due (gcB as) path (rsd t bs) out out2)
  p1 : out.Perm ((dk (rsd t bs)).map (·.1))
  o1 : qa out
  p2 : out2.Perm ((dk (mvd path (da (gcB as) (rsd t bs) out))).map (·.1))
  o2 : qa out2
  pi : path ∈ as.map (·.pa)
structure xa (H : Hp) (as : List La) (po : Addr) (opa : List (List Nat)) : Prop where
  at_ : H po = some (.lst (opa.map L2.T))
  gc : ∀ l ∈ opa, gcB as l = false
  le : opa.length <= 8
theorem p16 (T : Txt K mg a) {cdv : Value} {A : Around} {outer : List Env} {s : Shared} {H : Hp} {E : XK} (hr : Room 9 (A.deeper (PyProof.Rows.envOfC "law" (ag cI) s.heap.objs.size a.fT cdv))) : ∃ tz, PSs (eL (XE P w) P w K mg base ["_law_script", "_law_accounts_here", "_law_chart_here", "_law_currencies_here", "_law_journal", "_law_k", "_law_day_here", "_law_year", "_law_path", "_law_own", "_law_bookings", "_law_due_here", "_law_found", "_law_currency", "_law_rest"] "law" (ag cI) a.fT cdv A outer s H E) (List.drop 16 (aA cI)) tz /\
    ∀ (D : fq) sc d ch pc j x5 (yr : Int) path po x10 q f x13 x14 ns as cd cs cy b u vs bs (opa : List (List Nat)) ws1 ws2 out out2 H0 G, WS a.aW a.aY a.aL K H0 sc d ch pc j ns as cd cs cy b u vs bs -> As8 as -> cy.length = 3 -> bs.length <= 12 -> xa H0 as po opa -> DS H0 G as (FD (12 * yr + 11 + 1) - 1) path bs q f ws1 ws2 out out2 -> po ≠ b -> (∀ H', D.rt (.bl true) H') ->
      tz D (sgL sc d ch pc j x5 (FD (12 * yr + 11 + 1) - 1) yr path po x10 (some (.ref q)) (some (.ref f)) x13 x14) G := by
  have sz := szl
  have sz1 := yk
  have ND := jd.nd
  have HU := bf hr
  have G_carry_rows := gv (P := P) (w := w) (base := base) T
  have b_carry_rows := gu T.cL
  have G_Journal_put := iX (P := P) (w := w) (base := base) T
  have b_Journal_put := iP T.gC
  obtain ⟨u19, hu19, k19⟩ := p19 (P := P) (w := w) (base := base) T (cdv := cdv) (A := A) (outer := outer) (s := s) (H := H) (E := E) hr
  refine ⟨_, (ai (dF (fN K PySem.F.plainAttrs_list PySem.F.slot_list_append PySem.F.type_list_append d4 (fv 12) (FA.pa (aa fL ah))))
      (ai (cG (bK (hZ K HU) (au G_carry_rows (hr.mono (by decide)) rfl T.ij T.cL.kp b_carry_rows .nil aK (FA.pa (aa (fv 2) (aa (fv 4) (aa (fv 8) (aa (al aJ ae (fv 7)) ah)))))) (fv 11) (bF _)) (ak (aT tZ)) bn)
      (ai (cG (bK (hZ K HU) (fv 11) (dH (FA.pa ah)) (bF _)) (ak (dF (cY (fv 4) T.ce T.iI G_Journal_put (hr.mono (by decide)) b_Journal_put .nil aK (FA.pa (aa (fv 6) (aa (aE [99, 97, 114, 114, 121]) (aa (fv 11) (aa fL ah)))))))) bn)
      hu19))), fun D sc d ch pc j x5 yr path po x10 q f x13 x14 ns as cd cs cy b u vs bs opa ws1 ws2 out out2 H0 G W A8 lcy lbs O S npb k => ?_⟩
  have nd := A8.ok.nd
  have l8 := A8.len
  have few := W.ok.few l8 lcy (t := FD (12 * yr + 11 + 1) - 1)
  have row := W.ok.row (t := FD (12 * yr + 11 + 1) - 1)
  have lo : out.length <= 24 := by rw [S.p1.length_eq, List.length_map]; exact few
  have l1 := S.l1
  walk_at "rd"
  refine ⟨.inl ⟨_, SqL.of S.ff⟩, f, ws1, _, rfl, rfl, S.ff, by omega, ?_⟩
  have s1 : Same H0 (upd G f (HO.lst (ws1 ++ [V.non]))) := d_ S.s0 S.f0
  have N1 : NoT (upd G f (HO.lst (ws1 ++ [V.non]))) := az S.nT rfl
  have kf : Keep [f] G (upd G f (HO.lst (ws1 ++ [V.non]))) := Keep.refl.put (.head _)
  have q1 := kf _ _ S.qq (by simpa using S.qf)
  have a1 := dq kf (LW.one S.ff) S.a2
  generalize upd G f (HO.lst (ws1 ++ [V.non])) = G1 at s1 N1 q1 a1 ⊢
  have W1 := W.same s1 N1
  refine ⟨N1, b, u, vs, bs, as, cy, cd, cs, W1.jo, W1.bk, W1.ok, l8, lcy, nd, W1.ch_, ?_⟩
  intro out5 out6 r5 ws5 H5 p5 o5 p6 o6 hr5 hr6 a5 s5 N5
  rw [show (12 : Int) * (2000 + yr - 2000) = 12 * yr by omega] at p5 p6 a5
  obtain rfl : out5 = out := gZ (p5.trans S.p1.symm) o5 S.o1
  obtain rfl : out6 = out2 := gZ (p6.trans S.p2.symm) o6 S.o2
  walk_at "rd"
  refine ⟨_, yR hr6 (s5 _ _ q1) a5 (bj s5 a1), itn (by decide) ⟨Nat.zero_le _, fun p hp => ?_⟩⟩
  obtain ⟨G6, e6, s6, g6, N6⟩ := dS (HO.lst []) hp N5 rfl
  rw [e6]
  have s56 := s5.trans s6
  have q6 := s56 _ _ q1
  have a6 := bj s56 a1
  have W6 := W1.same s56 N6
  have O6 : G6 po = _ := (s1.trans s56) _ _ O.at_
  walk_at "rd"
  refine ⟨_, D4 (SqL.of q6) (SqL.of g6), ?_⟩
  cases ee : ws2.isEmpty with
  | true =>
    have ed : due (gcB as) path (rsd (FD (12 * yr + 11 + 1) - 1) bs) out5 out6 = [] := by
      have := a6.len
      rw [List.isEmpty_iff.mp ee] at this
      exact List.length_eq_zero_iff.mp this.symm
    exact itn (by decide) (k19 D sc d ch pc j x5 yr path po _ _ _ _ _ ns as cd cs cy b u vs bs opa _ out5 out6 G6 W6 A8 lcy O6 O.gc O.le S.p1 S.p2 (by rw [ed, List.append_nil]) k)
  | false =>
    obtain ⟨dj, hj⟩ := W6.jo.ob
    have lv := W6.bk.len
    refine itp rfl ⟨dj, _, hj, wX _ _, N6, b, u, vs, ws2, W6.jo, by omega, q6, fun t q1 H7 ht ht7 hq1 hq7 J7 K7 N7 => ?_⟩
    have W7 := W6.put K7 N7 J7 ht7 a6 hq7 (by omega) (Nat.le_trans (xc lo lcy S.p1 S.p2 fun r m => (row r m).2) (by decide)) (DW S.p1 S.p2 S.pi row)
    exact k19 D sc d ch pc j x5 yr path po _ _ _ _ _ ns as cd cs cy b u _ _ opa _ out5 out6 H7 W7 A8 lcy (K7 _ _ O6 (by simpa using npb)) O.gc O.le S.p1 S.p2 (by rw [ui, if_pos (Int.le_refl _)]) k
theorem p13 (T : Txt K mg a) {cdv : Value} {A : Around} {outer : List Env} {s : Shared} {H : Hp} {E : XK} (hr : Room 9 (A.deeper (PyProof.Rows.envOfC "law" (ag cI) s.heap.objs.size a.fT cdv))) : ∃ tz, PSs (eL (XE P w) P w K mg base ["_law_script", "_law_accounts_here", "_law_chart_here", "_law_currencies_here", "_law_journal", "_law_k", "_law_day_here", "_law_year", "_law_path", "_law_own", "_law_bookings", "_law_due_here", "_law_found", "_law_currency", "_law_rest"] "law" (ag cI) a.fT cdv A outer s H E) (List.drop 13 (aA cI)) tz /\
    ∀ (D : fq) sc d ch pc j x5 (yr : Int) path po bk q f x13 x14 ns as cd cs cy b u vs bs (opa : List (List Nat)) ws1 ws2 out out2 H0 G, WS a.aW a.aY a.aL K H0 sc d ch pc j ns as cd cs cy b u vs bs -> As8 as -> cy.length = 3 -> bs.length <= 12 -> xa H0 as po opa -> DS H0 G as (FD (12 * yr + 11 + 1) - 1) path bs q f ws1 ws2 out out2 -> A2 (RwAt G) ws1 (due (gcB as) path (rsd (FD (12 * yr + 11 + 1) - 1) bs) out out2) -> G bk = some (.lst vs) -> po ≠ b -> (∀ H', D.rt (.bl true) H') ->
      tz D (sgL sc d ch pc j x5 (FD (12 * yr + 11 + 1) - 1) yr path po (some (.ref bk)) (some (.ref q)) (some (.ref f)) x13 x14) G := by
  have sz := szl
  have sz1 := yk
  have ND := jd.nd
  have HU := bf hr
  have G_Journal_every := df (P := P) (w := w) (base := base) T
  have b_Journal_every := dl T.cW
  have G__law_whole := pW (P := P) (w := w) (base := base) T
  have b__law_whole := pU T.ia
  obtain ⟨u16, hu16, k16⟩ := p16 (P := P) (w := w) (base := base) T (cdv := cdv) (A := A) (outer := outer) (s := s) (H := H) (E := E) hr
  refine ⟨_, (ai (cG (L2.PW.pt (wZ (gz (eO (aQ (eD K) rfl T.bQ bC (FA.pa (aa (fv 12) (aa (eC (v := .ty "list") rfl T.sU nP rfl) ah)))))) (wZ (bK (hZ K HU) (fv 12) (fv 11) (bF _)) (wm (bK (hZ K HU) (jf (fv 4) T.ce T.dv G_Journal_every (hr.mono (by decide)) b_Journal_every .nil aK) (fv 10) (bF _)))))) (ak (aT tZ)) bn)
      (ai (cG (gz (eO (aQ (r_ K rfl) rfl T.Af vn (FA.pa (aa (cn rfl (cl := _) (x := "_law_row") (xs := ["_law_row"]) (fr := []) (ks := []) (by exact ⟨rfl, by decide +kernel, rfl, by decide +kernel, rfl, cg rfl, rfl, aP rfl, aP (k := fun y => List.lookup y _) rfl, ci rfl⟩) rfl (bM K (fv 12)) (fun _ _ _ _ _ => (aN (i := 0) (dD (l := ["_law_row"]) (by decide)) rfl (Or.inl rfl))) (fun _ _ _ _ _ => fj) (fun _ _ _ _ _ => (dY (aQ (eD K) rfl T.bQ bC (FA.pa (aa (fv 0) (aa (eC (v := .ty "tuple") rfl T.rH oS rfl) ah)))) (dR (au G__law_whole (hr.mono (by decide)) rfl T.sQ T.ia.kp b__law_whole .nil u1 (FA.pa (aa (aU (aC K) (fv 0) ae (fun _ _ => rfl)) ah))))))) ah))))) (ak (aT tZ)) bn)
      (ai (d8 (by passes_own) rfl (bM K (fv 3)) (aN (i := 13) ND rfl (Or.inr rfl)) (ak (cG (bK (hZ K HU) (aQ (rR K rfl) rfl T.yO vO (FA.pa (aa (cn rfl (cl := _) (x := "_law_row") (xs := ["_law_row"]) (fr := ["_law_currency"]) (ks := [13]) (by exact ⟨rfl, by decide +kernel, rfl, by decide +kernel, rfl, cg rfl, rfl, aP rfl, aP (k := fun y => List.lookup y _) rfl, ci rfl⟩) rfl (bM K (fv 12)) (fun _ _ _ _ _ => (aN (i := 0) (dD (l := ["_law_row", "_law_currency"]) (by decide)) rfl (Or.inl rfl))) (fun _ _ _ _ _ => (fc (bK (jK K HU) (aU (aC K) (fv 0) ae (fun _ _ => rfl)) (fv 1) (bF _)))) (fun _ _ _ _ _ => (aU (aC K) (fv 0) ae (fun _ _ => rfl)))) ah))) ae (bF _)) (ak (aT tZ)) bn)))
      hu16))), fun D sc d ch pc j x5 yr path po bk q f x13 x14 ns as cd cs cy b u vs bs opa ws1 ws2 out out2 H0 G W A8 lcy lbs O S af hbk npb k => ?_⟩
  have kq : iq G (.ref f) = some "list" := by simp [iq, S.ff]
  have WG := W.same S.s0 S.nT
  obtain ⟨dj, hj⟩ := WG.jo.ob
  have l1 := S.l1
  have lf := af.len
  walk_at "rd"
  simp only [kq]
  refine itn (by decide) ⟨_, yR S.ff S.qq af S.a2, itn (by decide) ?_⟩
  walk_at "rd"
  refine ⟨dj, _, hj, lG _ _, S.nT, b, u, vs, WG.jo, fun l hl => ?_⟩
  obtain ⟨G1, e1, s1, g1, N1⟩ := dS (HO.lst vs) hl S.nT rfl
  rw [e1]
  refine ⟨_, DZ g1 (s1 _ _ hbk) (j_ s1 WG.bk), itn (by decide) ?_⟩
  have mvS : ∀ {G2 : Hp}, Same G G2 -> NoT G2 -> DS H0 G2 as (FD (12 * yr + 11 + 1) - 1) path bs q f ws1 ws2 out out2 := fun {G2} s n => ⟨S.s0.trans s, n, S.f0, s _ _ S.ff, s _ _ S.qq, S.qf, S.l1, bj s S.a2, S.p1, S.o1, S.p2, S.o2, S.pi⟩
  refine i9 ?_
  walk_at "rd"
  have af1 := bj s1 af
  refine ⟨⟨_, SqL.of (s1 _ _ S.ff)⟩, ceA (S := fun _ (v : V) (c : Bool) => v = .bl c) (fun _ _ _ _ _ h => h) f ws1 _ (RwAt G1) (fun _ => true) (fun _ => true) (s1 _ _ S.ff) N1 af1 (by omega) (fun v z mz hz F zs M1 M0 sF nF hzs n1 n0 => ?_) fun D1 ws3 F hD sF nF gD aF => ?_⟩
  . obtain ⟨q1, rfl, hq⟩ := hz
    have hq := sF _ _ hq
    obtain ⟨z1, rfl⟩ := ex1 hzs
    have kt : iq F (.ref q1) = some "tuple" := by simp [iq, hq]
    walk_at "rd"
    simp only [kt]
    exact ⟨⟨[_], rfl, rfl⟩, itp rfl ⟨_, _, .inr (SqT.of hq), aD (j := 2) rfl, n1 rfl _ _ (Same.refl _) nF rfl⟩⟩
  . rw [Ek aF] at gD
    walk_at "rd"
    refine ⟨_, SqL.of gD, ?_⟩
    rw [List.all_eq_true.mpr fun x mx => by obtain ⟨_, _, rfl⟩ := List.mem_map.mp mx; rfl]
    refine itn (by decide) (iL ?_)
    walk_at "rd"
    have s2 := s1.trans sF
    have cF := s2 _ _ WG.cc
    have afF := bj s2 af
    refine iV (xs := cy.map L2.T) (SqL.of cF) (iW (xs := cy.map L2.T) (fun i σ' G' => Same F G' /\ NoT G' /\ ∃ x13, σ' = sgL sc d ch pc j x5 (FD (12 * yr + 11 + 1) - 1) yr path po (some (.ref bk)) (some (.ref q)) (some (.ref f)) x13 x14) ⟨Same.refl _, nF, _, rfl⟩ (fun i σ' G' _ h => SqL.of (h.1 _ _ cF)) ?_ ?_)
    . rintro i x σ' G' hx ⟨sG, nG, x13, rfl⟩
      rw [List.getElem?_map] at hx
      obtain ⟨c, _, rfl⟩ := Option.map_eq_some_iff.mp hx
      have fG := sG _ _ (s2 _ _ S.ff)
      walk_at "rd"
      refine i9 ?_
      walk_at "rd"
      refine ⟨⟨_, SqL.of fG⟩, ceA (S := fun _ (v : V) (c : Int) => v = .int c) (fun _ _ _ _ _ h => h) f ws1 _ (RwAt G') (fun z => decide (z.cu = c)) (fun z => z.am) fG nG (bj sG afF) (by omega) (fun v z mz hz F2 zs M1 M0 sF2 nF2 hzs n1 n0 => ?_) fun D2 ws4 F2 hD2 sF2 nF2 gD2 aF2 => ?_⟩
      . obtain ⟨q1, rfl, hq⟩ := hz
        have hq := sF2 _ _ hq
        obtain ⟨z1, rfl⟩ := ex1 hzs
        walk_at "rd"
        refine ⟨⟨[_], rfl, rfl⟩, _, _, .inr (SqT.of hq), aD (j := 1) rfl, ?_⟩
        walk_at "rd"
        by_cases hc : z.cu = c
        . exact itp hc ⟨_, _, .inr (SqT.of hq), aD (j := 2) rfl, n1 (decide_eq_true hc) _ _ (Same.refl _) nF2 rfl⟩
        . exact itn hc (n0 (decide_eq_false hc) _ (Same.refl _) nF2)
      . rw [AV aF2] at gD2
        walk_at "rd"
        refine ⟨_, .inl (SqL.of gD2), ?_⟩
        rw [xx, CN S.p2]
        walk_at "rd"
        exact ⟨sG.trans sF2, nF2, _, rfl⟩
    . rintro σ' G' ⟨sG, nG, x13, rfl⟩
      exact k16 D sc d ch pc j x5 yr path po _ q f _ _ ns as cd cs cy b u vs bs opa ws1 ws2 out out2 H0 G' W A8 lcy lbs O (mvS (s2.trans sG) nG) npb k
end
open PySem L2 K19
section
variable {P : Program} {w : World} {K : PySem.W.Frag} {mg : Str -> Option Value} {base : Heap} {a : Adr}
open K3
theorem p10 (T : Txt K mg a) {cdv : Value} {A : Around} {outer : List Env} {s : Shared} {H : Hp} {E : XK} (hr : Room 9 (A.deeper (PyProof.Rows.envOfC "law" (ag cI) s.heap.objs.size a.fT cdv))) : ∃ tz, PSs (eL (XE P w) P w K mg base ["_law_script", "_law_accounts_here", "_law_chart_here", "_law_currencies_here", "_law_journal", "_law_k", "_law_day_here", "_law_year", "_law_path", "_law_own", "_law_bookings", "_law_due_here", "_law_found", "_law_currency", "_law_rest"] "law" (ag cI) a.fT cdv A outer s H E) (List.drop 10 (aA cI)) tz /\
    ∀ (D : fq) sc d ch pc j x5 (yr : Int) path po x10 x11 x12 x13 x14 ns as cd cs cy b u vs bs (opa : List (List Nat)) G, WS a.aW a.aY a.aL K G sc d ch pc j ns as cd cs cy b u vs bs -> As8 as -> cy.length = 3 -> bs.length <= 12 -> xa G as po opa -> path ∈ as.map (·.pa) -> po ≠ b -> (∀ H', D.rt (.bl true) H') ->
      tz D (sgL sc d ch pc j x5 (FD (12 * yr + 11 + 1) - 1) yr path po x10 x11 x12 x13 x14) G := by
  have sz := szl
  have ND := jd.nd
  have HU := bf hr
  have G_carry_rows := gv (P := P) (w := w) (base := base) T
  have b_carry_rows := gu T.cL
  have G_Journal_every := df (P := P) (w := w) (base := base) T
  have b_Journal_every := dl T.cW
  have G__law_due := u0 (P := P) (w := w) (base := base) T
  have b__law_due := uR T.j1
  obtain ⟨u13, hu13, k13⟩ := p13 (P := P) (w := w) (base := base) T (cdv := cdv) (A := A) (outer := outer) (s := s) (H := H) (E := E) hr
  refine ⟨_, (ai (aM (i := 10) ND rfl (Or.inl rfl) (jf (fv 4) T.ce T.dv G_Journal_every (hr.mono (by decide)) b_Journal_every .nil aK))
      (ai (aM (i := 11) ND rfl (Or.inl rfl) (au G__law_due (hr.mono (by decide)) rfl T.v7 T.j1.kp b__law_due .nil aK (FA.pa (aa (fv 1) (aa (fv 10) (aa (fv 8) (aa (fv 6) ah)))))))
      (ai (aM (i := 12) ND rfl (Or.inl rfl) (au G_carry_rows (hr.mono (by decide)) rfl T.ij T.cL.kp b_carry_rows .nil aK (FA.pa (aa (fv 2) (aa (fv 4) (aa (fv 8) (aa (al aJ ae (fv 7)) ah)))))))
      hu13))), fun D sc d ch pc j x5 yr path po x10 x11 x12 x13 x14 ns as cd cs cy b u vs bs opa G W A8 lcy lbs O hpi npb k => ?_⟩
  have nd := A8.ok.nd
  have l8 := A8.len
  have few := W.ok.few l8 lcy (t := FD (12 * yr + 11 + 1) - 1)
  have row := W.ok.row (t := FD (12 * yr + 11 + 1) - 1)
  obtain ⟨dj, hj⟩ := W.jo.ob
  walk_at "rd"
  refine ⟨dj, _, hj, lG _ _, W.nT, b, u, vs, W.jo, fun bk hbk => ?_⟩
  obtain ⟨G1, e1, s1, g1, N1⟩ := dS (HO.lst vs) hbk W.nT rfl
  rw [e1]
  have W1 := W.same s1 N1
  refine ⟨N1, vs, bs, as, cy, W1.ac, g1, W1.bk, W1.ok, l8, lcy, nd, ?_⟩
  intro out out2 q ws2 H2 p1 o1 p2 o2 hq hq2 a2 s2 N2
  have W2 := W1.same s2 N2
  walk_at "rd"
  refine ⟨N2, b, u, vs, bs, as, cy, cd, cs, W2.jo, W2.bk, W2.ok, l8, lcy, nd, W2.ch_, ?_⟩
  intro out5 out6 f ws1 H3 p5 o5 p6 o6 hf hf3 a3 s3 N3
  rw [show (12 : Int) * (2000 + yr - 2000) = 12 * yr by omega] at p5 p6 a3
  obtain rfl : out5 = out := gZ (p5.trans p1.symm) o5 o1
  obtain rfl : out6 = out2 := gZ (p6.trans p2.symm) o6 o2
  have lo : out5.length <= 24 := by rw [p1.length_eq, List.length_map]; exact few
  have ld := xc lo lcy p1 p2 fun r m => (row r m).2
  have l3 := a3.len
  exact k13 D sc d ch pc j x5 yr path po bk q f _ _ ns as cd cs cy b u vs bs opa ws1 ws2 out5 out6 G H3 W A8 lcy lbs O ⟨s1.trans (s2.trans s3), N3, (s1.trans s2).free hf, hf3, s3 _ _ hq2, av hq2 hf, by omega, bj s3 a2, p1, o1, p2, o2, hpi⟩ a3 ((s2.trans s3) _ _ g1) npb k
theorem p5 (T : Txt K mg a) {cdv : Value} {A : Around} {outer : List Env} {s : Shared} {H : Hp} {E : XK} (hr : Room 9 (A.deeper (PyProof.Rows.envOfC "law" (ag cI) s.heap.objs.size a.fT cdv))) : ∃ tz, PSs (eL (XE P w) P w K mg base ["_law_script", "_law_accounts_here", "_law_chart_here", "_law_currencies_here", "_law_journal", "_law_k", "_law_day_here", "_law_year", "_law_path", "_law_own", "_law_bookings", "_law_due_here", "_law_found", "_law_currency", "_law_rest"] "law" (ag cI) a.fT cdv A outer s H E) (List.drop 5 (aA cI)) tz /\
    ∀ (D : fq) sc d ch pc j x5 x6 x7 x8 x9 x10 x11 x12 x13 x14 ns as cd cs cy b u vs bs G, WS a.aW a.aY a.aL K G sc d ch pc j ns as cd cs cy b u vs bs -> As8 as -> cy.length = 3 -> bs.length <= 12 -> (∀ H', D.rt (.bl true) H') ->
      tz D [some (.ref sc), some (.ref d), some (.ref ch), some (.ref pc), some (.ref j), x5, x6, x7, x8, x9, x10, x11, x12, x13, x14] G := by
  have sz := szl
  have ND := jd.nd
  have HU := bf hr
  have G__law_cell_at := bW (P := P) (w := w) (base := base) T
  have b__law_cell_at := bV T.aI
  have G__law_month_ends := fF (P := P) (w := w) (base := base) T
  have b__law_month_ends := fY T.cE
  have G__law_month := qd (P := P) (w := w) (base := base) T
  have b__law_month := pQ T.hJ
  have G__law_base := hX (P := P) (w := w) (base := base) T
  have b__law_base := hE T.de
  obtain ⟨u10, hu10, k10⟩ := p10 (P := P) (w := w) (base := base) T (cdv := cdv) (A := A) (outer := outer) (s := s) (H := H) (E := E) hr
  refine ⟨_, (ai (aM (i := 7) ND rfl (Or.inl rfl) (aQ (zq rfl) rfl T.Cn AJ (FA.pa (aa ae (aa (al aJ (al bg (au G__law_month (hr.mono (by decide)) rfl T.rW T.hJ.kp b__law_month .nil aK (FA.pa (aa (au G__law_base (hr.mono (by decide)) rfl T.iR T.de.kp b__law_base .nil aK (FA.pa (aa (fv 0) ah))) ah))) ae) (al bg (al bz (au G__law_cell_at (hr.mono (by decide)) rfl T.aX T.aI.kp b__law_cell_at .nil aK (FA.pa (aa (fv 0) (aa ae ah)))) ae) ae)) ah)))))
      (ai (aM (i := 6) ND rfl (Or.inl rfl) (aU (aC K) (au G__law_month_ends (hr.mono (by decide)) rfl T.gq T.cE.kp b__law_month_ends .nil aK (FA.pa (aa (al aJ (al fK ae (fv 7)) ae) ah))) ae (fun _ _ => rfl)))
      (ai (aM (i := 8) ND rfl (Or.inl rfl) (aU (aC K) (fw (zo rfl) rfl T.sU nP (FA.pa (aa (fv 1) ah))) (al bz (au G__law_cell_at (hr.mono (by decide)) rfl T.aX T.aI.kp b__law_cell_at .nil aK (FA.pa (aa (fv 0) (aa ae ah)))) (aQ B2 rfl T.iD eM (FA.pa (aa (fv 1) ah)))) (fun _ _ => rfl)))
      (ai (nJ (lh (i0 := 9) ND rfl (Or.inl rfl) rfl (cl := _) (x := "_law_one") (xs := ["_law_one"]) (fr := ["_law_accounts_here"]) (ks := [1]) (by exact ⟨rfl, by decide +kernel, rfl, by decide +kernel, rfl, cg rfl, rfl, aP rfl, aP (k := fun y => List.lookup y _) rfl, ci rfl⟩) rfl (nQ (fv 1)) (fun _ _ _ _ _ => (aN (i := 0) (dD (l := ["_law_one", "_law_accounts_here"]) (by decide)) rfl (Or.inl rfl))) (fun _ _ _ _ _ => (fc (bK (mM K) (aU (aC K) (cx (Nat.lt_of_le_of_lt (Nat.add_le_add_left (by decide) _) HU) (fv 1) (fv 0) (fun _ _ => rfl)) ae (fun _ _ => rfl)) (bR (FA.pa (aa (aE [103, 97, 105, 110]) (aa (aE [99, 111, 115, 116]) ah)))) (by with_unfolding_all rfl)))) (fun _ _ _ _ _ => (fv 0))))
      (ai (cG (bK zc (al bz (al bg (au G__law_cell_at (hr.mono (by decide)) rfl T.aX T.aI.kp b__law_cell_at .nil aK (FA.pa (aa (fv 0) (aa ae ah)))) ae) ae) ae (bF _)) (ak (aM (i := 8) ND rfl (Or.inl rfl) (aU (aC K) (fv 9) (al bz (au G__law_cell_at (hr.mono (by decide)) rfl T.aX T.aI.kp b__law_cell_at .nil aK (FA.pa (aa (fv 0) (aa ae ah)))) (aQ (dN K) rfl T.iD eM (FA.pa (aa (fv 9) ah)))) (fun _ _ => rfl)))) bn)
      hu10))))), fun D sc d ch pc j x5 x6 x7 x8 x9 x10 x11 x12 x13 x14 ns as cd cs cy b u vs bs G W A8 lcy lbs k => ?_⟩
  have nd := A8.ok.nd
  have l8 := A8.len
  walk_at "rd"
  refine ⟨ns, W.sc_.1, fun i i0 i1 => ⟨W.nT, ⟨by omega, by omega⟩, fun m H1 m0 s1 N1 => ⟨ns, W.sc_.1.same s1, fun c => ?_⟩⟩⟩
  have W1 := W.same s1 N1
  generalize (if m / 12 + c % 4 / 3 < 399 then m / 12 + c % 4 / 3 else 399) = yr
  refine ⟨N1, fun p H2 s2 N2 hp => ⟨_, _, .inr (SqT.of hp), aD (j := 1) rfl, _, (W1.same s2 N2).dc, fun l hl => ?_⟩⟩
  obtain ⟨G3, e3, s3, g3, N3⟩ := dS (HO.lst ((as.map kyL).map fun e => kV e.1)) hl N2 rfl
  rw [e3]
  have W3 := (W1.same s2 N2).same s3 N3
  have as0 : 0 < as.length := by obtain ⟨x, mx, _⟩ := A8.own; exact List.length_pos_of_mem mx
  obtain ⟨pth, hpt⟩ : ∃ pth : Int -> List Nat, ∀ x, pth x ∈ as.map (·.pa) /\ atI ((as.map kyL).map fun e => kV e.1) (x % ((as.map kyL).length : Int)) = some (L2.T (pth x)) := by
    have : ∀ x : Int, ∃ l, l ∈ as.map (·.pa) /\ atI ((as.map kyL).map fun e => kV e.1) (x % ((as.map kyL).length : Int)) = some (L2.T l) := fun x => by
      have p0 : (0 : Int) < ((as.map kyL).length : Int) := by rw [List.length_map]; omega
      obtain ⟨i, e⟩ := Int.eq_ofNat_of_zero_le (Int.emod_nonneg x (Int.ne_of_gt p0))
      have b := Int.emod_lt_of_pos x p0
      rw [e] at b ⊢
      rw [List.length_map] at b
      have hi : i < as.length := by omega
      exact ⟨as[i].pa, List.mem_map_of_mem (List.getElem_mem hi), aD (by rw [List.getElem?_map, List.getElem?_map, List.getElem?_eq_getElem hi]; rfl)⟩
    exact Classical.axiomOfChoice this
  refine ⟨ns, W3.sc_.1, fun c2 => ⟨_, W3.dc, by rw [List.length_map]; omega, _, _, .inl (SqL.of g3), (hpt c2).2, ?_⟩⟩
  have pi2 := (hpt c2).1
  generalize pth c2 = pa at pi2 ⊢
  refine Cv ?_
  walk_at "rd"
  refine ⟨d, .dK (as.map kyL), rfl, rfl, .inl W3.dc, fun o _ => CB d o (.dK (as.map kyL)) (fun D i ys F => F D = some (.lst ys) /\ F d = some (.frz o (.dK (as.map kyL))) /\ G3 D = none /\ D ≠ d /\ NoT F /\ (∀ c z, c ≠ d -> G3 c = some z -> F c = some z) /\ ys = (((as.take i).filter fun x => !gcB as x.pa).map fun x => L2.T x.pa)) (by show (as.map kyL).length < _; rw [List.length_map, sizeLine_eq]; omega) ?_ ?_ ?_ ?_⟩
  . intro D1 hD
    have nb : D1 ≠ d := fun z => by rw [z, ad] at hD; cases hD
    rw [aj nb] at hD
    refine ⟨ad, (aj (Ne.symm nb)).trans ad, hD, nb, az (az N3 rfl) rfl, fun c z cb e => ?_, rfl⟩
    rw [aj (av e hD), aj cb]; exact e
  . rintro D1 i ys F ⟨g1, g2, _, _, _, _, rfl⟩
    refine ⟨g1, g2, ?_⟩
    rw [List.length_map]
    exact Nat.le_trans (List.length_filter_le _ _) (by rw [List.length_take]; omega)
  . rintro D1 i y v ys F zs M1 M0 hi en ⟨g1, g2, hD, nb, nF, kp, rfl⟩ hzs n1 n0
    obtain ⟨x, ex, rfl, rfl⟩ := vq en
    have mx := List.mem_of_getElem? ex
    obtain ⟨z1, rfl⟩ := ex1 hzs
    have hx : F x.ls = some (.lst [cuV x.cu, .int x.fi, cl x.un, L2.T x.ki]) := kp _ _ (e9 (W3.ac.ls x mx) W3.dc (by intro z; cases z)) (W3.ac.ls x mx)
    have et : as.take (i + 1) = as.take i ++ [x] := by rw [List.take_succ, ex]; rfl
    rw [et, List.filter_append, List.map_append] at n1 n0
    refine ⟨⟨[_], rfl, rfl⟩, ?_⟩
    walk_at "rd"
    refine ⟨d, .ref x.ls, rfl, vH nd mx g2, ?_⟩
    walk_at "rd"
    refine ⟨_, _, .inl (SqL.of hx), aD (j := 3) rfl, by walk_at "om", fun p hp => ⟨_, .inr (SqT.of ad), rfl, rfl, ?_⟩⟩
    rw [wG nd mx rfl]
    have s5 := aq (HO.tup [L2.T [103, 97, 105, 110], L2.T [99, 111, 115, 116]]) hp
    have N5 : NoT (upd F p (HO.tup [L2.T [103, 97, 105, 110], L2.T [99, 111, 115, 116]])) := az nF rfl
    generalize upd F p (HO.tup [L2.T [103, 97, 105, 110], L2.T [99, 111, 115, 116]]) = F5 at s5 N5 ⊢
    cases e : gcB as x.pa with
    | true =>
      rw [List.filter_cons_of_neg (by simp [e]), List.filter_nil, List.map_nil, List.append_nil] at n0
      exact itn (by decide) (n0 _ ⟨s5 _ _ g1, s5 _ _ g2, hD, nb, N5, fun c z cb ec => s5 _ _ (kp c z cb ec), rfl⟩)
    | false =>
      rw [List.filter_cons_of_pos (by simp [e]), List.filter_nil] at n1
      refine itp (by decide) (n1 _ _ (s5 _ _ g1) ⟨ad, (aj (Ne.symm nb)).trans (s5 _ _ g2), hD, nb, az N5 rfl, fun c z cb ec => ?_, rfl⟩)
      rw [aj (av ec hD)]; exact s5 _ _ (kp c z cb ec)
  . rintro po ys F ⟨g1, g2, hD, nb, nF, kp, rfl⟩
    have ln : gb (.dK (as.map kyL)) = as.length := List.length_map ..
    rw [ln, List.take_length] at g1
    walk_at "rd"
    refine ⟨d, o, _, g2, .inl ⟨W3.dc, rfl, ?_⟩⟩
    have s6 : Same G3 (upd F d (.dK (as.map kyL))) := fun c z ec => by
      by_cases cb : c = d
      . rw [cb, ad]; rw [cb, W3.dc] at ec; exact ec
      . rw [aj cb]; exact kp c z cb ec
    have N6 : NoT (upd F d (.dK (as.map kyL))) := az nF rfl
    have g6 : upd F d (.dK (as.map kyL)) po = _ := (aj nb).trans g1
    generalize upd F d (.dK (as.map kyL)) = G6 at s6 N6 g6 ⊢
    have W6 := W3.same s6 N6
    have eo : ((as.filter fun x => !gcB as x.pa).map fun x => L2.T x.pa) = ((as.filter fun x => !gcB as x.pa).map (·.pa)).map L2.T := by rw [List.map_map]; rfl
    rw [eo] at g6
    have ol : ((as.filter fun x => !gcB as x.pa).map (·.pa)).length <= 8 := by rw [List.length_map]; exact Nat.le_trans (List.length_filter_le _ _) l8
    have og : ∀ l ∈ (as.filter fun x => !gcB as x.pa).map (·.pa), gcB as l = false /\ l ∈ as.map (·.pa) := fun l m => by
      obtain ⟨x, mx, rfl⟩ := List.mem_map.mp m
      obtain ⟨m1, m2⟩ := List.mem_filter.mp mx
      exact ⟨by simpa using m2, List.mem_map_of_mem m1⟩
    have o0 : 0 < ((as.filter fun x => !gcB as x.pa).map (·.pa)).length := by
      obtain ⟨x, mx, _, _, _, xk⟩ := A8.own
      have : gcB as x.pa = false := by unfold gcB; rw [B_ nd mx, xk]; decide
      exact List.length_pos_of_mem (a := x.pa) (List.mem_map.mpr ⟨x, List.mem_filter.mpr ⟨mx, by rw [this]; rfl⟩, rfl⟩)
    generalize ((as.filter fun x => !gcB as x.pa).map (·.pa)) = opa at g6 ol og o0
    have npb : po ≠ b := Ne.symm (av W3.jo.ls hD)
    have O : xa G6 as po opa := ⟨g6, fun l m => (og l m).1, ol⟩
    walk_at "rd"
    refine ⟨ns, W6.sc_.1, fun c3 => ?_⟩
    by_cases h3 : 0 < c3 / 8 % 4
    . refine itp h3 ?_
      walk_at "rd"
      refine ⟨ns, W6.sc_.1, fun c4 => ⟨_, .inl (SqL.of g6), by rw [List.length_map]; omega, ?_⟩⟩
      rw [List.length_map]
      have p0 : (0 : Int) < (opa.length : Int) := by omega
      obtain ⟨i, e⟩ := Int.eq_ofNat_of_zero_le (Int.emod_nonneg c4 (Int.ne_of_gt p0))
      have b1 := Int.emod_lt_of_pos c4 p0
      rw [e] at b1 ⊢
      have hi : i < opa.length := by omega
      refine ⟨_, _, .inl (SqL.of g6), aD (show (opa.map L2.T)[i]? = some (L2.T opa[i]) by rw [List.getElem?_map, List.getElem?_eq_getElem hi]; rfl), ?_⟩
      exact k10 D sc d ch pc j x5 yr _ po _ _ _ _ _ ns as cd cs cy b u vs bs opa G6 W6 A8 lcy lbs O (og _ (List.getElem_mem hi)).2 npb k
    . exact itn h3 (k10 D sc d ch pc j x5 yr _ po _ _ _ _ _ ns as cd cs cy b u vs bs opa G6 W6 A8 lcy lbs O pi2 npb k)
end
open PySem L2 K19
section
variable {P : Program} {w : World} {K : PySem.W.Frag} {mg : Str -> Option Value} {base : Heap} {a : Adr}
open K3
theorem p4 (T : Txt K mg a) {cdv : Value} {A : Around} {outer : List Env} {s : Shared} {H : Hp} {E : XK} (hr : Room 9 (A.deeper (PyProof.Rows.envOfC "law" (ag cI) s.heap.objs.size a.fT cdv))) : ∃ tz, PSs (eL (XE P w) P w K mg base ["_law_script", "_law_accounts_here", "_law_chart_here", "_law_currencies_here", "_law_journal", "_law_k", "_law_day_here", "_law_year", "_law_path", "_law_own", "_law_bookings", "_law_due_here", "_law_found", "_law_currency", "_law_rest"] "law" (ag cI) a.fT cdv A outer s H E) (List.drop 4 (aA cI)) tz /\
    ∀ (D : fq) sc d ch pc j ns as cd cs cy b u G, WS a.aW a.aY a.aL K G sc d ch pc j ns as cd cs cy b u [] [] -> As8 as -> cy.length = 3 -> (∀ H', D.rt (.bl true) H') ->
      tz D [some (.ref sc), some (.ref d), some (.ref ch), some (.ref pc), some (.ref j), none, none, none, none, none, none, none, none, none, none] G := by
  have sz := szl
  have ND := jd.nd
  have HU := bf hr
  have G_Journal_put := iX (P := P) (w := w) (base := base) T
  have b_Journal_put := iP T.gC
  have G__law_cell_at := bW (P := P) (w := w) (base := base) T
  have b__law_cell_at := bV T.aI
  have G__law_rows_by := nk (P := P) (w := w) (base := base) T
  have b__law_rows_by := nI T.fH
  have G__law_day := uE (P := P) (w := w) (base := base) T
  have b__law_day := t8 T.jR
  obtain ⟨u5, hu5, k5⟩ := p5 (P := P) (w := w) (base := base) T (cdv := cdv) (A := A) (outer := outer) (s := s) (H := H) (E := E) hr
  refine ⟨_, (ai (d8 (by passes_own) rfl (gS rfl T.jj (FA.pa (aa (al aJ ae (al bz (au G__law_cell_at (hr.mono (by decide)) rfl T.aX T.aI.kp b__law_cell_at .nil aK (FA.pa (aa (fv 0) (aa ae ah)))) ae)) ah))) (aN (i := 5) ND rfl (Or.inl rfl)) (ai (aM (i := 6) ND rfl (Or.inl rfl) (au G__law_day (hr.mono (by decide)) rfl T.wj T.jR.kp b__law_day .nil aK (FA.pa (aa (fv 0) (aa (al aJ ae (fv 5)) ah)))))
      (ak (dF (cY (fv 4) T.ce T.iI G_Journal_put (hr.mono (by decide)) b_Journal_put .nil aK (FA.pa (aa (fv 6) (aa (aE []) (aa (au G__law_rows_by (hr.mono (by decide)) rfl T.n6 T.fH.kp b__law_rows_by .nil aK (FA.pa (aa (au G__law_cell_at (hr.mono (by decide)) rfl T.aX T.aI.kp b__law_cell_at .nil aK (FA.pa (aa (fv 0) (aa (al aJ ae (fv 5)) ah)))) (aa (fv 1) (aa (fv 6) (aa (fv 3) ah)))))) (aa fL ah))))))))))
      hu5), fun D sc d ch pc j ns as cd cs cy b u G W A8 lcy k => iH ?_⟩
  have nd := A8.ok.nd
  have l8 := A8.len
  walk_at "rd"
  refine ⟨ns, W.sc_.1, fun c => ⟨by omega, by omega, ?_⟩⟩
  refine gJ (lo := 0) (n := (1 + c % 10).toNat) (fun i σ' G' => ∃ vs bs x5 x6, WS a.aW a.aY a.aL K G' sc d ch pc j ns as cd cs cy b u vs bs /\ bs.length = i /\ σ' = [some (.ref sc), some (.ref d), some (.ref ch), some (.ref pc), some (.ref j), x5, x6, none, none, none, none, none, none, none, none]) ⟨[], [], _, _, W, rfl, rfl⟩ ?_ ?_
  . rintro i σ' G' hi ⟨vs, bs, x5, x6, W1, lb, rfl⟩
    obtain ⟨dj, hj⟩ := W1.jo.ob
    have lv := W1.bk.len
    walk_at "rd"
    refine ⟨ns, W1.sc_.1, by omega, fun day d0 d1 => ⟨dj, _, hj, wX _ _, ns, W1.sc_.1, by omega, W1.nT, d0, as, cy, W1.dc, W1.ac, A8, W1.cc, lcy, fun q rv rs H2 hq hq2 ar lrs hin s2 N2 => ?_⟩⟩
    have W2 := W1.same s2 N2
    refine ⟨N2, b, u, vs, rv, W2.jo, by omega, hq2, fun t q1 H3 ht ht3 hq1 hq3 J3 k3 N3 => ?_⟩
    have W3 := W2.put k3 N3 J3 ht3 ar hq3 (by omega) (by omega) hin
    exact ⟨_, _, _, _, W3, by rw [List.length_append, lb]; rfl, rfl, rfl⟩
  . rintro σ' G' ⟨vs, bs, x5, x6, W1, lb, rfl⟩
    exact k5 D sc d ch pc j _ _ _ _ _ _ _ _ _ _ ns as cd cs cy b u vs bs G' W1 A8 lcy (by omega) k
def sp_law (K : PySem.W.Frag) : Sp := sp1 fun x H Q _ => asR x fun p => NoT H /\ ∃ ns : List Int, SqL K H p (ns.map V.int) /\ ns.length <= 63 /\ ∀ H', Q (.bl true) H'
theorem CQ (T : Txt K mg a) : bw P w K mg base (XE P w) 10 a.fT a.zn ["_law_script"] (sp_law K) := by
  refine T.Fg.okX jd (fun vs H Q E h => sp1.len h) (fun cdv A outer s H vs Q E hr h => ?_)
  obtain ⟨x0, rfl, h⟩ := sp1.inv h
  try dsimp only [sp_law, sp1] at h
  have ND := jd.nd
  have HU := bf hr
  obtain ⟨sc, rfl, hN, ns, hS, lns, k⟩ := asR.inv h
  have sz := szl
  have G__law_cell_at := bW (P := P) (w := w) (base := base) T
  have b__law_cell_at := bV T.aI
  have G_Journal___init__ := jm (P := P) (w := w) (base := base) T
  have b_Journal___init__ := jr T.fA
  have G__law_currencies := fQ (P := P) (w := w) (base := base) T
  have b__law_currencies := f_ T.ck
  have G__law_chart := qh (P := P) (w := w) (base := base) T
  have b__law_chart := pR T.hV
  have G__law_accounts := lW (P := P) (w := w) (base := base) T
  have b__law_accounts := mG T.eJ
  obtain ⟨u4, hu4, k4⟩ := p4 (P := P) (w := w) (base := base) T (cdv := cdv) (A := A) (outer := outer) (s := s) (H := H) (E := E) hr
  refine ⟨_, (ai (aM (i := 1) ND rfl (Or.inr rfl) (au G__law_accounts (hr.mono (by decide)) rfl T.nq T.eJ.kp b__law_accounts .nil aK (FA.pa (aa (fv 0) ah))))
      (ai (aM (i := 2) ND rfl (Or.inl rfl) (au G__law_chart (hr.mono (by decide)) rfl T.sB T.hV.kp b__law_chart .nil aK (FA.pa (aa (fv 1) ah))))
      (ai (aM (i := 3) ND rfl (Or.inl rfl) (au G__law_currencies (hr.mono (by decide)) rfl T.gk T.ck.kp b__law_currencies .nil aK (FA.pa (aa (au G__law_cell_at (hr.mono (by decide)) rfl T.aX T.aI.kp b__law_cell_at .nil aK (FA.pa (aa (fv 0) (aa ae ah)))) ah))))
      (ai (aM (i := 4) ND rfl (Or.inl rfl) (qw T.v4 G_Journal___init__ (hr.mono (by decide)) rfl T.yB b_Journal___init__ .nil aK))
      hu4)))), ?_⟩
  walk_at "rd"
  refine ⟨hN, ns, hS, fun d as H1 s1 N1 d0 hd AC A8 => ⟨N1, as, hd, AC, A8, fun ch cd cs H2 CH cb ch0 cd0 s2 N2 => ⟨ns, (hS.same s1).same s2, N2, fun pc H3 cy s3 N3 pc0 hpc lcy ccy j dj hj hdj ndj => ⟨az (az N3 rfl) rfl, dj, ad, fun b u H4 hb hu J4 kp N4 => ?_⟩⟩⟩⟩
  have s4 : Same H3 H4 := fun p o e => jl hj hdj kp p o e List.not_mem_nil
  have b0 : H3 b = none := fz hb
  have s24 := s3.trans s4
  have s14 := s2.trans s24
  refine k4 _ sc d ch pc j ns as cd cs cy b u H4 ⟨s14 _ _ hd, AC.same s14, CH.same s24, J4, .nil, ⟨Nat.zero_le _, (fun _ m => nomatch m), fun _ m => nomatch m⟩, s4 _ _ hpc, N4, ⟨(hS.same s1).same s14, ?_⟩, av hpc b0, fun x m => av ((s2.trans s3) _ _ (AC.ls x m)) b0, fun c m => av (s3 _ _ (CH.at_.ac c m).ls) b0⟩ A8 lcy k
  have sH := s1.trans (s2.trans s3)
  rcases hS with (h | ⟨o, h⟩) | h
  . exact .inr (av (sH _ _ h) b0)
  . exact .inr (av (sH _ _ h) b0)
  . exact .inl fun _ => .inr h
theorem law_starts {K : PySem.W.Frag} {H : Hp} {p : Addr} {ns : List Int} (hO : yF H) (hS : SqL K H p (ns.map V.int)) (hl : ns.length <= 63) : sp_law K [.ref p] H (fun v _ => v = .bl true) (fun _ _ _ => False) := ⟨zh hO, ns, hS, hl, fun _ => rfl⟩
end
noncomputable abbrev fnQ (x q : String) (s : Stmt) (kV dc pm : Value) (an : Option Addr) (cd ct : Value) : FuncData := PySem.W.fnOf x q (aB s) (aA s) (ag s) .none kV dc pm an cd ct
open PySem.W in
theorem all_mk {l : OpenLaw} {w : World} {K : Frag} {h : Heap} {mg : Str -> Option Value} {fa : Addr} (X : K.In h) (G : h.Ns mainGlobals mg) (hfa : mg "law" = some (.ref fa))
 {C0 C1 C2 C3 C4 C5 C6 C7 C8 C9 C10 C11 C12 C13 : Addr}
 {f0 f1 f2 f3 f4 f5 f6 f7 f8 f9 f10 f11 f12 f13 f14 f15 f16 f17 f18 f19 f20 f21 f22 f23 f24 f25 f26 f27 f28 f29 f30 f31 f32 f33 f34 f35 f36 f37 f38 f39 f40 f41 f42 f43 f44 f45 f46 f47 f48 f49 f50 f51 : Addr} {od0 od1 od2 od3 od4 od5 od6 od7 od8 od9 od10 od11 od12 od13 od14 od15 od16 od17 od18 od19 od20 od21 od22 od23 od24 od25 od26 od27 od28 od29 od30 od31 od32 od33 od34 od35 od36 od37 od38 od39 od40 od41 od42 od43 od44 od45 od46 od47 od48 od49 od50 od51 an0 an1 an2 an3 an4 an5 an6 an7 an8 an9 an10 an11 an12 an13 an14 an15 an16 an17 an18 an19 an20 an21 an22 an23 an24 an25 an26 an27 an28 an29 an30 an31 an32 an33 an34 an35 an36 an37 an38 an39 an40 an41 an42 an43 an44 an45 an46 an47 an48 an49 an50 an51 : Option Addr} {sl0 sl1 sl2 sl3 sl4 sl5 sl6 sl7 sl8 sl9 sl10 sl11 sl12 sl13 sl14 sl15 sl16 sl17 sl18 sl19 sl20 sl21 sl22 sl23 sl24 sl25 sl26 sl27 sl28 sl29 sl30 sl31 sl32 sl33 sl34 sl35 sl36 sl37 sl38 sl39 sl40 sl41 sl42 sl43 sl44 sl45 sl46 sl47 sl48 sl49 sl50 sl51 : Array (Option Value)} {oc0 oc1 oc2 oc3 oc4 oc5 oc6 oc7 oc8 oc9 oc10 oc11 oc12 oc13 oc14 oc15 oc16 oc17 oc18 oc19 oc20 oc21 oc22 oc23 oc24 oc25 oc26 oc27 oc28 oc29 oc30 oc31 oc32 oc33 oc34 oc35 oc36 oc37 oc38 oc39 oc40 oc41 oc42 oc43 oc44 oc45 oc46 oc47 oc48 oc49 oc50 oc51 kV0 kV1 kV2 kV3 kV4 kV5 kV6 kV7 kV8 kV9 kV10 kV11 kV12 kV13 kV14 kV15 kV16 kV17 kV18 kV19 kV20 kV21 kV22 kV23 kV24 kV25 kV26 kV27 kV28 kV29 kV30 kV31 kV32 kV33 kV34 kV35 kV36 kV37 kV38 kV39 kV40 kV41 kV42 kV43 kV44 kV45 kV46 kV47 kV48 kV49 kV50 kV51 dc0 dc1 dc2 dc3 dc4 dc5 dc6 dc7 dc8 dc9 dc10 dc11 dc12 dc13 dc14 dc15 dc16 dc17 dc18 dc19 dc20 dc21 dc22 dc23 dc24 dc25 dc26 dc27 dc28 dc29 dc30 dc31 dc32 dc33 dc34 dc35 dc36 dc37 dc38 dc39 dc40 dc41 dc42 dc43 dc44 dc45 dc46 dc47 dc48 dc49 dc50 dc51 pm0 pm1 pm2 pm3 pm4 pm5 pm6 pm7 pm8 pm9 pm10 pm11 pm12 pm13 pm14 pm15 pm16 pm17 pm18 pm19 pm20 pm21 pm22 pm23 pm24 pm25 pm26 pm27 pm28 pm29 pm30 pm31 pm32 pm33 pm34 pm35 pm36 pm37 pm38 pm39 pm40 pm41 pm42 pm43 pm44 pm45 pm46 pm47 pm48 pm49 pm50 pm51 cd0 cd1 cd2 cd3 cd4 cd5 cd6 cd7 cd8 cd9 cd10 cd11 cd12 cd13 cd14 cd15 cd16 cd17 cd18 cd19 cd20 cd21 cd22 cd23 cd24 cd25 cd26 cd27 cd28 cd29 cd30 cd31 cd32 cd33 cd34 cd35 cd36 cd37 cd38 cd39 cd40 cd41 cd42 cd43 cd44 cd45 cd46 cd47 cd48 cd49 cd50 cd51 ct0 ct1 ct2 ct3 ct4 ct5 ct6 ct7 ct8 ct9 ct10 ct11 ct12 ct13 ct14 ct15 ct16 ct17 ct18 ct19 ct20 ct21 ct22 ct23 ct24 ct25 ct26 ct27 ct28 ct29 ct30 ct31 ct32 ct33 ct34 ct35 ct36 ct37 ct38 ct39 ct40 ct41 ct42 ct43 ct44 ct45 ct46 ct47 ct48 ct49 ct50 ct51 : Value}
 {D0 : Addr} {dd0 : Option Addr} {dsl0 : Array (Option Value)} {dn0 : Nat} {tl0 tl1 tl2 tl3 tl4 tl5 tl6 tl7 tl8 tl9 tl10 tl11 : Tok}
 {D1 : Addr} {dd1 : Option Addr} {dsl1 : Array (Option Value)} {dn1 : Nat} {tk0 tk1 tk2 tk3 tk4 : Tok}
 (p0 : nsIn K mainGlobals "HouseError" = some (some (.ref C0)))
 (p1 : nsIn K mainGlobals "BadName" = some (some (.ref C1)))
 (p2 : nsIn K mainGlobals "BadDay" = some (some (.ref C2)))
 (p3 : nsIn K mainGlobals "BadCurrency" = some (some (.ref C3)))
 (p4 : nsIn K mainGlobals "BadPath" = some (some (.ref C4)))
 (p5 : nsIn K mainGlobals "BadKind" = some (some (.ref C5)))
 (p6 : nsIn K mainGlobals "NoAccount" = some (some (.ref C6)))
 (p7 : nsIn K mainGlobals "Twice" = some (some (.ref C7)))
 (p8 : nsIn K mainGlobals "NotOpen" = some (some (.ref C8)))
 (p9 : nsIn K mainGlobals "HasBelow" = some (some (.ref C9)))
 (p10 : nsIn K mainGlobals "NoBooking" = some (some (.ref C10)))
 (p11 : nsIn K mainGlobals "Account" = some (some (.ref C11)))
 (p12 : nsIn K mainGlobals "Chart" = some (some (.ref C12)))
 (p13 : nsIn K mainGlobals "Journal" = some (some (.ref C13)))
 (a0 : nsIn K mainGlobals "is_whole" = some (some (.ref f0)))
 (l0 : K.lookup f0 = some ⟨oc0, od0, .func (fnQ "is_whole" "is_whole" cS kV0 dc0 pm0 an0 cd0 ct0), sl0⟩) (c0 : codeIn K cd0 "is_whole" = true) (k0 : keepIn K (.ref f0) = true)
 (a1 : nsIn K mainGlobals "is_among" = some (some (.ref f1)))
 (l1 : K.lookup f1 = some ⟨oc1, od1, .func (fnQ "is_among" "is_among" cK kV1 dc1 pm1 an1 cd1 ct1), sl1⟩) (c1 : codeIn K cd1 "is_among" = true) (k1 : keepIn K (.ref f1) = true)
 (a2 : nsIn K mainGlobals "signs_lie" = some (some (.ref f2)))
 (l2 : K.lookup f2 = some ⟨oc2, od2, .func (fnQ "signs_lie" "signs_lie" cq kV2 dc2 pm2 an2 cd2 ct2), sl2⟩) (c2 : codeIn K cd2 "signs_lie" = true) (k2 : keepIn K (.ref f2) = true)
 (a3 : nsIn K mainGlobals "is_name" = some (some (.ref f3)))
 (l3 : K.lookup f3 = some ⟨oc3, od3, .func (fnQ "is_name" "is_name" dA kV3 dc3 pm3 an3 cd3 ct3), sl3⟩) (c3 : codeIn K cd3 "is_name" = true) (k3 : keepIn K (.ref f3) = true)
 (a4 : nsIn K mainGlobals "is_currency" = some (some (.ref f4)))
 (l4 : K.lookup f4 = some ⟨oc4, od4, .func (fnQ "is_currency" "is_currency" bN kV4 dc4 pm4 an4 cd4 ct4), sl4⟩) (c4 : codeIn K cd4 "is_currency" = true) (k4 : keepIn K (.ref f4) = true)
 (a5 : nsIn K mainGlobals "turned" = some (some (.ref f5)))
 (l5 : K.lookup f5 = some ⟨oc5, od5, .func (fnQ "turned" "turned" dW kV5 dc5 pm5 an5 cd5 ct5), sl5⟩) (c5 : codeIn K cd5 "turned" = true) (k5 : keepIn K (.ref f5) = true)
 (a6 : nsIn K mainGlobals "sums_of" = some (some (.ref f6)))
 (l6 : K.lookup f6 = some ⟨oc6, od6, .func (fnQ "sums_of" "sums_of" dB kV6 dc6 pm6 an6 cd6 ct6), sl6⟩) (c6 : codeIn K cd6 "sums_of" = true) (k6 : keepIn K (.ref f6) = true)
 (a7 : nsIn K mainGlobals "is_day" = some (some (.ref f7)))
 (l7 : K.lookup f7 = some ⟨oc7, od7, .func (fnQ "is_day" "is_day" dO kV7 dc7 pm7 an7 cd7 ct7), sl7⟩) (c7 : codeIn K cd7 "is_day" = true) (k7 : keepIn K (.ref f7) = true)
 (a8 : nsIn K mainGlobals "leap_days" = some (some (.ref f8)))
 (l8 : K.lookup f8 = some ⟨oc8, od8, .func (fnQ "leap_days" "leap_days" cp kV8 dc8 pm8 an8 cd8 ct8), sl8⟩) (c8 : codeIn K cd8 "leap_days" = true) (k8 : keepIn K (.ref f8) = true)
 (a9 : nsIn K mainGlobals "first_day" = some (some (.ref f9)))
 (l9 : K.lookup f9 = some ⟨oc9, od9, .func (fnQ "first_day" "first_day" cA kV9 dc9 pm9 an9 cd9 ct9), sl9⟩) (c9 : codeIn K cd9 "first_day" = true) (k9 : keepIn K (.ref f9) = true)
 (a10 : nsIn K mainGlobals "last_day" = some (some (.ref f10)))
 (l10 : K.lookup f10 = some ⟨oc10, od10, .func (fnQ "last_day" "last_day" cM kV10 dc10 pm10 an10 cd10 ct10), sl10⟩) (c10 : codeIn K cd10 "last_day" = true) (k10 : keepIn K (.ref f10) = true)
 (a11 : nsIn K mainGlobals "are_names" = some (some (.ref f11)))
 (l11 : K.lookup f11 = some ⟨oc11, od11, .func (fnQ "are_names" "are_names" cw kV11 dc11 pm11 an11 cd11 ct11), sl11⟩) (c11 : codeIn K cd11 "are_names" = true) (k11 : keepIn K (.ref f11) = true)
 (a12 : nsIn K mainGlobals "is_path" = some (some (.ref f12)))
 (l12 : K.lookup f12 = some ⟨oc12, od12, .func (fnQ "is_path" "is_path" dh kV12 dc12 pm12 an12 cd12 ct12), sl12⟩) (c12 : codeIn K cd12 "is_path" = true) (k12 : keepIn K (.ref f12) = true)
 (a13 : nsIn K mainGlobals "names_of" = some (some (.ref f13)))
 (l13 : K.lookup f13 = some ⟨oc13, od13, .func (fnQ "names_of" "names_of" cP kV13 dc13 pm13 an13 cd13 ct13), sl13⟩) (c13 : codeIn K cd13 "names_of" = true) (k13 : keepIn K (.ref f13) = true)
 (a14 : nsIn K mainGlobals "above" = some (some (.ref f14)))
 (l14 : K.lookup f14 = some ⟨oc14, od14, .func (fnQ "above" "above" fm kV14 dc14 pm14 an14 cd14 ct14), sl14⟩) (c14 : codeIn K cd14 "above" = true) (k14 : keepIn K (.ref f14) = true)
 (a15 : nsIn K mainGlobals "rows_of" = some (some (.ref f15)))
 (l15 : K.lookup f15 = some ⟨oc15, od15, .func (fnQ "rows_of" "rows_of" dw kV15 dc15 pm15 an15 cd15 ct15), sl15⟩) (c15 : codeIn K cd15 "rows_of" = true) (k15 : keepIn K (.ref f15) = true)
 (a16 : nsIn K mainGlobals "bookings_up_to" = some (some (.ref f16)))
 (l16 : K.lookup f16 = some ⟨oc16, od16, .func (fnQ "bookings_up_to" "bookings_up_to" bi kV16 dc16 pm16 an16 cd16 ct16), sl16⟩) (c16 : codeIn K cd16 "bookings_up_to" = true) (k16 : keepIn K (.ref f16) = true)
 (a17 : nsIn K mainGlobals "balances" = some (some (.ref f17)))
 (l17 : K.lookup f17 = some ⟨oc17, od17, .func (fnQ "balances" "balances" cN kV17 dc17 pm17 an17 cd17 ct17), sl17⟩) (c17 : codeIn K cd17 "balances" = true) (k17 : keepIn K (.ref f17) = true)
 (a18 : nsIn K mainGlobals "carry_rows" = some (some (.ref f18)))
 (l18 : K.lookup f18 = some ⟨oc18, od18, .func (fnQ "carry_rows" "carry_rows" b6 kV18 dc18 pm18 an18 cd18 ct18), sl18⟩) (c18 : codeIn K cd18 "carry_rows" = true) (k18 : keepIn K (.ref f18) = true)
 (a19 : nsIn K mainGlobals "_law_cell_at" = some (some (.ref f19)))
 (l19 : K.lookup f19 = some ⟨oc19, od19, .func (fnQ "_law_cell_at" "_law_cell_at" bD kV19 dc19 pm19 an19 cd19 ct19), sl19⟩) (c19 : codeIn K cd19 "_law_cell_at" = true) (k19 : keepIn K (.ref f19) = true)
 (a20 : nsIn K mainGlobals "_law_whole" = some (some (.ref f20)))
 (l20 : K.lookup f20 = some ⟨oc20, od20, .func (fnQ "_law_whole" "_law_whole" b8 kV20 dc20 pm20 an20 cd20 ct20), sl20⟩) (c20 : codeIn K cd20 "_law_whole" = true) (k20 : keepIn K (.ref f20) = true)
 (a21 : nsIn K mainGlobals "_law_names" = some (some (.ref f21)))
 (l21 : K.lookup f21 = some ⟨oc21, od21, .func (fnQ "_law_names" "_law_names" b5 kV21 dc21 pm21 an21 cd21 ct21), sl21⟩) (c21 : codeIn K cd21 "_law_names" = true) (k21 : keepIn K (.ref f21) = true)
 (a22 : nsIn K mainGlobals "_law_currencies" = some (some (.ref f22)))
 (l22 : K.lookup f22 = some ⟨oc22, od22, .func (fnQ "_law_currencies" "_law_currencies" bd kV22 dc22 pm22 an22 cd22 ct22), sl22⟩) (c22 : codeIn K cd22 "_law_currencies" = true) (k22 : keepIn K (.ref f22) = true)
 (a23 : nsIn K mainGlobals "_law_start" = some (some (.ref f23)))
 (l23 : K.lookup f23 = some ⟨oc23, od23, .func (fnQ "_law_start" "_law_start" b7 kV23 dc23 pm23 an23 cd23 ct23), sl23⟩) (c23 : codeIn K cd23 "_law_start" = true) (k23 : keepIn K (.ref f23) = true)
 (a24 : nsIn K mainGlobals "_law_lengths" = some (some (.ref f24)))
 (l24 : K.lookup f24 = some ⟨oc24, od24, .func (fnQ "_law_lengths" "_law_lengths" bH kV24 dc24 pm24 an24 cd24 ct24), sl24⟩) (c24 : codeIn K cd24 "_law_lengths" = true) (k24 : keepIn K (.ref f24) = true)
 (a25 : nsIn K mainGlobals "_law_month_ends" = some (some (.ref f25)))
 (l25 : K.lookup f25 = some ⟨oc25, od25, .func (fnQ "_law_month_ends" "_law_month_ends" bc kV25 dc25 pm25 an25 cd25 ct25), sl25⟩) (c25 : codeIn K cd25 "_law_month_ends" = true) (k25 : keepIn K (.ref f25) = true)
 (a26 : nsIn K mainGlobals "_law_month" = some (some (.ref f26)))
 (l26 : K.lookup f26 = some ⟨oc26, od26, .func (fnQ "_law_month" "_law_month" bZ kV26 dc26 pm26 an26 cd26 ct26), sl26⟩) (c26 : codeIn K cd26 "_law_month" = true) (k26 : keepIn K (.ref f26) = true)
 (a27 : nsIn K mainGlobals "_law_base" = some (some (.ref f27)))
 (l27 : K.lookup f27 = some ⟨oc27, od27, .func (fnQ "_law_base" "_law_base" cB kV27 dc27 pm27 an27 cd27 ct27), sl27⟩) (c27 : codeIn K cd27 "_law_base" = true) (k27 : keepIn K (.ref f27) = true)
 (a28 : nsIn K mainGlobals "_law_day" = some (some (.ref f28)))
 (l28 : K.lookup f28 = some ⟨oc28, od28, .func (fnQ "_law_day" "_law_day" cT kV28 dc28 pm28 an28 cd28 ct28), sl28⟩) (c28 : codeIn K cd28 "_law_day" = true) (k28 : keepIn K (.ref f28) = true)
 (a29 : nsIn K mainGlobals "_law_accounts" = some (some (.ref f29)))
 (l29 : K.lookup f29 = some ⟨oc29, od29, .func (fnQ "_law_accounts" "_law_accounts" aO kV29 dc29 pm29 an29 cd29 ct29), sl29⟩) (c29 : codeIn K cd29 "_law_accounts" = true) (k29 : keepIn K (.ref f29) = true)
 (a30 : nsIn K mainGlobals "_law_chart" = some (some (.ref f30)))
 (l30 : K.lookup f30 = some ⟨oc30, od30, .func (fnQ "_law_chart" "_law_chart" bI kV30 dc30 pm30 an30 cd30 ct30), sl30⟩) (c30 : codeIn K cd30 "_law_chart" = true) (k30 : keepIn K (.ref f30) = true)
 (a31 : nsIn K mainGlobals "_law_is_open" = some (some (.ref f31)))
 (l31 : K.lookup f31 = some ⟨oc31, od31, .func (fnQ "_law_is_open" "_law_is_open" bE kV31 dc31 pm31 an31 cd31 ct31), sl31⟩) (c31 : codeIn K cd31 "_law_is_open" = true) (k31 : keepIn K (.ref f31) = true)
 (a32 : nsIn K mainGlobals "_law_rows_by" = some (some (.ref f32)))
 (l32 : K.lookup f32 = some ⟨oc32, od32, .func (fnQ "_law_rows_by" "_law_rows_by" bJ kV32 dc32 pm32 an32 cd32 ct32), sl32⟩) (c32 : codeIn K cd32 "_law_rows_by" = true) (k32 : keepIn K (.ref f32) = true)
 (a33 : nsIn K mainGlobals "_law_balances" = some (some (.ref f33)))
 (l33 : K.lookup f33 = some ⟨oc33, od33, .func (fnQ "_law_balances" "_law_balances" bq kV33 dc33 pm33 an33 cd33 ct33), sl33⟩) (c33 : codeIn K cd33 "_law_balances" = true) (k33 : keepIn K (.ref f33) = true)
 (a34 : nsIn K mainGlobals "_law_due" = some (some (.ref f34)))
 (l34 : K.lookup f34 = some ⟨oc34, od34, .func (fnQ "_law_due" "_law_due" cO kV34 dc34 pm34 an34 cd34 ct34), sl34⟩) (c34 : codeIn K cd34 "_law_due" = true) (k34 : keepIn K (.ref f34) = true)
 (a35 : nsIn K mainGlobals "law" = some (some (.ref f35)))
 (l35 : K.lookup f35 = some ⟨oc35, od35, .func (fnQ "law" "law" cI kV35 dc35 pm35 an35 cd35 ct35), sl35⟩) (c35 : codeIn K cd35 "law" = true) (k35 : keepIn K (.ref f35) = true)
 (a36 : findIn K (.ref C11) "__init__" = some (some (.ref f36))) (i36 : isFn K (.ref f36) = true)
 (l36 : K.lookup f36 = some ⟨oc36, od36, .func (fnQ "__init__" "Account.__init__" aZ kV36 dc36 pm36 an36 cd36 ct36), sl36⟩) (c36 : codeIn K cd36 "Account.__init__" = true) (k36 : keepIn K (.ref f36) = true)
 (a37 : findIn K (.ref C11) "stands_on" = some (some (.ref f37))) (i37 : isFn K (.ref f37) = true)
 (l37 : K.lookup f37 = some ⟨oc37, od37, .func (fnQ "stands_on" "Account.stands_on" aV kV37 dc37 pm37 an37 cd37 ct37), sl37⟩) (c37 : codeIn K cd37 "Account.stands_on" = true) (k37 : keepIn K (.ref f37) = true)
 (a38 : findIn K (.ref C11) "stands_later" = some (some (.ref f38))) (i38 : isFn K (.ref f38) = true)
 (l38 : K.lookup f38 = some ⟨oc38, od38, .func (fnQ "stands_later" "Account.stands_later" aS kV38 dc38 pm38 an38 cd38 ct38), sl38⟩) (c38 : codeIn K cd38 "Account.stands_later" = true) (k38 : keepIn K (.ref f38) = true)
 (a39 : findIn K (.ref C12) "__init__" = some (some (.ref f39))) (i39 : isFn K (.ref f39) = true)
 (l39 : K.lookup f39 = some ⟨oc39, od39, .func (fnQ "__init__" "Chart.__init__" bh kV39 dc39 pm39 an39 cd39 ct39), sl39⟩) (c39 : codeIn K cd39 "Chart.__init__" = true) (k39 : keepIn K (.ref f39) = true)
 (a40 : findIn K (.ref C12) "add_top" = some (some (.ref f40))) (i40 : isFn K (.ref f40) = true)
 (l40 : K.lookup f40 = some ⟨oc40, od40, .func (fnQ "add_top" "Chart.add_top" br kV40 dc40 pm40 an40 cd40 ct40), sl40⟩) (c40 : codeIn K cd40 "Chart.add_top" = true) (k40 : keepIn K (.ref f40) = true)
 (a41 : findIn K (.ref C12) "add" = some (some (.ref f41))) (i41 : isFn K (.ref f41) = true)
 (l41 : K.lookup f41 = some ⟨oc41, od41, .func (fnQ "add" "Chart.add" bS kV41 dc41 pm41 an41 cd41 ct41), sl41⟩) (c41 : codeIn K cd41 "Chart.add" = true) (k41 : keepIn K (.ref f41) = true)
 (a42 : findIn K (.ref C12) "shut" = some (some (.ref f42))) (i42 : isFn K (.ref f42) = true)
 (l42 : K.lookup f42 = some ⟨oc42, od42, .func (fnQ "shut" "Chart.shut" b4 kV42 dc42 pm42 an42 cd42 ct42), sl42⟩) (c42 : codeIn K cd42 "Chart.shut" = true) (k42 : keepIn K (.ref f42) = true)
 (a43 : findIn K (.ref C12) "has" = some (some (.ref f43))) (i43 : isFn K (.ref f43) = true)
 (l43 : K.lookup f43 = some ⟨oc43, od43, .func (fnQ "has" "Chart.has" cC kV43 dc43 pm43 an43 cd43 ct43), sl43⟩) (c43 : codeIn K cd43 "Chart.has" = true) (k43 : keepIn K (.ref f43) = true)
 (a44 : findIn K (.ref C12) "account" = some (some (.ref f44))) (i44 : isFn K (.ref f44) = true)
 (l44 : K.lookup f44 = some ⟨oc44, od44, .func (fnQ "account" "Chart.account" bp kV44 dc44 pm44 an44 cd44 ct44), sl44⟩) (c44 : codeIn K cd44 "Chart.account" = true) (k44 : keepIn K (.ref f44) = true)
 (a45 : findIn K (.ref C12) "kind_of" = some (some (.ref f45))) (i45 : isFn K (.ref f45) = true)
 (l45 : K.lookup f45 = some ⟨oc45, od45, .func (fnQ "kind_of" "Chart.kind_of" bv kV45 dc45 pm45 an45 cd45 ct45), sl45⟩) (c45 : codeIn K cd45 "Chart.kind_of" = true) (k45 : keepIn K (.ref f45) = true)
 (a46 : findIn K (.ref C12) "beneath" = some (some (.ref f46))) (i46 : isFn K (.ref f46) = true)
 (l46 : K.lookup f46 = some ⟨oc46, od46, .func (fnQ "beneath" "Chart.beneath" bX kV46 dc46 pm46 an46 cd46 ct46), sl46⟩) (c46 : codeIn K cd46 "Chart.beneath" = true) (k46 : keepIn K (.ref f46) = true)
 (a47 : findIn K (.ref C13) "__init__" = some (some (.ref f47))) (i47 : isFn K (.ref f47) = true)
 (l47 : K.lookup f47 = some ⟨oc47, od47, .func (fnQ "__init__" "Journal.__init__" a_ kV47 dc47 pm47 an47 cd47 ct47), sl47⟩) (c47 : codeIn K cd47 "Journal.__init__" = true) (k47 : keepIn K (.ref f47) = true)
 (a48 : findIn K (.ref C13) "put" = some (some (.ref f48))) (i48 : isFn K (.ref f48) = true)
 (l48 : K.lookup f48 = some ⟨oc48, od48, .func (fnQ "put" "Journal.put" bO kV48 dc48 pm48 an48 cd48 ct48), sl48⟩) (c48 : codeIn K cd48 "Journal.put" = true) (k48 : keepIn K (.ref f48) = true)
 (a49 : findIn K (.ref C13) "many" = some (some (.ref f49))) (i49 : isFn K (.ref f49) = true)
 (l49 : K.lookup f49 = some ⟨oc49, od49, .func (fnQ "many" "Journal.many" cf kV49 dc49 pm49 an49 cd49 ct49), sl49⟩) (c49 : codeIn K cd49 "Journal.many" = true) (k49 : keepIn K (.ref f49) = true)
 (a50 : findIn K (.ref C13) "booking" = some (some (.ref f50))) (i50 : isFn K (.ref f50) = true)
 (l50 : K.lookup f50 = some ⟨oc50, od50, .func (fnQ "booking" "Journal.booking" bG kV50 dc50 pm50 an50 cd50 ct50), sl50⟩) (c50 : codeIn K cd50 "Journal.booking" = true) (k50 : keepIn K (.ref f50) = true)
 (a51 : findIn K (.ref C13) "every" = some (some (.ref f51))) (i51 : isFn K (.ref f51) = true)
 (l51 : K.lookup f51 = some ⟨oc51, od51, .func (fnQ "every" "Journal.every" bt kV51 dc51 pm51 an51 cd51 ct51), sl51⟩) (c51 : codeIn K cd51 "Journal.every" = true) (k51 : keepIn K (.ref f51) = true)
 (pg11 : plainGet K C11 Str.empty = true) (hd11 : hasDictIn K C11 = true) (po11 : plainOver K C11 = true) (sa11 : findIn K (.ref C11) "__setattr__" = some (some (.builtin "object.__setattr__"))) (mk11 : makesIn K C11 = true) (kc11 : keepIn K (.ref C11) = true)
 (na11_0 : findIn K (.ref C11) "kind" = some none)
 (na11_1 : findIn K (.ref C11) "currency" = some none)
 (na11_2 : findIn K (.ref C11) "first" = some none)
 (na11_3 : findIn K (.ref C11) "until" = some none)
 (na11_4 : findIn K (.ref C11) "below" = some none)
 (pg12 : plainGet K C12 Str.empty = true) (hd12 : hasDictIn K C12 = true) (po12 : plainOver K C12 = true) (sa12 : findIn K (.ref C12) "__setattr__" = some (some (.builtin "object.__setattr__"))) (mk12 : makesIn K C12 = true) (kc12 : keepIn K (.ref C12) = true)
 (na12_0 : findIn K (.ref C12) "by_path" = some none)
 (pg13 : plainGet K C13 Str.empty = true) (hd13 : hasDictIn K C13 = true) (po13 : plainOver K C13 = true) (sa13 : findIn K (.ref C13) "__setattr__" = some (some (.builtin "object.__setattr__"))) (mk13 : makesIn K C13 = true) (kc13 : keepIn K (.ref C13) = true)
 (na13_0 : findIn K (.ref C13) "bookings" = some none)
 (na13_1 : findIn K (.ref C13) "undoings" = some none)
 (d0 : nsIn K mainGlobals "LENGTHS" = some (some (.ref D0))) (e0 : K.lookup D0 = some ⟨.type "tuple", dd0, .seq #[.int 31 tl0, .int 28 tl1, .int 31 tl2, .int 30 tl3, .int 31 tl4, .int 30 tl5, .int 31 tl6, .int 31 tl7, .int 30 tl8, .int 31 tl9, .int 30 tl10, .int 31 tl11] dn0, dsl0⟩)
 (d1 : nsIn K mainGlobals "KINDS" = some (some (.ref D1))) (e1 : K.lookup D1 = some ⟨.type "tuple", dd1, .seq #[.str ⟨#[104, 97, 118, 101]⟩ tk0, .str ⟨#[111, 119, 101]⟩ tk1, .str ⟨#[111, 119, 110]⟩ tk2, .str ⟨#[103, 97, 105, 110]⟩ tk3, .str ⟨#[99, 111, 115, 116]⟩ tk4] dn1, dsl1⟩)
 (z0 : nsIn K mainGlobals "all" = some none)
 (z1 : nsIn K mainGlobals "any" = some none)
 (z2 : nsIn K mainGlobals "bool" = some none)
 (z3 : nsIn K mainGlobals "int" = some none)
 (z4 : nsIn K mainGlobals "isinstance" = some none)
 (z5 : nsIn K mainGlobals "len" = some none)
 (z6 : nsIn K mainGlobals "list" = some none)
 (z7 : nsIn K mainGlobals "max" = some none)
 (z8 : nsIn K mainGlobals "min" = some none)
 (z9 : nsIn K mainGlobals "range" = some none)
 (z10 : nsIn K mainGlobals "sorted" = some none)
 (z11 : nsIn K mainGlobals "str" = some none)
 (z12 : nsIn K mainGlobals "sum" = some none)
 (z13 : nsIn K mainGlobals "tuple" = some none)
 (q3 : excIn K C3 [.type "ValueError", .type "Exception", .type "BaseException", .type "object"] "ValueError.__new__" = true)
 (q2 : excIn K C2 [.type "ValueError", .type "Exception", .type "BaseException", .type "object"] "ValueError.__new__" = true)
 (q5 : excIn K C5 [.type "ValueError", .type "Exception", .type "BaseException", .type "object"] "ValueError.__new__" = true)
 (q1 : excIn K C1 [.type "ValueError", .type "Exception", .type "BaseException", .type "object"] "ValueError.__new__" = true)
 (q4 : excIn K C4 [.type "ValueError", .type "Exception", .type "BaseException", .type "object"] "ValueError.__new__" = true)
 (q9 : excIn K C9 [.type "ValueError", .type "Exception", .type "BaseException", .type "object"] "ValueError.__new__" = true)
 (q6 : excIn K C6 [.type "ValueError", .type "Exception", .type "BaseException", .type "object"] "ValueError.__new__" = true)
 (q10 : excIn K C10 [.type "ValueError", .type "Exception", .type "BaseException", .type "object"] "ValueError.__new__" = true)
 (q8 : excIn K C8 [.type "ValueError", .type "Exception", .type "BaseException", .type "object"] "ValueError.__new__" = true)
 (q7 : excIn K C7 [.type "ValueError", .type "Exception", .type "BaseException", .type "object"] "ValueError.__new__" = true)
 : ∃ fd : FuncData, (∀ (s : Shared) (v : Value), BindsTo s fd ⟨[v], []⟩ [("_law_script", v)]) /\ ∀ base : Heap, K.In base -> base.Ns mainGlobals mg -> bw l.prog w K mg base (XE l.prog w) 10 fa fd ["_law_script"] (sp_law K) := by
  have e := hfa.symm.trans (mg_of X G a35)
  cases e
  have T : Txt K mg ⟨f0, fnQ "is_whole" "is_whole" cS kV0 dc0 pm0 an0 cd0 ct0, f1, fnQ "is_among" "is_among" cK kV1 dc1 pm1 an1 cd1 ct1, f2, fnQ "signs_lie" "signs_lie" cq kV2 dc2 pm2 an2 cd2 ct2, f3, fnQ "is_name" "is_name" dA kV3 dc3 pm3 an3 cd3 ct3, f4, fnQ "is_currency" "is_currency" bN kV4 dc4 pm4 an4 cd4 ct4, f5, fnQ "turned" "turned" dW kV5 dc5 pm5 an5 cd5 ct5, f6, fnQ "sums_of" "sums_of" dB kV6 dc6 pm6 an6 cd6 ct6, f7, fnQ "is_day" "is_day" dO kV7 dc7 pm7 an7 cd7 ct7, f8, fnQ "leap_days" "leap_days" cp kV8 dc8 pm8 an8 cd8 ct8, f9, fnQ "first_day" "first_day" cA kV9 dc9 pm9 an9 cd9 ct9, f10, fnQ "last_day" "last_day" cM kV10 dc10 pm10 an10 cd10 ct10, f11, fnQ "are_names" "are_names" cw kV11 dc11 pm11 an11 cd11 ct11, f12, fnQ "is_path" "is_path" dh kV12 dc12 pm12 an12 cd12 ct12, f13, fnQ "names_of" "names_of" cP kV13 dc13 pm13 an13 cd13 ct13, f14, fnQ "above" "above" fm kV14 dc14 pm14 an14 cd14 ct14, f15, fnQ "rows_of" "rows_of" dw kV15 dc15 pm15 an15 cd15 ct15, f16, fnQ "bookings_up_to" "bookings_up_to" bi kV16 dc16 pm16 an16 cd16 ct16, f17, fnQ "balances" "balances" cN kV17 dc17 pm17 an17 cd17 ct17, f18, fnQ "carry_rows" "carry_rows" b6 kV18 dc18 pm18 an18 cd18 ct18, f19, fnQ "_law_cell_at" "_law_cell_at" bD kV19 dc19 pm19 an19 cd19 ct19, f20, fnQ "_law_whole" "_law_whole" b8 kV20 dc20 pm20 an20 cd20 ct20, f21, fnQ "_law_names" "_law_names" b5 kV21 dc21 pm21 an21 cd21 ct21, f22, fnQ "_law_currencies" "_law_currencies" bd kV22 dc22 pm22 an22 cd22 ct22, f23, fnQ "_law_start" "_law_start" b7 kV23 dc23 pm23 an23 cd23 ct23, f24, fnQ "_law_lengths" "_law_lengths" bH kV24 dc24 pm24 an24 cd24 ct24, f25, fnQ "_law_month_ends" "_law_month_ends" bc kV25 dc25 pm25 an25 cd25 ct25, f26, fnQ "_law_month" "_law_month" bZ kV26 dc26 pm26 an26 cd26 ct26, f27, fnQ "_law_base" "_law_base" cB kV27 dc27 pm27 an27 cd27 ct27, f28, fnQ "_law_day" "_law_day" cT kV28 dc28 pm28 an28 cd28 ct28, f29, fnQ "_law_accounts" "_law_accounts" aO kV29 dc29 pm29 an29 cd29 ct29, f30, fnQ "_law_chart" "_law_chart" bI kV30 dc30 pm30 an30 cd30 ct30, f31, fnQ "_law_is_open" "_law_is_open" bE kV31 dc31 pm31 an31 cd31 ct31, f32, fnQ "_law_rows_by" "_law_rows_by" bJ kV32 dc32 pm32 an32 cd32 ct32, f33, fnQ "_law_balances" "_law_balances" bq kV33 dc33 pm33 an33 cd33 ct33, f34, fnQ "_law_due" "_law_due" cO kV34 dc34 pm34 an34 cd34 ct34, fa, fnQ "law" "law" cI kV35 dc35 pm35 an35 cd35 ct35, f36, fnQ "__init__" "Account.__init__" aZ kV36 dc36 pm36 an36 cd36 ct36, f37, fnQ "stands_on" "Account.stands_on" aV kV37 dc37 pm37 an37 cd37 ct37, f38, fnQ "stands_later" "Account.stands_later" aS kV38 dc38 pm38 an38 cd38 ct38, f39, fnQ "__init__" "Chart.__init__" bh kV39 dc39 pm39 an39 cd39 ct39, f40, fnQ "add_top" "Chart.add_top" br kV40 dc40 pm40 an40 cd40 ct40, f41, fnQ "add" "Chart.add" bS kV41 dc41 pm41 an41 cd41 ct41, f42, fnQ "shut" "Chart.shut" b4 kV42 dc42 pm42 an42 cd42 ct42, f43, fnQ "has" "Chart.has" cC kV43 dc43 pm43 an43 cd43 ct43, f44, fnQ "account" "Chart.account" bp kV44 dc44 pm44 an44 cd44 ct44, f45, fnQ "kind_of" "Chart.kind_of" bv kV45 dc45 pm45 an45 cd45 ct45, f46, fnQ "beneath" "Chart.beneath" bX kV46 dc46 pm46 an46 cd46 ct46, f47, fnQ "__init__" "Journal.__init__" a_ kV47 dc47 pm47 an47 cd47 ct47, f48, fnQ "put" "Journal.put" bO kV48 dc48 pm48 an48 cd48 ct48, f49, fnQ "many" "Journal.many" cf kV49 dc49 pm49 an49 cd49 ct49, f50, fnQ "booking" "Journal.booking" bG kV50 dc50 pm50 an50 cd50 ct50, f51, fnQ "every" "Journal.every" bt kV51 dc51 pm51 an51 cd51 ct51, C0, C1, C2, C3, C4, C5, C6, C7, C8, C9, C10, C11, C12, C13, D0, D1⟩ := ⟨aR (st := cS) l0 c0 k0, mg_of X G a0, aR (st := cK) l1 c1 k1, mg_of X G a1, aR (st := cq) l2 c2 k2, mg_of X G a2, aR (st := dA) l3 c3 k3, mg_of X G a3, aR (st := bN) l4 c4 k4, mg_of X G a4, aR (st := dW) l5 c5 k5, mg_of X G a5, aR (st := dB) l6 c6 k6, mg_of X G a6, aR (st := dO) l7 c7 k7, mg_of X G a7, aR (st := cp) l8 c8 k8, mg_of X G a8, aR (st := cA) l9 c9 k9, mg_of X G a9, aR (st := cM) l10 c10 k10, mg_of X G a10, aR (st := cw) l11 c11 k11, mg_of X G a11, aR (st := dh) l12 c12 k12, mg_of X G a12, aR (st := cP) l13 c13 k13, mg_of X G a13, aR (st := fm) l14 c14 k14, mg_of X G a14, aR (st := dw) l15 c15 k15, mg_of X G a15, aR (st := bi) l16 c16 k16, mg_of X G a16, aR (st := cN) l17 c17 k17, mg_of X G a17, aR (st := b6) l18 c18 k18, mg_of X G a18, aR (st := bD) l19 c19 k19, mg_of X G a19, aR (st := b8) l20 c20 k20, mg_of X G a20, aR (st := b5) l21 c21 k21, mg_of X G a21, aR (st := bd) l22 c22 k22, mg_of X G a22, aR (st := b7) l23 c23 k23, mg_of X G a23, aR (st := bH) l24 c24 k24, mg_of X G a24, aR (st := bc) l25 c25 k25, mg_of X G a25, aR (st := bZ) l26 c26 k26, mg_of X G a26, aR (st := cB) l27 c27 k27, mg_of X G a27, aR (st := cT) l28 c28 k28, mg_of X G a28, aR (st := aO) l29 c29 k29, mg_of X G a29, aR (st := bI) l30 c30 k30, mg_of X G a30, aR (st := bE) l31 c31 k31, mg_of X G a31, aR (st := bJ) l32 c32 k32, mg_of X G a32, aR (st := bq) l33 c33 k33, mg_of X G a33, aR (st := cO) l34 c34 k34, mg_of X G a34, aR (st := cI) l35 c35 k35, mg_of X G a35, aR (st := aZ) l36 c36 k36, ⟨a36, i36, k36⟩, aR (st := aV) l37 c37 k37, ⟨a37, i37, k37⟩, aR (st := aS) l38 c38 k38, ⟨a38, i38, k38⟩, aR (st := bh) l39 c39 k39, ⟨a39, i39, k39⟩, aR (st := br) l40 c40 k40, ⟨a40, i40, k40⟩, aR (st := bS) l41 c41 k41, ⟨a41, i41, k41⟩, aR (st := b4) l42 c42 k42, ⟨a42, i42, k42⟩, aR (st := cC) l43 c43 k43, ⟨a43, i43, k43⟩, aR (st := bp) l44 c44 k44, ⟨a44, i44, k44⟩, aR (st := bv) l45 c45 k45, ⟨a45, i45, k45⟩, aR (st := bX) l46 c46 k46, ⟨a46, i46, k46⟩, aR (st := a_) l47 c47 k47, ⟨a47, i47, k47⟩, aR (st := bO) l48 c48 k48, ⟨a48, i48, k48⟩, aR (st := cf) l49 c49 k49, ⟨a49, i49, k49⟩, aR (st := bG) l50 c50 k50, ⟨a50, i50, k50⟩, aR (st := bt) l51 c51 k51, ⟨a51, i51, k51⟩, mg_of X G p0, mg_of X G p1, mg_of X G p2, mg_of X G p3, mg_of X G p4, mg_of X G p5, mg_of X G p6, mg_of X G p7, mg_of X G p8, mg_of X G p9, mg_of X G p10, mg_of X G p11, mg_of X G p12, mg_of X G p13, ⟨pg11, hd11, po11, sa11⟩, na11_0, na11_1, na11_2, na11_3, na11_4, ⟨mk11, a36, i36, kc11⟩, ⟨pg12, hd12, po12, sa12⟩, na12_0, ⟨mk12, a39, i39, kc12⟩, ⟨pg13, hd13, po13, sa13⟩, na13_0, na13_1, ⟨mk13, a47, i47, kc13⟩, q3, q2, q5, q1, q4, q9, q6, q10, q8, q7, mg_of X G d0, ⟨_, _, _, e0, rfl, rfl, (by show 12 <= sizeLine; decide), (.cons ⟨_, rfl⟩ (.cons ⟨_, rfl⟩ (.cons ⟨_, rfl⟩ (.cons ⟨_, rfl⟩ (.cons ⟨_, rfl⟩ (.cons ⟨_, rfl⟩ (.cons ⟨_, rfl⟩ (.cons ⟨_, rfl⟩ (.cons ⟨_, rfl⟩ (.cons ⟨_, rfl⟩ (.cons ⟨_, rfl⟩ (.cons ⟨_, rfl⟩ .nil))))))))))))⟩, mg_of X G d1, ⟨_, _, _, e1, rfl, rfl, (by show 5 <= sizeLine; decide), (.cons ⟨_, rfl⟩ (.cons ⟨_, rfl⟩ (.cons ⟨_, rfl⟩ (.cons ⟨_, rfl⟩ (.cons ⟨_, rfl⟩ .nil)))))⟩, mg_none_of X G z0, mg_none_of X G z1, mg_none_of X G z2, mg_none_of X G z3, mg_none_of X G z4, mg_none_of X G z5, mg_none_of X G z6, mg_none_of X G z7, mg_none_of X G z8, mg_none_of X G z9, mg_none_of X G z10, mg_none_of X G z11, mg_none_of X G z12, mg_none_of X G z13⟩
  exact ⟨fnQ "law" "law" cI kV35 dc35 pm35 an35 cd35 ct35, fun s v => .of_eq rfl, fun base _ _ => CQ T⟩
end K22
open PySem PySem.W PyProof.Rows
set_option maxRecDepth 100000 in
set_option maxHeartbeats 0 in
theorem PySem.Challenge.cw_evenhall_k22_carry_rows_holds : PySem.Challenge.rw_evenhall_k22_carry_rows.Holds := by
  w_on; o_law
  refine PySem.W.holds_open (q := K22.vw) (loose := []) (Xt := fun s => PySem.W.xlAt K22.vw [] s && PySem.W.recOk (PySem.W.RowW.records (PySem.W.OpenRow.toRowW (PySem.W.OpenLaw.row PySem.Challenge.rw_evenhall_k22_carry_rows))) s) (XP := PySem.W.XL K22.vw []) (Yf := PySem.W.Hook.obs (PySem.W.kHook K22.frag K22.adrs K22.adrs_eq)) (Ya := PySem.W.Hook.val (PySem.W.kHook K22.frag K22.adrs K22.adrs_eq)) (YP := PySem.W.Hook.says (PySem.W.kHook K22.frag K22.adrs K22.adrs_eq)) (N := 10274) K22.left (PySem.W.Hook.of (PySem.W.kHook K22.frag K22.adrs K22.adrs_eq)) (PySem.W.Hook.keeps (PySem.W.kHook K22.frag K22.adrs K22.adrs_eq))
    (fun s e => PySem.W.xl_of s (Bool.and_eq_true_iff.mp e).1) PySem.W.XL.keeps (by rfl) (by rfl) (by rfl) (fun s e => PySem.W.recFacts_of (Bool.and_eq_true_iff.mp e).2) (by rfl) (by assumption) (by decide +kernel) ⟨rfl, rfl, rfl, rfl, rfl, by decide +kernel⟩ ?hw ?hc
  (case hw => w_witness2)
  k_fill
  refine L2.zk (l := PySem.Challenge.rw_evenhall_k22_carry_rows) (n := 63) (k := 10) (x := "_law_script") (sp := K22.sp_law) rfl (by decide) rfl ⟨rfl, by decide, by decide⟩ (fun w h Y => PySem.W.kIn_of Y) ?F ?S
  case F =>
    intro w mg fa h KX G hmg
    refine' K22.all_mk KX G hmg ?_ ?_ ?_ ?_ ?_ ?_ ?_ ?_ ?_ ?_ ?_ ?_ ?_ ?_ ?_ ?_ ?_ ?_ ?_ ?_ ?_ ?_ ?_ ?_ ?_ ?_ ?_ ?_ ?_ ?_ ?_ ?_ ?_ ?_ ?_ ?_ ?_ ?_ ?_ ?_ ?_ ?_ ?_ ?_ ?_ ?_ ?_ ?_ ?_ ?_ ?_ ?_ ?_ ?_ ?_ ?_ ?_ ?_ ?_ ?_ ?_ ?_ ?_ ?_ ?_ ?_ ?_ ?_ ?_ ?_ ?_ ?_ ?_ ?_ ?_ ?_ ?_ ?_ ?_ ?_ ?_ ?_ ?_ ?_ ?_ ?_ ?_ ?_ ?_ ?_ ?_ ?_ ?_ ?_ ?_ ?_ ?_ ?_ ?_ ?_ ?_ ?_ ?_ ?_ ?_ ?_ ?_ ?_ ?_ ?_ ?_ ?_ ?_ ?_ ?_ ?_ ?_ ?_ ?_ ?_ ?_ ?_ ?_ ?_ ?_ ?_ ?_ ?_ ?_ ?_ ?_ ?_ ?_ ?_ ?_ ?_ ?_ ?_ ?_ ?_ ?_ ?_ ?_ ?_ ?_ ?_ ?_ ?_ ?_ ?_ ?_ ?_ ?_ ?_ ?_ ?_ ?_ ?_ ?_ ?_ ?_ ?_ ?_ ?_ ?_ ?_ ?_ ?_ ?_ ?_ ?_ ?_ ?_ ?_ ?_ ?_ ?_ ?_ ?_ ?_ ?_ ?_ ?_ ?_ ?_ ?_ ?_ ?_ ?_ ?_ ?_ ?_ ?_ ?_ ?_ ?_ ?_ ?_ ?_ ?_ ?_ ?_ ?_ ?_ ?_ ?_ ?_ ?_ ?_ ?_ ?_ ?_ ?_ ?_ ?_ ?_ ?_ ?_ ?_ ?_ ?_ ?_ ?_ ?_ ?_ ?_ ?_ ?_ ?_ ?_ ?_ ?_ ?_ ?_ ?_ ?_ ?_ ?_ ?_ ?_ ?_ ?_ ?_ ?_ ?_ ?_ ?_ ?_ ?_ ?_ ?_ ?_ ?_ ?_ ?_ ?_ ?_ ?_ ?_ ?_ ?_ ?_ ?_ ?_ ?_ ?_ ?_ ?_ ?_ ?_ ?_ ?_ ?_ ?_ ?_ ?_ ?_ ?_ ?_ ?_ ?_ ?_ ?_ ?_ ?_ ?_ ?_ ?_ ?_ ?_ ?_ ?_
    all_goals try first | k_is | k_exc
    all_goals try first | k_is | k_exc
  case S => exact fun K H a ns hl hO hS => K22.law_starts hO hS hl