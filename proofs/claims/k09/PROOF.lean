import PyProof.Rows.All
import KE.KUnpack
import KE.KSortTup
import PyProof.SeqI3
import PyProof.DictItems
import KE.KPairComp
import PyProof.DictWalks
import PyProof.Rows.SortKeyStr
import KE.KItem
import KE.KTupSum
import KE.KEqDict
import KE.KFromBytes
import KE.KIntText
import KE.KRevIter
import KE.KDictOf
import KE.LcSums
import KE.KDictSum
import KE.KTryMore
import OpenK.KLine
import OpenK.KOwn
import Wide.Line
import Wide.FinOn
import Lean
import PySem.Challenge.RW_evenhall_k09_quotes_by_plain_rows
set_option Elab.async false
set_option linter.all false
set_option maxRecDepth 100000
namespace L2
open PySem
noncomputable def fJ (s : Stmt) (j : Nat) : Stmt := match s with
  | .ClassDef _ _ _ body _ _ _ _ _ _ _ => body.getD j (.Pass ⟨0, 0, 0, 0⟩)
  | _ => .Pass ⟨0, 0, 0, 0⟩
noncomputable def aH (s : Stmt) : Arguments := match s with
  | .FunctionDef _ a _ _ _ _ _ _ _ _ => a
  | _ => { posonlyargs := [], args := [], vararg := none, kwonlyargs := [], kw_defaults := [], kwarg := none, defaults := [] }
noncomputable def aw (s : Stmt) : List Stmt := match s with
  | .FunctionDef _ _ b _ _ _ _ _ _ _ => b
  | _ => []
noncomputable def ad (s : Stmt) : Scope := match s with
  | .FunctionDef _ _ _ _ _ _ sc _ _ _ => sc
  | _ => { kind := .function, names := [], isGenerator := false, isCoroutine := false }
end L2
namespace K9
open PySem L2
noncomputable def top (i : Nat) : Stmt := PySem.Challenge.pw_evenhall_k09_quotes_by_plain_rows.main.body.getD i (.Pass ⟨0, 0, 0, 0⟩)
noncomputable abbrev cN : Stmt := top 8
noncomputable abbrev cO : Stmt := top 9
noncomputable abbrev cB : Stmt := top 10
noncomputable abbrev dz : Stmt := top 12
noncomputable abbrev bG : Stmt := top 14
noncomputable abbrev bv : Stmt := top 16
noncomputable abbrev bI : Stmt := top 19
noncomputable abbrev aP : Stmt := top 20
noncomputable abbrev bE : Stmt := top 21
noncomputable abbrev b9 : Stmt := top 22
noncomputable abbrev bu : Stmt := top 23
noncomputable abbrev aM : Stmt := top 24
noncomputable abbrev cE : Stmt := top 25
noncomputable abbrev aD : Stmt := top 26
noncomputable abbrev cv : Stmt := top 27
noncomputable abbrev aJ : Stmt := top 28
noncomputable abbrev bg : Stmt := top 29
noncomputable abbrev bS : Stmt := top 30
noncomputable abbrev b_ : Stmt := top 31
noncomputable abbrev bF : Stmt := top 32
noncomputable abbrev aY : Stmt := top 33
noncomputable abbrev bp : Stmt := top 34
noncomputable abbrev bX : Stmt := top 35
noncomputable abbrev bf : Stmt := fJ (top 17) 0
noncomputable abbrev bD : Stmt := fJ (top 17) 1
noncomputable abbrev bq : Stmt := fJ (top 17) 2
noncomputable abbrev bQ : Stmt := fJ (top 17) 3
noncomputable abbrev aW : Stmt := fJ (top 17) 4
noncomputable abbrev aO : Stmt := fJ (top 17) 6
noncomputable abbrev bJ : Stmt := fJ (top 17) 7
end K9
set_option Elab.async false
set_option linter.all false
namespace TR
open PySem PySem.W
def go (p : Program) (w : World) (lo : Nat) (an : Option Value) : Nat → SharedT → Thread → Option SharedT
  | 0, _, _ => none
  | k + 1, x, th => match through th with
    | true => some x
    | false => match stepOk lo an th with
      | false => none
      | true => match stepT (denote treeTable) p w x th with
        | none => none
        | some y => go p w lo an k y.1 y.2
theorem jx {p : Program} {w : World} {lo : Nat} {an : Option Value} (k : Nat) : ∀ {x y : SharedT} {th : Thread}, go p w lo an k x th = some y → topRun treeTable p w lo an k x.abs th = some y.abs := by
  induction k with
  | zero => intro x y th e; cases e
  | succ k ih =>
    intro x y th e
    unfold go at e
    unfold topRun
    revert e
    cases through th with
    | true => intro e; cases e; rfl
    | false =>
      cases stepOk lo an th with
      | false => intro e; cases e
      | true =>
        dsimp only
        cases z : stepT (denote treeTable) p w x th with
        | none => intro e; cases e
        | some v =>
          intro e
          obtain ⟨v1, v2⟩ := v
          rw [stepT_spec z]
          exact ih e
noncomputable def look (p : Program) (P : Params) (s : Shared) : Bool := staticsOk (importedModules p.main.body) (boot_heap P) s.heap && namesBound p s.heap && gensDone s && laidKept (boot_heap P) s.heap
theorem left {p q : Program} {ls : List Str} {Xt : Shared → Bool} {β : Type} {Yf : Shared → β} {Ya : World → β} {N lo : Nat} {an : Option Value} {tr : Params → BT}
    (ho : ∀ w : World, (fencedOpening treeTable p w N).map (fun s => (s.heap, s.gens, s.drawn, s.toks)) = some (boot_heap w.params, Array.mk [], boot_drawn, boot_toks))
    (hz : ∀ P : Params, ((boot_heap P).isNs mainGlobals, (boot_heap P).objs.size, (boot_heap P).nsMap mainGlobals "__annotations__") = (true, lo, an))
    (ht : ∀ P : Params, absHeap (tr P) lo (boot_heap P).life = boot_heap P)
    (hr : ∀ w : World, (fun os => (go p w lo an N ⟨tr w.params, lo, (boot_heap w.params).life, Array.mk [], boot_drawn, boot_toks, os⟩ (topStub p)).map fun x => (look p w.params x.abs, openSeen q ls (importedModules p.main.body) Xt true x.abs, Yf x.abs)) = fun _ => some (true, openGood q ls, Ya w)) :
    LeftO p q ls Xt Yf Ya N := by
  intro w
  obtain ⟨⟨h, g, d, k, os⟩, e1, e2⟩ := Option.map_eq_some_iff.mp (ho w)
  simp only [Prod.mk.injEq] at e2
  obtain ⟨rfl, rfl, rfl, rfl⟩ := e2
  have z := hz w.params
  simp only [Prod.mk.injEq] at z
  obtain ⟨z1, z2, z3⟩ := z
  obtain ⟨x, r1, r2⟩ := Option.map_eq_some_iff.mp (congrFun (hr w) os)
  simp only [Prod.mk.injEq] at r2
  obtain ⟨l1, l2, l3⟩ := r2
  have t := jx _ r1
  have ab : SharedT.abs ⟨tr w.params, lo, (boot_heap w.params).life, Array.mk [], boot_drawn, boot_toks, os⟩ = ⟨boot_heap w.params, Array.mk [], boot_drawn, boot_toks, os⟩ := by
    show Shared.mk (absHeap (tr w.params) lo (boot_heap w.params).life) _ _ _ _ = _
    rw [ht]
  rw [ab] at t
  have f : topFrom treeTable p w N ⟨boot_heap w.params, Array.mk [], boot_drawn, boot_toks, os⟩ = some x.abs := by
    unfold topFrom
    dsimp only
    rw [z1, z2, z3, t]
    show (match look p w.params x.abs with | true => some x.abs | false => none) = _
    rw [l1]
  unfold openEnds
  rw [e1]
  show (topFrom treeTable p w N _).map _ = _
  rw [f]
  show some (_, _) = _
  rw [l2, l3]
end TR
namespace K9
open PySem L2
abbrev kS (s : String) : Str := Str.ofString s
abbrev kR (a : Addr) : Value := .ref a
abbrev kY (s : String) : Value := .type s
abbrev kB (s : String) : Value := .builtin s
abbrev kZ (s : Str) (t : Tok) : Value := .str s t
abbrev kN : Value := .none
abbrev kD (h : Int) (k v : Value) : DictEntry := ⟨h, k, v⟩
abbrev kO (c : Value) (d : Option Addr) (t : Data) (s : Array (Option Value)) : Obj := ⟨c, d, t, s⟩
abbrev keyHash := PyData.keyHash
abbrev kE (P : Params) (s : String) (t : Tok) (v : Value) : DictEntry := ⟨keyHash P (kS s), kZ (kS s) t, v⟩
set_option maxRecDepth 100000 in
noncomputable def frag (P : Params) : PySem.W.Frag :=
  (nat_lit 2, (kO kN none (PySem.Data.dict #[] 0) #[]))::
  (nat_lit 3, (kO (kY "dict") none (PySem.Data.dict #[(kE P "__name__" 165 (kZ (kS "law_evenhall_k09_quotes_by_plain_rows") 453)), (kE P "__doc__" 166 kN), (kE P "__package__" 167 kN), (kE P "__loader__" 168 (kB "__main__.__loader__#opaque")), (kE P "__spec__" 169 kN), (kE P "__annotations__" 170 (kR 6)), (kE P "__builtins__" 171 (kR 4)), (kE P "__file__" 173 (kZ (kS "/claim/cut.py") 172)), (kE P "__cached__" 174 kN), (kE P "_wall" 193 (kR 21)), (kE P "HouseError" 213 (kR 31)), (kE P "BadDay" 236 (kR 51)), (kE P "BadCurrency" 259 (kR 70)), (kE P "BadRate" 282 (kR 89)), (kE P "NoRate" 305 (kR 108)), (kE P "is_whole" 314 (kR 117)), (kE P "is_among" 323 (kR 124)), (kE P "signs_lie" 329 (kR 129)), (kE P "is_day" 338 (kR 136)), (kE P "is_currency" 347 (kR 143)), (kE P "is_coin_count" 356 (kR 150)), (kE P "Rates" 452 (kR 214)), (kE P "_law_cell_at" 462 (kR 225)), (kE P "_law_currency_by" 468 (kR 230)), (kE P "_law_newest" 480 (kR 237)), (kE P "_law_word" 488 (kR 244)), (kE P "_law_is_whole" 497 (kR 251)), (kE P "_law_is_currency" 503 (kR 256)), (kE P "_law_due" 515 (kR 263)), (kE P "_law_spoilt" 534 (kR 270)), (kE P "_law_told" 544 (kR 277)), (kE P "_law_newest_good" 550 (kR 282)), (kE P "_law_pair_good" 562 (kR 289)), (kE P "_law_lists" 568 (kR 294)), (kE P "_law_list" 576 (kR 301)), (kE P "_law_listed" 589 (kR 308)), (kE P "_law_all_good" 595 (kR 313)), (kE P "_law_end_good" 606 (kR 320)), (kE P "law" 612 (kR 325))] 39) #[]))::
  (nat_lit 15, (kO (kY "tuple") none (PySem.Data.seq #[] 0) #[]))::
  (nat_lit 17, (kO (kY "tuple") none (PySem.Data.seq #[(kZ (kS "k") 190)] 0) #[]))::
  (nat_lit 18, (kO (kY "tuple") none (PySem.Data.seq #[] 0) #[]))::
  (nat_lit 20, (kO (kY "code") none (PySem.Data.fields #[(kZ (kS "_wall") 187), (kZ (kS "_wall") 188), (kZ (kS "/claim/cut.py") 189), (PySem.Value.int (1 : Int) 0), (PySem.Value.int (1 : Int) 0), (PySem.Value.int (0 : Int) 0), (PySem.Value.int (0 : Int) 0), (PySem.Value.int (3 : Int) 0), (kR 15), (PySem.Value.bool true), (PySem.Value.int (181 : Int) 0), (kR 16), kN, (kR 17), (kR 18), (kR 19), (PySem.Value.int (191 : Int) 0), (PySem.Value.int (1 : Int) 0), (kZ (kS "/claim/cut.py") 192)]) #[]))::
  (nat_lit 21, (kO (kY "function") none (PySem.Data.func (PySem.FuncData.mk (kS "_wall") (kS "_wall") (PySem.Arguments.mk [] [(PySem.Arg.mk (kS "k") none (PySem.Pos.mk 1 10 1 11))] none [] [] none []) (PySem.FuncBody.stmts [(PySem.Stmt.While (PySem.Expr.Constant (PySem.Const.bool true) 0 (PySem.Pos.mk 2 10 2 14)) [(PySem.Stmt.Pass (PySem.Pos.mk 3 8 3 12))] [] (PySem.Pos.mk 2 4 3 12))]) (PySem.Scope.mk PySem.ScopeKind.function [((kS "k"), PySem.NameKind.local)] false false []) 3 [] kN kN kN (kZ (kS "__main__") 164) none (kR 20) kN 0)) #[]))::
  (nat_lit 22, (kO (kY "tuple") none (PySem.Data.seq #[(kY "ValueError")] 0) #[]))::
  (nat_lit 29, (kO (kY "tuple") none (PySem.Data.seq #[] 0) #[]))::
  (nat_lit 30, (kO (kY "dict") none (PySem.Data.dict #[(kE P "__module__" 203 (kZ (kS "evenhall.errors") 194)), (kE P "__firstlineno__" 207 (PySem.Value.int (5 : Int) 206)), (kE P "__static_attributes__" 208 (kR 29)), (kE P "__weakref__" 210 (kR 32)), (kE P "__doc__" 211 kN)] 3) #[]))::
  (nat_lit 31, (kO (kY "type") none (PySem.Data.cls (PySem.ClassData.mk (kS "HouseError") [(kY "ValueError")] [(kR 31), (kY "ValueError"), (kY "Exception"), (kY "BaseException"), (kY "object")] 30 (kS "HouseError") true [] [(kR 51), (kR 70), (kR 89), (kR 108)] false none false)) #[(some (kR 22)), none, (some (kZ (kS "HouseError") 196)), (some (kZ (kS "HouseError") 204)), (some (kB "ValueError.__new__")), (some (PySem.Value.bool true))]))::
  (nat_lit 32, (kO (kY "getset_descriptor") none (PySem.Data.fields #[(kZ (kS "__weakref__") 209), (kR 31), (kB "ExceptionGroup.__weakref__"), kN]) #[]))::
  (nat_lit 35, (kO (kY "tuple") none (PySem.Data.seq #[(kR 31)] 0) #[]))::
  (nat_lit 42, (kO (kY "tuple") none (PySem.Data.seq #[] 0) #[]))::
  (nat_lit 44, (kO (kY "tuple") none (PySem.Data.seq #[(kZ (kS "self") 229)] 0) #[]))::
  (nat_lit 45, (kO (kY "tuple") none (PySem.Data.seq #[] 0) #[]))::
  (nat_lit 47, (kO (kY "code") none (PySem.Data.fields #[(kZ (kS "small_words") 226), (kZ (kS "BadDay.small_words") 227), (kZ (kS "/claim/cut.py") 228), (PySem.Value.int (9 : Int) 0), (PySem.Value.int (1 : Int) 0), (PySem.Value.int (0 : Int) 0), (PySem.Value.int (0 : Int) 0), (PySem.Value.int (3 : Int) 0), (kR 42), (PySem.Value.bool true), (PySem.Value.int (181 : Int) 0), (kR 43), kN, (kR 44), (kR 45), (kR 46), (PySem.Value.int (230 : Int) 0), (PySem.Value.int (9 : Int) 0), (kZ (kS "/claim/cut.py") 231)]) #[]))::
  (nat_lit 48, (kO (kY "function") none (PySem.Data.func (PySem.FuncData.mk (kS "small_words") (kS "BadDay.small_words") (PySem.Arguments.mk [] [(PySem.Arg.mk (kS "self") none (PySem.Pos.mk 9 20 9 24))] none [] [] none []) (PySem.FuncBody.stmts [(PySem.Stmt.Expr (PySem.Expr.Call (PySem.Expr.Name (kS "_wall") (PySem.Pos.mk 10 8 10 13)) [(PySem.Expr.Constant (PySem.Const.int (0 : Int)) 0 (PySem.Pos.mk 10 14 10 15))] [] (PySem.Pos.mk 10 8 10 16)) (PySem.Pos.mk 10 8 10 16))]) (PySem.Scope.mk PySem.ScopeKind.function [((kS "self"), PySem.NameKind.local), ((kS "_wall"), PySem.NameKind.globalImplicit)] false false []) 3 [] kN kN kN (kZ (kS "evenhall.errors") 194) none (kR 47) kN 0)) #[]))::
  (nat_lit 49, (kO (kY "tuple") none (PySem.Data.seq #[] 0) #[]))::
  (nat_lit 50, (kO (kY "dict") none (PySem.Data.dict #[(kE P "__module__" 221 (kZ (kS "evenhall.errors") 194)), (kE P "__firstlineno__" 225 (PySem.Value.int (7 : Int) 224)), (kE P "small_words" 232 (kR 48)), (kE P "__static_attributes__" 233 (kR 49)), (kE P "__doc__" 234 kN)] 2) #[]))::
  (nat_lit 51, (kO (kY "type") none (PySem.Data.cls (PySem.ClassData.mk (kS "BadDay") [(kR 31)] [(kR 51), (kR 31), (kY "ValueError"), (kY "Exception"), (kY "BaseException"), (kY "object")] 50 (kS "BadDay") true [] [] false none false)) #[(some (kR 35)), none, (some (kZ (kS "BadDay") 214)), (some (kZ (kS "BadDay") 222)), (some (kB "ValueError.__new__")), (some (PySem.Value.bool true))]))::
  (nat_lit 54, (kO (kY "tuple") none (PySem.Data.seq #[(kR 31)] 0) #[]))::
  (nat_lit 61, (kO (kY "tuple") none (PySem.Data.seq #[] 0) #[]))::
  (nat_lit 63, (kO (kY "tuple") none (PySem.Data.seq #[(kZ (kS "self") 252)] 0) #[]))::
  (nat_lit 64, (kO (kY "tuple") none (PySem.Data.seq #[] 0) #[]))::
  (nat_lit 66, (kO (kY "code") none (PySem.Data.fields #[(kZ (kS "small_words") 249), (kZ (kS "BadCurrency.small_words") 250), (kZ (kS "/claim/cut.py") 251), (PySem.Value.int (13 : Int) 0), (PySem.Value.int (1 : Int) 0), (PySem.Value.int (0 : Int) 0), (PySem.Value.int (0 : Int) 0), (PySem.Value.int (3 : Int) 0), (kR 61), (PySem.Value.bool true), (PySem.Value.int (181 : Int) 0), (kR 62), kN, (kR 63), (kR 64), (kR 65), (PySem.Value.int (253 : Int) 0), (PySem.Value.int (13 : Int) 0), (kZ (kS "/claim/cut.py") 254)]) #[]))::
  (nat_lit 67, (kO (kY "function") none (PySem.Data.func (PySem.FuncData.mk (kS "small_words") (kS "BadCurrency.small_words") (PySem.Arguments.mk [] [(PySem.Arg.mk (kS "self") none (PySem.Pos.mk 13 20 13 24))] none [] [] none []) (PySem.FuncBody.stmts [(PySem.Stmt.Expr (PySem.Expr.Call (PySem.Expr.Name (kS "_wall") (PySem.Pos.mk 14 8 14 13)) [(PySem.Expr.Constant (PySem.Const.int (1 : Int)) 0 (PySem.Pos.mk 14 14 14 15))] [] (PySem.Pos.mk 14 8 14 16)) (PySem.Pos.mk 14 8 14 16))]) (PySem.Scope.mk PySem.ScopeKind.function [((kS "self"), PySem.NameKind.local), ((kS "_wall"), PySem.NameKind.globalImplicit)] false false []) 3 [] kN kN kN (kZ (kS "evenhall.errors") 194) none (kR 66) kN 0)) #[]))::
  (nat_lit 68, (kO (kY "tuple") none (PySem.Data.seq #[] 0) #[]))::
  (nat_lit 69, (kO (kY "dict") none (PySem.Data.dict #[(kE P "__module__" 244 (kZ (kS "evenhall.errors") 194)), (kE P "__firstlineno__" 248 (PySem.Value.int (11 : Int) 247)), (kE P "small_words" 255 (kR 67)), (kE P "__static_attributes__" 256 (kR 68)), (kE P "__doc__" 257 kN)] 2) #[]))::
  (nat_lit 70, (kO (kY "type") none (PySem.Data.cls (PySem.ClassData.mk (kS "BadCurrency") [(kR 31)] [(kR 70), (kR 31), (kY "ValueError"), (kY "Exception"), (kY "BaseException"), (kY "object")] 69 (kS "BadCurrency") true [] [] false none false)) #[(some (kR 54)), none, (some (kZ (kS "BadCurrency") 237)), (some (kZ (kS "BadCurrency") 245)), (some (kB "ValueError.__new__")), (some (PySem.Value.bool true))]))::
  (nat_lit 73, (kO (kY "tuple") none (PySem.Data.seq #[(kR 31)] 0) #[]))::
  (nat_lit 80, (kO (kY "tuple") none (PySem.Data.seq #[] 0) #[]))::
  (nat_lit 82, (kO (kY "tuple") none (PySem.Data.seq #[(kZ (kS "self") 275)] 0) #[]))::
  (nat_lit 83, (kO (kY "tuple") none (PySem.Data.seq #[] 0) #[]))::
  (nat_lit 85, (kO (kY "code") none (PySem.Data.fields #[(kZ (kS "small_words") 272), (kZ (kS "BadRate.small_words") 273), (kZ (kS "/claim/cut.py") 274), (PySem.Value.int (17 : Int) 0), (PySem.Value.int (1 : Int) 0), (PySem.Value.int (0 : Int) 0), (PySem.Value.int (0 : Int) 0), (PySem.Value.int (3 : Int) 0), (kR 80), (PySem.Value.bool true), (PySem.Value.int (181 : Int) 0), (kR 81), kN, (kR 82), (kR 83), (kR 84), (PySem.Value.int (276 : Int) 0), (PySem.Value.int (17 : Int) 0), (kZ (kS "/claim/cut.py") 277)]) #[]))::
  (nat_lit 86, (kO (kY "function") none (PySem.Data.func (PySem.FuncData.mk (kS "small_words") (kS "BadRate.small_words") (PySem.Arguments.mk [] [(PySem.Arg.mk (kS "self") none (PySem.Pos.mk 17 20 17 24))] none [] [] none []) (PySem.FuncBody.stmts [(PySem.Stmt.Expr (PySem.Expr.Call (PySem.Expr.Name (kS "_wall") (PySem.Pos.mk 18 8 18 13)) [(PySem.Expr.Constant (PySem.Const.int (2 : Int)) 0 (PySem.Pos.mk 18 14 18 15))] [] (PySem.Pos.mk 18 8 18 16)) (PySem.Pos.mk 18 8 18 16))]) (PySem.Scope.mk PySem.ScopeKind.function [((kS "self"), PySem.NameKind.local), ((kS "_wall"), PySem.NameKind.globalImplicit)] false false []) 3 [] kN kN kN (kZ (kS "evenhall.errors") 194) none (kR 85) kN 0)) #[]))::
  (nat_lit 87, (kO (kY "tuple") none (PySem.Data.seq #[] 0) #[]))::
  (nat_lit 88, (kO (kY "dict") none (PySem.Data.dict #[(kE P "__module__" 267 (kZ (kS "evenhall.errors") 194)), (kE P "__firstlineno__" 271 (PySem.Value.int (15 : Int) 270)), (kE P "small_words" 278 (kR 86)), (kE P "__static_attributes__" 279 (kR 87)), (kE P "__doc__" 280 kN)] 2) #[]))::
  (nat_lit 89, (kO (kY "type") none (PySem.Data.cls (PySem.ClassData.mk (kS "BadRate") [(kR 31)] [(kR 89), (kR 31), (kY "ValueError"), (kY "Exception"), (kY "BaseException"), (kY "object")] 88 (kS "BadRate") true [] [] false none false)) #[(some (kR 73)), none, (some (kZ (kS "BadRate") 260)), (some (kZ (kS "BadRate") 268)), (some (kB "ValueError.__new__")), (some (PySem.Value.bool true))]))::
  (nat_lit 92, (kO (kY "tuple") none (PySem.Data.seq #[(kR 31)] 0) #[]))::
  (nat_lit 99, (kO (kY "tuple") none (PySem.Data.seq #[] 0) #[]))::
  (nat_lit 101, (kO (kY "tuple") none (PySem.Data.seq #[(kZ (kS "self") 298)] 0) #[]))::
  (nat_lit 102, (kO (kY "tuple") none (PySem.Data.seq #[] 0) #[]))::
  (nat_lit 104, (kO (kY "code") none (PySem.Data.fields #[(kZ (kS "small_words") 295), (kZ (kS "NoRate.small_words") 296), (kZ (kS "/claim/cut.py") 297), (PySem.Value.int (21 : Int) 0), (PySem.Value.int (1 : Int) 0), (PySem.Value.int (0 : Int) 0), (PySem.Value.int (0 : Int) 0), (PySem.Value.int (3 : Int) 0), (kR 99), (PySem.Value.bool true), (PySem.Value.int (181 : Int) 0), (kR 100), kN, (kR 101), (kR 102), (kR 103), (PySem.Value.int (299 : Int) 0), (PySem.Value.int (21 : Int) 0), (kZ (kS "/claim/cut.py") 300)]) #[]))::
  (nat_lit 105, (kO (kY "function") none (PySem.Data.func (PySem.FuncData.mk (kS "small_words") (kS "NoRate.small_words") (PySem.Arguments.mk [] [(PySem.Arg.mk (kS "self") none (PySem.Pos.mk 21 20 21 24))] none [] [] none []) (PySem.FuncBody.stmts [(PySem.Stmt.Expr (PySem.Expr.Call (PySem.Expr.Name (kS "_wall") (PySem.Pos.mk 22 8 22 13)) [(PySem.Expr.Constant (PySem.Const.int (3 : Int)) 0 (PySem.Pos.mk 22 14 22 15))] [] (PySem.Pos.mk 22 8 22 16)) (PySem.Pos.mk 22 8 22 16))]) (PySem.Scope.mk PySem.ScopeKind.function [((kS "self"), PySem.NameKind.local), ((kS "_wall"), PySem.NameKind.globalImplicit)] false false []) 3 [] kN kN kN (kZ (kS "evenhall.errors") 194) none (kR 104) kN 0)) #[]))::
  (nat_lit 106, (kO (kY "tuple") none (PySem.Data.seq #[] 0) #[]))::
  (nat_lit 107, (kO (kY "dict") none (PySem.Data.dict #[(kE P "__module__" 290 (kZ (kS "evenhall.errors") 194)), (kE P "__firstlineno__" 294 (PySem.Value.int (19 : Int) 293)), (kE P "small_words" 301 (kR 105)), (kE P "__static_attributes__" 302 (kR 106)), (kE P "__doc__" 303 kN)] 2) #[]))::
  (nat_lit 108, (kO (kY "type") none (PySem.Data.cls (PySem.ClassData.mk (kS "NoRate") [(kR 31)] [(kR 108), (kR 31), (kY "ValueError"), (kY "Exception"), (kY "BaseException"), (kY "object")] 107 (kS "NoRate") true [] [] false none false)) #[(some (kR 92)), none, (some (kZ (kS "NoRate") 283)), (some (kZ (kS "NoRate") 291)), (some (kB "ValueError.__new__")), (some (PySem.Value.bool true))]))::
  (nat_lit 111, (kO (kY "tuple") none (PySem.Data.seq #[] 0) #[]))::
  (nat_lit 113, (kO (kY "tuple") none (PySem.Data.seq #[(kZ (kS "thing") 311)] 0) #[]))::
  (nat_lit 114, (kO (kY "tuple") none (PySem.Data.seq #[] 0) #[]))::
  (nat_lit 116, (kO (kY "code") none (PySem.Data.fields #[(kZ (kS "is_whole") 308), (kZ (kS "is_whole") 309), (kZ (kS "/claim/cut.py") 310), (PySem.Value.int (24 : Int) 0), (PySem.Value.int (1 : Int) 0), (PySem.Value.int (0 : Int) 0), (PySem.Value.int (0 : Int) 0), (PySem.Value.int (3 : Int) 0), (kR 111), (PySem.Value.bool true), (PySem.Value.int (181 : Int) 0), (kR 112), kN, (kR 113), (kR 114), (kR 115), (PySem.Value.int (312 : Int) 0), (PySem.Value.int (24 : Int) 0), (kZ (kS "/claim/cut.py") 313)]) #[]))::
  (nat_lit 117, (kO (kY "function") none (PySem.Data.func (PySem.W.fnOf (kS "is_whole") (kS "is_whole") (aH cN) (aw cN) (ad cN) kN kN kN (kZ (kS "evenhall.words") 306) none (kR 116) kN)) #[]))::
  (nat_lit 118, (kO (kY "tuple") none (PySem.Data.seq #[] 0) #[]))::
  (nat_lit 120, (kO (kY "tuple") none (PySem.Data.seq #[(kZ (kS "thing") 318), (kZ (kS "least") 319), (kZ (kS "most") 320)] 0) #[]))::
  (nat_lit 121, (kO (kY "tuple") none (PySem.Data.seq #[] 0) #[]))::
  (nat_lit 123, (kO (kY "code") none (PySem.Data.fields #[(kZ (kS "is_among") 315), (kZ (kS "is_among") 316), (kZ (kS "/claim/cut.py") 317), (PySem.Value.int (26 : Int) 0), (PySem.Value.int (3 : Int) 0), (PySem.Value.int (0 : Int) 0), (PySem.Value.int (0 : Int) 0), (PySem.Value.int (3 : Int) 0), (kR 118), (PySem.Value.bool true), (PySem.Value.int (181 : Int) 0), (kR 119), kN, (kR 120), (kR 121), (kR 122), (PySem.Value.int (321 : Int) 0), (PySem.Value.int (26 : Int) 0), (kZ (kS "/claim/cut.py") 322)]) #[]))::
  (nat_lit 124, (kO (kY "function") none (PySem.Data.func (PySem.W.fnOf (kS "is_among") (kS "is_among") (aH cO) (aw cO) (ad cO) kN kN kN (kZ (kS "evenhall.words") 306) none (kR 123) kN)) #[]))::
  (nat_lit 125, (kO (kY "tuple") none (PySem.Data.seq #[] 0) #[]))::
  (nat_lit 128, (kO (kY "code") none (PySem.Data.fields #[(kZ (kS "signs_lie") 324), (kZ (kS "signs_lie") 325), (kZ (kS "/claim/cut.py") 326), (PySem.Value.int (28 : Int) 0), (PySem.Value.int (3 : Int) 0), (PySem.Value.int (0 : Int) 0), (PySem.Value.int (0 : Int) 0), (PySem.Value.int (3 : Int) 0), (kR 125), (PySem.Value.bool true), (PySem.Value.int (181 : Int) 0), (kR 126), kN, kN, kN, (kR 127), (PySem.Value.int (327 : Int) 0), (PySem.Value.int (28 : Int) 0), (kZ (kS "/claim/cut.py") 328)]) #[]))::
  (nat_lit 129, (kO (kY "function") none (PySem.Data.func (PySem.W.fnOf (kS "signs_lie") (kS "signs_lie") (aH cB) (aw cB) (ad cB) kN kN kN (kZ (kS "evenhall.words") 306) none (kR 128) kN)) #[]))::
  (nat_lit 130, (kO (kY "tuple") none (PySem.Data.seq #[] 0) #[]))::
  (nat_lit 132, (kO (kY "tuple") none (PySem.Data.seq #[(kZ (kS "thing") 335)] 0) #[]))::
  (nat_lit 133, (kO (kY "tuple") none (PySem.Data.seq #[] 0) #[]))::
  (nat_lit 135, (kO (kY "code") none (PySem.Data.fields #[(kZ (kS "is_day") 332), (kZ (kS "is_day") 333), (kZ (kS "/claim/cut.py") 334), (PySem.Value.int (31 : Int) 0), (PySem.Value.int (1 : Int) 0), (PySem.Value.int (0 : Int) 0), (PySem.Value.int (0 : Int) 0), (PySem.Value.int (3 : Int) 0), (kR 130), (PySem.Value.bool true), (PySem.Value.int (181 : Int) 0), (kR 131), kN, (kR 132), (kR 133), (kR 134), (PySem.Value.int (336 : Int) 0), (PySem.Value.int (31 : Int) 0), (kZ (kS "/claim/cut.py") 337)]) #[]))::
  (nat_lit 136, (kO (kY "function") none (PySem.Data.func (PySem.W.fnOf (kS "is_day") (kS "is_day") (aH dz) (aw dz) (ad dz) kN kN kN (kZ (kS "evenhall.days") 330) none (kR 135) kN)) #[]))::
  (nat_lit 137, (kO (kY "tuple") none (PySem.Data.seq #[] 0) #[]))::
  (nat_lit 139, (kO (kY "tuple") none (PySem.Data.seq #[(kZ (kS "thing") 344)] 0) #[]))::
  (nat_lit 140, (kO (kY "tuple") none (PySem.Data.seq #[] 0) #[]))::
  (nat_lit 142, (kO (kY "code") none (PySem.Data.fields #[(kZ (kS "is_currency") 341), (kZ (kS "is_currency") 342), (kZ (kS "/claim/cut.py") 343), (PySem.Value.int (34 : Int) 0), (PySem.Value.int (1 : Int) 0), (PySem.Value.int (0 : Int) 0), (PySem.Value.int (0 : Int) 0), (PySem.Value.int (3 : Int) 0), (kR 137), (PySem.Value.bool true), (PySem.Value.int (181 : Int) 0), (kR 138), kN, (kR 139), (kR 140), (kR 141), (PySem.Value.int (345 : Int) 0), (PySem.Value.int (34 : Int) 0), (kZ (kS "/claim/cut.py") 346)]) #[]))::
  (nat_lit 143, (kO (kY "function") none (PySem.Data.func (PySem.W.fnOf (kS "is_currency") (kS "is_currency") (aH bG) (aw bG) (ad bG) kN kN kN (kZ (kS "evenhall.money") 339) none (kR 142) kN)) #[]))::
  (nat_lit 144, (kO (kY "tuple") none (PySem.Data.seq #[] 0) #[]))::
  (nat_lit 146, (kO (kY "tuple") none (PySem.Data.seq #[(kZ (kS "thing") 353)] 0) #[]))::
  (nat_lit 147, (kO (kY "tuple") none (PySem.Data.seq #[] 0) #[]))::
  (nat_lit 149, (kO (kY "code") none (PySem.Data.fields #[(kZ (kS "is_coin_count") 350), (kZ (kS "is_coin_count") 351), (kZ (kS "/claim/cut.py") 352), (PySem.Value.int (37 : Int) 0), (PySem.Value.int (1 : Int) 0), (PySem.Value.int (0 : Int) 0), (PySem.Value.int (0 : Int) 0), (PySem.Value.int (3 : Int) 0), (kR 144), (PySem.Value.bool true), (PySem.Value.int (181 : Int) 0), (kR 145), kN, (kR 146), (kR 147), (kR 148), (PySem.Value.int (354 : Int) 0), (PySem.Value.int (37 : Int) 0), (kZ (kS "/claim/cut.py") 355)]) #[]))::
  (nat_lit 150, (kO (kY "function") none (PySem.Data.func (PySem.W.fnOf (kS "is_coin_count") (kS "is_coin_count") (aH bv) (aw bv) (ad bv) kN kN kN (kZ (kS "evenhall.rates") 348) none (kR 149) kN)) #[]))::
  (nat_lit 158, (kO (kY "tuple") none (PySem.Data.seq #[] 0) #[]))::
  (nat_lit 160, (kO (kY "tuple") none (PySem.Data.seq #[(kZ (kS "self") 372)] 0) #[]))::
  (nat_lit 161, (kO (kY "tuple") none (PySem.Data.seq #[] 0) #[]))::
  (nat_lit 163, (kO (kY "code") none (PySem.Data.fields #[(kZ (kS "__init__") 369), (kZ (kS "Rates.__init__") 370), (kZ (kS "/claim/cut.py") 371), (PySem.Value.int (41 : Int) 0), (PySem.Value.int (1 : Int) 0), (PySem.Value.int (0 : Int) 0), (PySem.Value.int (0 : Int) 0), (PySem.Value.int (3 : Int) 0), (kR 158), (PySem.Value.bool true), (PySem.Value.int (181 : Int) 0), (kR 159), kN, (kR 160), (kR 161), (kR 162), (PySem.Value.int (373 : Int) 0), (PySem.Value.int (41 : Int) 0), (kZ (kS "/claim/cut.py") 374)]) #[]))::
  (nat_lit 164, (kO (kY "function") none (PySem.Data.func (PySem.W.fnOf (kS "__init__") (kS "Rates.__init__") (aH bf) (aw bf) (ad bf) kN kN kN (kZ (kS "evenhall.rates") 348) none (kR 163) kN)) #[]))::
  (nat_lit 165, (kO (kY "tuple") none (PySem.Data.seq #[] 0) #[]))::
  (nat_lit 167, (kO (kY "tuple") none (PySem.Data.seq #[(kZ (kS "self") 379), (kZ (kS "day") 380), (kZ (kS "one") 381), (kZ (kS "p") 382), (kZ (kS "other") 383), (kZ (kS "q") 384)] 0) #[]))::
  (nat_lit 168, (kO (kY "tuple") none (PySem.Data.seq #[] 0) #[]))::
  (nat_lit 170, (kO (kY "code") none (PySem.Data.fields #[(kZ (kS "quote") 376), (kZ (kS "Rates.quote") 377), (kZ (kS "/claim/cut.py") 378), (PySem.Value.int (45 : Int) 0), (PySem.Value.int (6 : Int) 0), (PySem.Value.int (0 : Int) 0), (PySem.Value.int (0 : Int) 0), (PySem.Value.int (3 : Int) 0), (kR 165), (PySem.Value.bool true), (PySem.Value.int (181 : Int) 0), (kR 166), kN, (kR 167), (kR 168), (kR 169), (PySem.Value.int (385 : Int) 0), (PySem.Value.int (45 : Int) 0), (kZ (kS "/claim/cut.py") 386)]) #[]))::
  (nat_lit 171, (kO (kY "function") none (PySem.Data.func (PySem.W.fnOf (kS "quote") (kS "Rates.quote") (aH bD) (aw bD) (ad bD) kN kN kN (kZ (kS "evenhall.rates") 348) none (kR 170) kN)) #[]))::
  (nat_lit 172, (kO (kY "tuple") none (PySem.Data.seq #[] 0) #[]))::
  (nat_lit 174, (kO (kY "tuple") none (PySem.Data.seq #[(kZ (kS "self") 391), (kZ (kS "day") 392), (kZ (kS "pair") 393), (kZ (kS "worth") 394), (kZ (kS "by_day") 395)] 0) #[]))::
  (nat_lit 175, (kO (kY "tuple") none (PySem.Data.seq #[] 0) #[]))::
  (nat_lit 177, (kO (kY "code") none (PySem.Data.fields #[(kZ (kS "keep") 388), (kZ (kS "Rates.keep") 389), (kZ (kS "/claim/cut.py") 390), (PySem.Value.int (57 : Int) 0), (PySem.Value.int (4 : Int) 0), (PySem.Value.int (0 : Int) 0), (PySem.Value.int (0 : Int) 0), (PySem.Value.int (3 : Int) 0), (kR 172), (PySem.Value.bool true), (PySem.Value.int (181 : Int) 0), (kR 173), kN, (kR 174), (kR 175), (kR 176), (PySem.Value.int (396 : Int) 0), (PySem.Value.int (57 : Int) 0), (kZ (kS "/claim/cut.py") 397)]) #[]))::
  (nat_lit 178, (kO (kY "function") none (PySem.Data.func (PySem.W.fnOf (kS "keep") (kS "Rates.keep") (aH bq) (aw bq) (ad bq) kN kN kN (kZ (kS "evenhall.rates") 348) none (kR 177) kN)) #[]))::
  (nat_lit 179, (kO (kY "tuple") none (PySem.Data.seq #[] 0) #[]))::
  (nat_lit 181, (kO (kY "tuple") none (PySem.Data.seq #[(kZ (kS "self") 402), (kZ (kS "currency") 403), (kZ (kS "other") 404), (kZ (kS "others") 405)] 0) #[]))::
  (nat_lit 182, (kO (kY "tuple") none (PySem.Data.seq #[] 0) #[]))::
  (nat_lit 184, (kO (kY "code") none (PySem.Data.fields #[(kZ (kS "link") 399), (kZ (kS "Rates.link") 400), (kZ (kS "/claim/cut.py") 401), (PySem.Value.int (63 : Int) 0), (PySem.Value.int (3 : Int) 0), (PySem.Value.int (0 : Int) 0), (PySem.Value.int (0 : Int) 0), (PySem.Value.int (3 : Int) 0), (kR 179), (PySem.Value.bool true), (PySem.Value.int (181 : Int) 0), (kR 180), kN, (kR 181), (kR 182), (kR 183), (PySem.Value.int (406 : Int) 0), (PySem.Value.int (63 : Int) 0), (kZ (kS "/claim/cut.py") 407)]) #[]))::
  (nat_lit 185, (kO (kY "function") none (PySem.Data.func (PySem.W.fnOf (kS "link") (kS "Rates.link") (aH bQ) (aw bQ) (ad bQ) kN kN kN (kZ (kS "evenhall.rates") 348) none (kR 184) kN)) #[]))::
  (nat_lit 186, (kO (kY "tuple") none (PySem.Data.seq #[] 0) #[]))::
  (nat_lit 189, (kO (kY "code") none (PySem.Data.fields #[(kZ (kS "newest") 409), (kZ (kS "Rates.newest") 410), (kZ (kS "/claim/cut.py") 411), (PySem.Value.int (67 : Int) 0), (PySem.Value.int (4 : Int) 0), (PySem.Value.int (0 : Int) 0), (PySem.Value.int (0 : Int) 0), (PySem.Value.int (3 : Int) 0), (kR 186), (PySem.Value.bool true), (PySem.Value.int (181 : Int) 0), (kR 187), kN, kN, kN, (kR 188), (PySem.Value.int (412 : Int) 0), (PySem.Value.int (67 : Int) 0), (kZ (kS "/claim/cut.py") 413)]) #[]))::
  (nat_lit 190, (kO (kY "function") none (PySem.Data.func (PySem.W.fnOf (kS "newest") (kS "Rates.newest") (aH aW) (aw aW) (ad aW) kN kN kN (kZ (kS "evenhall.rates") 348) none (kR 189) kN)) #[]))::
  (nat_lit 191, (kO (kY "tuple") none (PySem.Data.seq #[] 0) #[]))::
  (nat_lit 193, (kO (kY "tuple") none (PySem.Data.seq #[(kZ (kS "self") 418), (kZ (kS "currency") 419), (kZ (kS "day") 420)] 0) #[]))::
  (nat_lit 194, (kO (kY "tuple") none (PySem.Data.seq #[] 0) #[]))::
  (nat_lit 196, (kO (kY "code") none (PySem.Data.fields #[(kZ (kS "neighbours") 415), (kZ (kS "Rates.neighbours") 416), (kZ (kS "/claim/cut.py") 417), (PySem.Value.int (77 : Int) 0), (PySem.Value.int (3 : Int) 0), (PySem.Value.int (0 : Int) 0), (PySem.Value.int (0 : Int) 0), (PySem.Value.int (3 : Int) 0), (kR 191), (PySem.Value.bool true), (PySem.Value.int (181 : Int) 0), (kR 192), kN, (kR 193), (kR 194), (kR 195), (PySem.Value.int (421 : Int) 0), (PySem.Value.int (77 : Int) 0), (kZ (kS "/claim/cut.py") 422)]) #[]))::
  (nat_lit 197, (kO (kY "function") none (PySem.Data.func (PySem.FuncData.mk (kS "neighbours") (kS "Rates.neighbours") (PySem.Arguments.mk [] [(PySem.Arg.mk (kS "self") none (PySem.Pos.mk 77 19 77 23)), (PySem.Arg.mk (kS "currency") none (PySem.Pos.mk 77 25 77 33)), (PySem.Arg.mk (kS "day") none (PySem.Pos.mk 77 35 77 38))] none [] [] none []) (PySem.FuncBody.stmts [(PySem.Stmt.Expr (PySem.Expr.Call (PySem.Expr.Name (kS "_wall") (PySem.Pos.mk 78 8 78 13)) [(PySem.Expr.Constant (PySem.Const.int (4 : Int)) 0 (PySem.Pos.mk 78 14 78 15))] [] (PySem.Pos.mk 78 8 78 16)) (PySem.Pos.mk 78 8 78 16))]) (PySem.Scope.mk PySem.ScopeKind.function [((kS "self"), PySem.NameKind.local), ((kS "currency"), PySem.NameKind.local), ((kS "day"), PySem.NameKind.local), ((kS "_wall"), PySem.NameKind.globalImplicit)] false false []) 3 [] kN kN kN (kZ (kS "evenhall.rates") 348) none (kR 196) kN 0)) #[]))::
  (nat_lit 198, (kO (kY "tuple") none (PySem.Data.seq #[] 0) #[]))::
  (nat_lit 200, (kO (kY "tuple") none (PySem.Data.seq #[(kZ (kS "self") 427)] 0) #[]))::
  (nat_lit 201, (kO (kY "tuple") none (PySem.Data.seq #[] 0) #[]))::
  (nat_lit 203, (kO (kY "code") none (PySem.Data.fields #[(kZ (kS "currencies") 424), (kZ (kS "Rates.currencies") 425), (kZ (kS "/claim/cut.py") 426), (PySem.Value.int (80 : Int) 0), (PySem.Value.int (1 : Int) 0), (PySem.Value.int (0 : Int) 0), (PySem.Value.int (0 : Int) 0), (PySem.Value.int (3 : Int) 0), (kR 198), (PySem.Value.bool true), (PySem.Value.int (181 : Int) 0), (kR 199), kN, (kR 200), (kR 201), (kR 202), (PySem.Value.int (428 : Int) 0), (PySem.Value.int (80 : Int) 0), (kZ (kS "/claim/cut.py") 429)]) #[]))::
  (nat_lit 204, (kO (kY "function") none (PySem.Data.func (PySem.W.fnOf (kS "currencies") (kS "Rates.currencies") (aH aO) (aw aO) (ad aO) kN kN kN (kZ (kS "evenhall.rates") 348) none (kR 203) kN)) #[]))::
  (nat_lit 205, (kO (kY "tuple") none (PySem.Data.seq #[] 0) #[]))::
  (nat_lit 207, (kO (kY "tuple") none (PySem.Data.seq #[(kZ (kS "self") 434), (kZ (kS "told") 435), (kZ (kS "pair") 436), (kZ (kS "by_day") 437), (kZ (kS "day") 438), (kZ (kS "worth") 439)] 0) #[]))::
  (nat_lit 208, (kO (kY "tuple") none (PySem.Data.seq #[] 0) #[]))::
  (nat_lit 210, (kO (kY "code") none (PySem.Data.fields #[(kZ (kS "quotes") 431), (kZ (kS "Rates.quotes") 432), (kZ (kS "/claim/cut.py") 433), (PySem.Value.int (83 : Int) 0), (PySem.Value.int (1 : Int) 0), (PySem.Value.int (0 : Int) 0), (PySem.Value.int (0 : Int) 0), (PySem.Value.int (3 : Int) 0), (kR 205), (PySem.Value.bool true), (PySem.Value.int (181 : Int) 0), (kR 206), kN, (kR 207), (kR 208), (kR 209), (PySem.Value.int (440 : Int) 0), (PySem.Value.int (83 : Int) 0), (kZ (kS "/claim/cut.py") 441)]) #[]))::
  (nat_lit 211, (kO (kY "function") none (PySem.Data.func (PySem.W.fnOf (kS "quotes") (kS "Rates.quotes") (aH bJ) (aw bJ) (ad bJ) kN kN kN (kZ (kS "evenhall.rates") 348) none (kR 210) kN)) #[]))::
  (nat_lit 212, (kO (kY "tuple") none (PySem.Data.seq #[(kZ (kS "beside") 443), (kZ (kS "by_pair") 444)] 0) #[]))::
  (nat_lit 213, (kO (kY "dict") none (PySem.Data.dict #[(kE P "__module__" 364 (kZ (kS "evenhall.rates") 348)), (kE P "__firstlineno__" 368 (PySem.Value.int (39 : Int) 367)), (kE P "__init__" 375 (kR 164)), (kE P "quote" 387 (kR 171)), (kE P "keep" 398 (kR 178)), (kE P "link" 408 (kR 185)), (kE P "newest" 414 (kR 190)), (kE P "neighbours" 423 (kR 197)), (kE P "currencies" 430 (kR 204)), (kE P "quotes" 442 (kR 211)), (kE P "__static_attributes__" 445 (kR 212)), (kE P "__dict__" 447 (kR 215)), (kE P "__weakref__" 449 (kR 216)), (kE P "__doc__" 450 kN)] 4) #[]))::
  (nat_lit 214, (kO (kY "type") none (PySem.Data.cls (PySem.ClassData.mk (kS "Rates") [(kY "object")] [(kR 214), (kY "object")] 213 (kS "Rates") true [] [] false none false)) #[none, none, (some (kZ (kS "Rates") 357)), (some (kZ (kS "Rates") 365)), (some (kB "object.__new__")), (some (PySem.Value.bool true))]))::
  (nat_lit 215, (kO (kY "getset_descriptor") none (PySem.Data.fields #[(kZ (kS "__dict__") 446), (kR 214), (kB "function.__dict__"), (kB "function.__dict__#set")]) #[]))::
  (nat_lit 216, (kO (kY "getset_descriptor") none (PySem.Data.fields #[(kZ (kS "__weakref__") 448), (kR 214), (kB "ExceptionGroup.__weakref__"), kN]) #[]))::
  (nat_lit 219, (kO (kY "tuple") none (PySem.Data.seq #[] 0) #[]))::
  (nat_lit 221, (kO (kY "tuple") none (PySem.Data.seq #[(kZ (kS "_law_script") 458), (kZ (kS "_law_k") 459)] 0) #[]))::
  (nat_lit 222, (kO (kY "tuple") none (PySem.Data.seq #[] 0) #[]))::
  (nat_lit 224, (kO (kY "code") none (PySem.Data.fields #[(kZ (kS "_law_cell_at") 455), (kZ (kS "_law_cell_at") 456), (kZ (kS "/claim/cut.py") 457), (PySem.Value.int (90 : Int) 0), (PySem.Value.int (2 : Int) 0), (PySem.Value.int (0 : Int) 0), (PySem.Value.int (0 : Int) 0), (PySem.Value.int (3 : Int) 0), (kR 219), (PySem.Value.bool true), (PySem.Value.int (181 : Int) 0), (kR 220), kN, (kR 221), (kR 222), (kR 223), (PySem.Value.int (460 : Int) 0), (PySem.Value.int (90 : Int) 0), (kZ (kS "/claim/cut.py") 461)]) #[]))::
  (nat_lit 225, (kO (kY "function") none (PySem.Data.func (PySem.W.fnOf (kS "_law_cell_at") (kS "_law_cell_at") (aH bI) (aw bI) (ad bI) kN kN kN (kZ (kS "law_evenhall_k09_quotes_by_plain_rows") 453) none (kR 224) kN)) #[]))::
  (nat_lit 226, (kO (kY "tuple") none (PySem.Data.seq #[] 0) #[]))::
  (nat_lit 229, (kO (kY "code") none (PySem.Data.fields #[(kZ (kS "_law_currency_by") 463), (kZ (kS "_law_currency_by") 464), (kZ (kS "/claim/cut.py") 465), (PySem.Value.int (94 : Int) 0), (PySem.Value.int (2 : Int) 0), (PySem.Value.int (0 : Int) 0), (PySem.Value.int (0 : Int) 0), (PySem.Value.int (3 : Int) 0), (kR 226), (PySem.Value.bool true), (PySem.Value.int (181 : Int) 0), (kR 227), kN, kN, kN, (kR 228), (PySem.Value.int (466 : Int) 0), (PySem.Value.int (94 : Int) 0), (kZ (kS "/claim/cut.py") 467)]) #[]))::
  (nat_lit 230, (kO (kY "function") none (PySem.Data.func (PySem.W.fnOf (kS "_law_currency_by") (kS "_law_currency_by") (aH aP) (aw aP) (ad aP) kN kN kN (kZ (kS "law_evenhall_k09_quotes_by_plain_rows") 453) none (kR 229) kN)) #[]))::
  (nat_lit 231, (kO (kY "tuple") none (PySem.Data.seq #[] 0) #[]))::
  (nat_lit 233, (kO (kY "tuple") none (PySem.Data.seq #[(kZ (kS "_law_told_here") 472), (kZ (kS "_law_one") 473), (kZ (kS "_law_other") 474), (kZ (kS "_law_day") 475), (kZ (kS "_law_best") 476), (kZ (kS "_law_row") 477)] 0) #[]))::
  (nat_lit 234, (kO (kY "tuple") none (PySem.Data.seq #[] 0) #[]))::
  (nat_lit 236, (kO (kY "code") none (PySem.Data.fields #[(kZ (kS "_law_newest") 469), (kZ (kS "_law_newest") 470), (kZ (kS "/claim/cut.py") 471), (PySem.Value.int (100 : Int) 0), (PySem.Value.int (4 : Int) 0), (PySem.Value.int (0 : Int) 0), (PySem.Value.int (0 : Int) 0), (PySem.Value.int (3 : Int) 0), (kR 231), (PySem.Value.bool true), (PySem.Value.int (181 : Int) 0), (kR 232), kN, (kR 233), (kR 234), (kR 235), (PySem.Value.int (478 : Int) 0), (PySem.Value.int (100 : Int) 0), (kZ (kS "/claim/cut.py") 479)]) #[]))::
  (nat_lit 237, (kO (kY "function") none (PySem.Data.func (PySem.W.fnOf (kS "_law_newest") (kS "_law_newest") (aH bE) (aw bE) (ad bE) kN kN kN (kZ (kS "law_evenhall_k09_quotes_by_plain_rows") 453) none (kR 236) kN)) #[]))::
  (nat_lit 238, (kO (kY "tuple") none (PySem.Data.seq #[] 0) #[]))::
  (nat_lit 240, (kO (kY "tuple") none (PySem.Data.seq #[(kZ (kS "_law_e") 484), (kZ (kS "_law_found") 485)] 0) #[]))::
  (nat_lit 241, (kO (kY "tuple") none (PySem.Data.seq #[] 0) #[]))::
  (nat_lit 243, (kO (kY "code") none (PySem.Data.fields #[(kZ (kS "_law_word") 481), (kZ (kS "_law_word") 482), (kZ (kS "/claim/cut.py") 483), (PySem.Value.int (109 : Int) 0), (PySem.Value.int (1 : Int) 0), (PySem.Value.int (0 : Int) 0), (PySem.Value.int (0 : Int) 0), (PySem.Value.int (3 : Int) 0), (kR 238), (PySem.Value.bool true), (PySem.Value.int (181 : Int) 0), (kR 239), kN, (kR 240), (kR 241), (kR 242), (PySem.Value.int (486 : Int) 0), (PySem.Value.int (109 : Int) 0), (kZ (kS "/claim/cut.py") 487)]) #[]))::
  (nat_lit 244, (kO (kY "function") none (PySem.Data.func (PySem.W.fnOf (kS "_law_word") (kS "_law_word") (aH b9) (aw b9) (ad b9) kN kN kN (kZ (kS "law_evenhall_k09_quotes_by_plain_rows") 453) none (kR 243) kN)) #[]))::
  (nat_lit 245, (kO (kY "tuple") none (PySem.Data.seq #[] 0) #[]))::
  (nat_lit 247, (kO (kY "tuple") none (PySem.Data.seq #[(kZ (kS "_law_thing") 492), (kZ (kS "_law_least") 493), (kZ (kS "_law_most") 494)] 0) #[]))::
  (nat_lit 248, (kO (kY "tuple") none (PySem.Data.seq #[] 0) #[]))::
  (nat_lit 250, (kO (kY "code") none (PySem.Data.fields #[(kZ (kS "_law_is_whole") 489), (kZ (kS "_law_is_whole") 490), (kZ (kS "/claim/cut.py") 491), (PySem.Value.int (114 : Int) 0), (PySem.Value.int (3 : Int) 0), (PySem.Value.int (0 : Int) 0), (PySem.Value.int (0 : Int) 0), (PySem.Value.int (3 : Int) 0), (kR 245), (PySem.Value.bool true), (PySem.Value.int (181 : Int) 0), (kR 246), kN, (kR 247), (kR 248), (kR 249), (PySem.Value.int (495 : Int) 0), (PySem.Value.int (114 : Int) 0), (kZ (kS "/claim/cut.py") 496)]) #[]))::
  (nat_lit 251, (kO (kY "function") none (PySem.Data.func (PySem.W.fnOf (kS "_law_is_whole") (kS "_law_is_whole") (aH bu) (aw bu) (ad bu) kN kN kN (kZ (kS "law_evenhall_k09_quotes_by_plain_rows") 453) none (kR 250) kN)) #[]))::
  (nat_lit 252, (kO (kY "tuple") none (PySem.Data.seq #[] 0) #[]))::
  (nat_lit 255, (kO (kY "code") none (PySem.Data.fields #[(kZ (kS "_law_is_currency") 498), (kZ (kS "_law_is_currency") 499), (kZ (kS "/claim/cut.py") 500), (PySem.Value.int (116 : Int) 0), (PySem.Value.int (1 : Int) 0), (PySem.Value.int (0 : Int) 0), (PySem.Value.int (0 : Int) 0), (PySem.Value.int (3 : Int) 0), (kR 252), (PySem.Value.bool true), (PySem.Value.int (181 : Int) 0), (kR 253), kN, kN, kN, (kR 254), (PySem.Value.int (501 : Int) 0), (PySem.Value.int (116 : Int) 0), (kZ (kS "/claim/cut.py") 502)]) #[]))::
  (nat_lit 256, (kO (kY "function") none (PySem.Data.func (PySem.W.fnOf (kS "_law_is_currency") (kS "_law_is_currency") (aH aM) (aw aM) (ad aM) kN kN kN (kZ (kS "law_evenhall_k09_quotes_by_plain_rows") 453) none (kR 255) kN)) #[]))::
  (nat_lit 257, (kO (kY "tuple") none (PySem.Data.seq #[] 0) #[]))::
  (nat_lit 259, (kO (kY "tuple") none (PySem.Data.seq #[(kZ (kS "_law_row") 507), (kZ (kS "_law_day") 508), (kZ (kS "_law_one") 509), (kZ (kS "_law_p") 510), (kZ (kS "_law_other") 511), (kZ (kS "_law_q") 512)] 0) #[]))::
  (nat_lit 260, (kO (kY "tuple") none (PySem.Data.seq #[] 0) #[]))::
  (nat_lit 262, (kO (kY "code") none (PySem.Data.fields #[(kZ (kS "_law_due") 504), (kZ (kS "_law_due") 505), (kZ (kS "/claim/cut.py") 506), (PySem.Value.int (120 : Int) 0), (PySem.Value.int (1 : Int) 0), (PySem.Value.int (0 : Int) 0), (PySem.Value.int (0 : Int) 0), (PySem.Value.int (3 : Int) 0), (kR 257), (PySem.Value.bool true), (PySem.Value.int (181 : Int) 0), (kR 258), kN, (kR 259), (kR 260), (kR 261), (PySem.Value.int (513 : Int) 0), (PySem.Value.int (120 : Int) 0), (kZ (kS "/claim/cut.py") 514)]) #[]))::
  (nat_lit 263, (kO (kY "function") none (PySem.Data.func (PySem.W.fnOf (kS "_law_due") (kS "_law_due") (aH cE) (aw cE) (ad cE) kN kN kN (kZ (kS "law_evenhall_k09_quotes_by_plain_rows") 453) none (kR 262) kN)) #[]))::
  (nat_lit 264, (kO (kY "tuple") none (PySem.Data.seq #[] 0) #[]))::
  (nat_lit 266, (kO (kY "tuple") none (PySem.Data.seq #[(kZ (kS "_law_row") 519), (kZ (kS "_law_cell") 520), (kZ (kS "_law_more") 521), (kZ (kS "_law_day") 522), (kZ (kS "_law_one") 523), (kZ (kS "_law_p") 524), (kZ (kS "_law_other") 525), (kZ (kS "_law_q") 526), (kZ (kS "_law_far") 527), (kZ (kS "_law_wrong") 528), (kZ (kS "_law_coin") 529), (kZ (kS "_law_count") 530), (kZ (kS "_law_some") 531)] 0) #[]))::
  (nat_lit 267, (kO (kY "tuple") none (PySem.Data.seq #[] 0) #[]))::
  (nat_lit 269, (kO (kY "code") none (PySem.Data.fields #[(kZ (kS "_law_spoilt") 516), (kZ (kS "_law_spoilt") 517), (kZ (kS "/claim/cut.py") 518), (PySem.Value.int (127 : Int) 0), (PySem.Value.int (3 : Int) 0), (PySem.Value.int (0 : Int) 0), (PySem.Value.int (0 : Int) 0), (PySem.Value.int (3 : Int) 0), (kR 264), (PySem.Value.bool true), (PySem.Value.int (181 : Int) 0), (kR 265), kN, (kR 266), (kR 267), (kR 268), (PySem.Value.int (532 : Int) 0), (PySem.Value.int (127 : Int) 0), (kZ (kS "/claim/cut.py") 533)]) #[]))::
  (nat_lit 270, (kO (kY "function") none (PySem.Data.func (PySem.W.fnOf (kS "_law_spoilt") (kS "_law_spoilt") (aH aD) (aw aD) (ad aD) kN kN kN (kZ (kS "law_evenhall_k09_quotes_by_plain_rows") 453) none (kR 269) kN)) #[]))::
  (nat_lit 271, (kO (kY "tuple") none (PySem.Data.seq #[] 0) #[]))::
  (nat_lit 273, (kO (kY "tuple") none (PySem.Data.seq #[(kZ (kS "_law_rates") 538), (kZ (kS "_law_row") 539), (kZ (kS "_law_found") 540), (kZ (kS "_law_e") 541)] 0) #[]))::
  (nat_lit 274, (kO (kY "tuple") none (PySem.Data.seq #[] 0) #[]))::
  (nat_lit 276, (kO (kY "code") none (PySem.Data.fields #[(kZ (kS "_law_told") 535), (kZ (kS "_law_told") 536), (kZ (kS "/claim/cut.py") 537), (PySem.Value.int (136 : Int) 0), (PySem.Value.int (2 : Int) 0), (PySem.Value.int (0 : Int) 0), (PySem.Value.int (0 : Int) 0), (PySem.Value.int (3 : Int) 0), (kR 271), (PySem.Value.bool true), (PySem.Value.int (181 : Int) 0), (kR 272), kN, (kR 273), (kR 274), (kR 275), (PySem.Value.int (542 : Int) 0), (PySem.Value.int (136 : Int) 0), (kZ (kS "/claim/cut.py") 543)]) #[]))::
  (nat_lit 277, (kO (kY "function") none (PySem.Data.func (PySem.W.fnOf (kS "_law_told") (kS "_law_told") (aH cv) (aw cv) (ad cv) kN kN kN (kZ (kS "law_evenhall_k09_quotes_by_plain_rows") 453) none (kR 276) kN)) #[]))::
  (nat_lit 278, (kO (kY "tuple") none (PySem.Data.seq #[] 0) #[]))::
  (nat_lit 281, (kO (kY "code") none (PySem.Data.fields #[(kZ (kS "_law_newest_good") 545), (kZ (kS "_law_newest_good") 546), (kZ (kS "/claim/cut.py") 547), (PySem.Value.int (143 : Int) 0), (PySem.Value.int (5 : Int) 0), (PySem.Value.int (0 : Int) 0), (PySem.Value.int (0 : Int) 0), (PySem.Value.int (3 : Int) 0), (kR 278), (PySem.Value.bool true), (PySem.Value.int (181 : Int) 0), (kR 279), kN, kN, kN, (kR 280), (PySem.Value.int (548 : Int) 0), (PySem.Value.int (143 : Int) 0), (kZ (kS "/claim/cut.py") 549)]) #[]))::
  (nat_lit 282, (kO (kY "function") none (PySem.Data.func (PySem.W.fnOf (kS "_law_newest_good") (kS "_law_newest_good") (aH aJ) (aw aJ) (ad aJ) kN kN kN (kZ (kS "law_evenhall_k09_quotes_by_plain_rows") 453) none (kR 281) kN)) #[]))::
  (nat_lit 283, (kO (kY "tuple") none (PySem.Data.seq #[] 0) #[]))::
  (nat_lit 285, (kO (kY "tuple") none (PySem.Data.seq #[(kZ (kS "_law_rates") 554), (kZ (kS "_law_told_here") 555), (kZ (kS "_law_one") 556), (kZ (kS "_law_other") 557), (kZ (kS "_law_day") 558), (kZ (kS "_law_when") 559)] 0) #[]))::
  (nat_lit 286, (kO (kY "tuple") none (PySem.Data.seq #[] 0) #[]))::
  (nat_lit 288, (kO (kY "code") none (PySem.Data.fields #[(kZ (kS "_law_pair_good") 551), (kZ (kS "_law_pair_good") 552), (kZ (kS "/claim/cut.py") 553), (PySem.Value.int (151 : Int) 0), (PySem.Value.int (5 : Int) 0), (PySem.Value.int (0 : Int) 0), (PySem.Value.int (0 : Int) 0), (PySem.Value.int (3 : Int) 0), (kR 283), (PySem.Value.bool true), (PySem.Value.int (181 : Int) 0), (kR 284), kN, (kR 285), (kR 286), (kR 287), (PySem.Value.int (560 : Int) 0), (PySem.Value.int (151 : Int) 0), (kZ (kS "/claim/cut.py") 561)]) #[]))::
  (nat_lit 289, (kO (kY "function") none (PySem.Data.func (PySem.W.fnOf (kS "_law_pair_good") (kS "_law_pair_good") (aH bg) (aw bg) (ad bg) kN kN kN (kZ (kS "law_evenhall_k09_quotes_by_plain_rows") 453) none (kR 288) kN)) #[]))::
  (nat_lit 290, (kO (kY "tuple") none (PySem.Data.seq #[] 0) #[]))::
  (nat_lit 293, (kO (kY "code") none (PySem.Data.fields #[(kZ (kS "_law_lists") 563), (kZ (kS "_law_lists") 564), (kZ (kS "/claim/cut.py") 565), (PySem.Value.int (156 : Int) 0), (PySem.Value.int (1 : Int) 0), (PySem.Value.int (0 : Int) 0), (PySem.Value.int (0 : Int) 0), (PySem.Value.int (3 : Int) 0), (kR 290), (PySem.Value.bool true), (PySem.Value.int (181 : Int) 0), (kR 291), kN, kN, kN, (kR 292), (PySem.Value.int (566 : Int) 0), (PySem.Value.int (156 : Int) 0), (kZ (kS "/claim/cut.py") 567)]) #[]))::
  (nat_lit 294, (kO (kY "function") none (PySem.Data.func (PySem.W.fnOf (kS "_law_lists") (kS "_law_lists") (aH bS) (aw bS) (ad bS) kN kN kN (kZ (kS "law_evenhall_k09_quotes_by_plain_rows") 453) none (kR 293) kN)) #[]))::
  (nat_lit 295, (kO (kY "tuple") none (PySem.Data.seq #[] 0) #[]))::
  (nat_lit 297, (kO (kY "tuple") none (PySem.Data.seq #[(kZ (kS "_law_rates") 572), (kZ (kS "_law_which") 573)] 0) #[]))::
  (nat_lit 298, (kO (kY "tuple") none (PySem.Data.seq #[] 0) #[]))::
  (nat_lit 300, (kO (kY "code") none (PySem.Data.fields #[(kZ (kS "_law_list") 569), (kZ (kS "_law_list") 570), (kZ (kS "/claim/cut.py") 571), (PySem.Value.int (164 : Int) 0), (PySem.Value.int (2 : Int) 0), (PySem.Value.int (0 : Int) 0), (PySem.Value.int (0 : Int) 0), (PySem.Value.int (3 : Int) 0), (kR 295), (PySem.Value.bool true), (PySem.Value.int (181 : Int) 0), (kR 296), kN, (kR 297), (kR 298), (kR 299), (PySem.Value.int (574 : Int) 0), (PySem.Value.int (164 : Int) 0), (kZ (kS "/claim/cut.py") 575)]) #[]))::
  (nat_lit 301, (kO (kY "function") none (PySem.Data.func (PySem.W.fnOf (kS "_law_list") (kS "_law_list") (aH b_) (aw b_) (ad b_) kN kN kN (kZ (kS "law_evenhall_k09_quotes_by_plain_rows") 453) none (kR 300) kN)) #[]))::
  (nat_lit 302, (kO (kY "tuple") none (PySem.Data.seq #[] 0) #[]))::
  (nat_lit 304, (kO (kY "tuple") none (PySem.Data.seq #[(kZ (kS "_law_rates") 580), (kZ (kS "_law_told_here") 581), (kZ (kS "_law_held") 582), (kZ (kS "_law_turn") 583), (kZ (kS "_law_dues") 584), (kZ (kS "_law_which") 585), (kZ (kS "_law_found") 586)] 0) #[]))::
  (nat_lit 305, (kO (kY "tuple") none (PySem.Data.seq #[] 0) #[]))::
  (nat_lit 307, (kO (kY "code") none (PySem.Data.fields #[(kZ (kS "_law_listed") 577), (kZ (kS "_law_listed") 578), (kZ (kS "/claim/cut.py") 579), (PySem.Value.int (168 : Int) 0), (PySem.Value.int (4 : Int) 0), (PySem.Value.int (0 : Int) 0), (PySem.Value.int (0 : Int) 0), (PySem.Value.int (3 : Int) 0), (kR 302), (PySem.Value.bool true), (PySem.Value.int (181 : Int) 0), (kR 303), kN, (kR 304), (kR 305), (kR 306), (PySem.Value.int (587 : Int) 0), (PySem.Value.int (168 : Int) 0), (kZ (kS "/claim/cut.py") 588)]) #[]))::
  (nat_lit 308, (kO (kY "function") none (PySem.Data.func (PySem.W.fnOf (kS "_law_listed") (kS "_law_listed") (aH bF) (aw bF) (ad bF) kN kN kN (kZ (kS "law_evenhall_k09_quotes_by_plain_rows") 453) none (kR 307) kN)) #[]))::
  (nat_lit 309, (kO (kY "tuple") none (PySem.Data.seq #[] 0) #[]))::
  (nat_lit 312, (kO (kY "code") none (PySem.Data.fields #[(kZ (kS "_law_all_good") 590), (kZ (kS "_law_all_good") 591), (kZ (kS "/claim/cut.py") 592), (PySem.Value.int (179 : Int) 0), (PySem.Value.int (4 : Int) 0), (PySem.Value.int (0 : Int) 0), (PySem.Value.int (0 : Int) 0), (PySem.Value.int (3 : Int) 0), (kR 309), (PySem.Value.bool true), (PySem.Value.int (181 : Int) 0), (kR 310), kN, kN, kN, (kR 311), (PySem.Value.int (593 : Int) 0), (PySem.Value.int (179 : Int) 0), (kZ (kS "/claim/cut.py") 594)]) #[]))::
  (nat_lit 313, (kO (kY "function") none (PySem.Data.func (PySem.W.fnOf (kS "_law_all_good") (kS "_law_all_good") (aH aY) (aw aY) (ad aY) kN kN kN (kZ (kS "law_evenhall_k09_quotes_by_plain_rows") 453) none (kR 312) kN)) #[]))::
  (nat_lit 314, (kO (kY "tuple") none (PySem.Data.seq #[] 0) #[]))::
  (nat_lit 316, (kO (kY "tuple") none (PySem.Data.seq #[(kZ (kS "_law_both") 599), (kZ (kS "_law_told_here") 600), (kZ (kS "_law_coins") 601), (kZ (kS "_law_day") 602), (kZ (kS "_law_which") 603)] 0) #[]))::
  (nat_lit 317, (kO (kY "tuple") none (PySem.Data.seq #[] 0) #[]))::
  (nat_lit 319, (kO (kY "code") none (PySem.Data.fields #[(kZ (kS "_law_end_good") 596), (kZ (kS "_law_end_good") 597), (kZ (kS "/claim/cut.py") 598), (PySem.Value.int (184 : Int) 0), (PySem.Value.int (4 : Int) 0), (PySem.Value.int (0 : Int) 0), (PySem.Value.int (0 : Int) 0), (PySem.Value.int (3 : Int) 0), (kR 314), (PySem.Value.bool true), (PySem.Value.int (181 : Int) 0), (kR 315), kN, (kR 316), (kR 317), (kR 318), (PySem.Value.int (604 : Int) 0), (PySem.Value.int (184 : Int) 0), (kZ (kS "/claim/cut.py") 605)]) #[]))::
  (nat_lit 320, (kO (kY "function") none (PySem.Data.func (PySem.W.fnOf (kS "_law_end_good") (kS "_law_end_good") (aH bp) (aw bp) (ad bp) kN kN kN (kZ (kS "law_evenhall_k09_quotes_by_plain_rows") 453) none (kR 319) kN)) #[]))::
  (nat_lit 321, (kO (kY "tuple") none (PySem.Data.seq #[] 0) #[]))::
  (nat_lit 324, (kO (kY "code") none (PySem.Data.fields #[(kZ (kS "law") 607), (kZ (kS "law") 608), (kZ (kS "/claim/cut.py") 609), (PySem.Value.int (191 : Int) 0), (PySem.Value.int (1 : Int) 0), (PySem.Value.int (0 : Int) 0), (PySem.Value.int (0 : Int) 0), (PySem.Value.int (3 : Int) 0), (kR 321), (PySem.Value.bool true), (PySem.Value.int (181 : Int) 0), (kR 322), kN, kN, kN, (kR 323), (PySem.Value.int (610 : Int) 0), (PySem.Value.int (191 : Int) 0), (kZ (kS "/claim/cut.py") 611)]) #[]))::
  (nat_lit 325, (kO (kY "function") none (PySem.Data.func (PySem.W.fnOf (kS "law") (kS "law") (aH bX) (aw bX) (ad bX) kN kN kN (kZ (kS "law_evenhall_k09_quotes_by_plain_rows") 453) none (kR 324) kN)) #[])) :: []
def adrs : List Addr := [nat_lit 2, nat_lit 3, nat_lit 15, nat_lit 17, nat_lit 18, nat_lit 20, nat_lit 21, nat_lit 22, nat_lit 29, nat_lit 30, nat_lit 31, nat_lit 32, nat_lit 35, nat_lit 42, nat_lit 44, nat_lit 45, nat_lit 47, nat_lit 48, nat_lit 49, nat_lit 50, nat_lit 51, nat_lit 54, nat_lit 61, nat_lit 63, nat_lit 64, nat_lit 66, nat_lit 67, nat_lit 68, nat_lit 69, nat_lit 70, nat_lit 73, nat_lit 80, nat_lit 82, nat_lit 83, nat_lit 85, nat_lit 86, nat_lit 87, nat_lit 88, nat_lit 89, nat_lit 92, nat_lit 99, nat_lit 101, nat_lit 102, nat_lit 104, nat_lit 105, nat_lit 106, nat_lit 107, nat_lit 108, nat_lit 111, nat_lit 113, nat_lit 114, nat_lit 116, nat_lit 117, nat_lit 118, nat_lit 120, nat_lit 121, nat_lit 123, nat_lit 124, nat_lit 125, nat_lit 128, nat_lit 129, nat_lit 130, nat_lit 132, nat_lit 133, nat_lit 135, nat_lit 136, nat_lit 137, nat_lit 139, nat_lit 140, nat_lit 142, nat_lit 143, nat_lit 144, nat_lit 146, nat_lit 147, nat_lit 149, nat_lit 150, nat_lit 158, nat_lit 160, nat_lit 161, nat_lit 163, nat_lit 164, nat_lit 165, nat_lit 167, nat_lit 168, nat_lit 170, nat_lit 171, nat_lit 172, nat_lit 174, nat_lit 175, nat_lit 177, nat_lit 178, nat_lit 179, nat_lit 181, nat_lit 182, nat_lit 184, nat_lit 185, nat_lit 186, nat_lit 189, nat_lit 190, nat_lit 191, nat_lit 193, nat_lit 194, nat_lit 196, nat_lit 197, nat_lit 198, nat_lit 200, nat_lit 201, nat_lit 203, nat_lit 204, nat_lit 205, nat_lit 207, nat_lit 208, nat_lit 210, nat_lit 211, nat_lit 212, nat_lit 213, nat_lit 214, nat_lit 215, nat_lit 216, nat_lit 219, nat_lit 221, nat_lit 222, nat_lit 224, nat_lit 225, nat_lit 226, nat_lit 229, nat_lit 230, nat_lit 231, nat_lit 233, nat_lit 234, nat_lit 236, nat_lit 237, nat_lit 238, nat_lit 240, nat_lit 241, nat_lit 243, nat_lit 244, nat_lit 245, nat_lit 247, nat_lit 248, nat_lit 250, nat_lit 251, nat_lit 252, nat_lit 255, nat_lit 256, nat_lit 257, nat_lit 259, nat_lit 260, nat_lit 262, nat_lit 263, nat_lit 264, nat_lit 266, nat_lit 267, nat_lit 269, nat_lit 270, nat_lit 271, nat_lit 273, nat_lit 274, nat_lit 276, nat_lit 277, nat_lit 278, nat_lit 281, nat_lit 282, nat_lit 283, nat_lit 285, nat_lit 286, nat_lit 288, nat_lit 289, nat_lit 290, nat_lit 293, nat_lit 294, nat_lit 295, nat_lit 297, nat_lit 298, nat_lit 300, nat_lit 301, nat_lit 302, nat_lit 304, nat_lit 305, nat_lit 307, nat_lit 308, nat_lit 309, nat_lit 312, nat_lit 313, nat_lit 314, nat_lit 316, nat_lit 317, nat_lit 319, nat_lit 320, nat_lit 321, nat_lit 324, nat_lit 325]
theorem adrs_eq (P : Params) : adrs = (frag P).map (·.1) := by kernel_rfl
def vw : Program := PySem.W.view PySem.Challenge.pw_evenhall_k09_quotes_by_plain_rows [0, 2, 3, 4, 5, 6, 8, 9, 10, 12, 14, 16, 17, 19, 20, 21, 22, 23, 24, 25, 26, 27, 28, 29, 30, 31, 32, 33, 34, 35]
open PySem.W in
noncomputable def tree0 (P : Params) : BT := (.node (boot_o_0 P) (.node (boot_o_1 P) (.node (boot_o_3 P) (.node (boot_o_7 P) .nil .nil) .nil) (.node (boot_o_5 P) (.node (boot_o_9 P) .nil .nil) .nil)) (.node (boot_o_2 P) (.node (boot_o_4 P) (.node (boot_o_8 P) .nil .nil) .nil) (.node (boot_o_6 P) (.node (boot_o_10 P) .nil .nil) .nil)))
open PySem.W PyProof.Rows in
noncomputable def run (w : World) (os : OsState) := (TR.go PySem.Challenge.pw_evenhall_k09_quotes_by_plain_rows w 11 (some (.ref 6)) 4904 ⟨tree0 w.params, 11, (boot_heap w.params).life, Array.mk [], boot_drawn, boot_toks, os⟩ (topStub PySem.Challenge.pw_evenhall_k09_quotes_by_plain_rows)).map fun x => (TR.look PySem.Challenge.pw_evenhall_k09_quotes_by_plain_rows w.params x.abs, openSeen vw [] (importedModules PySem.Challenge.pw_evenhall_k09_quotes_by_plain_rows.main.body) (fun s => PySem.W.xlAt vw [] s && PySem.W.recOk (PySem.W.RowW.records (PySem.W.OpenRow.toRowW (PySem.W.OpenLaw.row PySem.Challenge.rw_evenhall_k09_quotes_by_plain_rows))) s) true x.abs, adrs.map x.abs.heap.get?)
noncomputable def good (x : List (Option Obj)) (_ : OsState) := some (true, PySem.W.openGood vw [], x)
set_option maxRecDepth 100000 in
set_option maxHeartbeats 0 in
lay_quick K9.run
set_option maxRecDepth 100000 in
set_option maxHeartbeats 0 in
lay_quick K9.good
set_option maxRecDepth 100000 in
set_option maxHeartbeats 0 in
theorem left : PySem.W.LeftO PySem.Challenge.pw_evenhall_k09_quotes_by_plain_rows vw [] (fun s => PySem.W.xlAt vw [] s && PySem.W.recOk (PySem.W.RowW.records (PySem.W.OpenRow.toRowW (PySem.W.OpenLaw.row PySem.Challenge.rw_evenhall_k09_quotes_by_plain_rows))) s) (PySem.W.kHook frag adrs adrs_eq).obs (PySem.W.kHook frag adrs adrs_eq).val 4904 :=
  TR.left (lo := 11) (an := some (.ref 6)) (tr := tree0) (PySem.W.boot_open (by kernel_rfl) (by decide) (fun s => by kernel_rfl)) (fun P => by kernel_rfl) (fun P => by kernel_rfl) fun w =>
    (congrFun PySem.W.Fast.te8236171731081524678 w).trans ((show PySem.W.Fast.tw8236171731081524678 w = PySem.W.Fast.tw14134820585755967560 ((frag w.params).map fun p => some p.2) by kernel_rfl).trans (congrFun PySem.W.Fast.te14134820585755967560 _).symm)
end K9
set_option Elab.async false
set_option linter.all false
set_option maxRecDepth 100000
namespace L2
open PySem PySem.Spec PyProof.Rows
abbrev Key := Sum Int Str
def mB : Key → Value → Bool
  | .inl k, v => Value.isInt k v
  | .inr x, v => Value.isStrOf x v
def A4 (w : World) : Key → Int
  | .inl k => hashInt k
  | .inr x => hashStr w x
theorem cA : ∀ {k : Key} {v : Value}, mB k v = true → (∃ i t, k = Sum.inl i ∧ v = Value.int i t) ∨ (∃ x t, k = Sum.inr x ∧ v = Value.str x t)
  | .inl i, v, h => by
    obtain ⟨t, e⟩ := Value.isInt_shape (k := i) (v := v) h
    exact .inl ⟨i, t, rfl, e⟩
  | .inr x, v, h => by
    obtain ⟨t, e⟩ := Value.isStrOf_shape (x := x) (v := v) h
    exact .inr ⟨x, t, rfl, e⟩
theorem sT (i : Int) (t : Tok) : mB (.inl i) (.int i t) = true := by simp [mB, Value.isInt]
theorem tf (x : Str) (t : Tok) : mB (.inr x) (.str x t) = true := by simp [mB, Value.isStrOf]
theorem zi (a b : Int) : decide ((Sum.inl a : Key) = Sum.inl b) = (a == b) := by
  by_cases e : a = b
  · subst e; simp
  · have h : ¬ (Sum.inl a : Key) = Sum.inl b := fun q => e (Sum.inl.inj q)
    rw [decide_eq_false h]
    exact (beq_eq_false_iff_ne.mpr e).symm
theorem yC (a b : Str) : decide ((Sum.inr a : Key) = Sum.inr b) = decide (a = b) := by
  by_cases e : a = b
  · subst e; simp
  · have h : ¬ (Sum.inr a : Key) = Sum.inr b := fun q => e (Sum.inr.inj q)
    rw [decide_eq_false h, decide_eq_false e]
theorem zR (a : Int) (b : Str) : decide ((Sum.inl a : Key) = Sum.inr b) = false := decide_eq_false (fun q => nomatch q)
theorem yc (a : Str) (b : Int) : decide ((Sum.inr a : Key) = Sum.inl b) = false := decide_eq_false (fun q => nomatch q)
def b7 (prog : Program) (w : World) : PySem.KeyKind prog w Key where
  is := mB
  hash := A4 w
  inj := fun v a b ha hb => by
    rcases cA ha with ⟨i, t, rfl, rfl⟩ | ⟨x, t, rfl, rfl⟩
    · rcases cA hb with ⟨j, u, rfl, e⟩ | ⟨y, u, rfl, e⟩
      · injection e with e1 _; rw [e1]
      · exact nomatch e
    · rcases cA hb with ⟨j, u, rfl, e⟩ | ⟨y, u, rfl, e⟩
      · exact nomatch e
      · injection e with e1 _; rw [e1]
  byValue := fun k v h => by
    rcases cA h with ⟨i, t, rfl, rfl⟩ | ⟨x, t, rfl, rfl⟩ <;> rfl
  pyHash := fun hv h => by
    rcases cA hv with ⟨i, t, rfl, rfl⟩ | ⟨x, t, rfl, rfl⟩
    · exact wpAny_pyHash_int h
    · exact wpAny_pyHash_str h
  eqBool := fun hu hv h => by
    rcases cA hu with ⟨i, t, rfl, rfl⟩ | ⟨x, t, rfl, rfl⟩
    · rcases cA hv with ⟨j, u, rfl, rfl⟩ | ⟨y, u, rfl, rfl⟩
      · rw [zi] at h; exact wpAny_eqBool_int h
      · rw [zR] at h; exact SeqAt.EqAt.int_str i t y u _ _ _ _ h
    · rcases cA hv with ⟨j, u, rfl, rfl⟩ | ⟨y, u, rfl, rfl⟩
      · rw [yc] at h; exact SeqAt.EqAt.str_int x t j u _ _ _ _ h
      · rw [yC] at h; exact wpAny_eqBool_str h
  «strs» := fun k x t v h => by
    rcases cA h with ⟨i, u, rfl, e⟩ | ⟨y, u, rfl, e⟩
    · exact nomatch e
    · injection e with e1 _
      subst e1
      cases v <;> rfl
theorem pL (prog : Program) (w : World) (i : Int) (t : Tok) : (b7 prog w).is (.inl i) (.int i t) = true := sT i t
theorem pq (prog : Program) (w : World) (x : Str) (t : Tok) : (b7 prog w).is (.inr x) (.str x t) = true := tf x t
end L2
namespace L2
open PySem PySem.Spec PyProof.Rows
inductive V where
  | non | bl (b : Bool) | int (i : Int) | str (x : Str) | byt (b : Array UInt8) | flt (b : UInt64) | ref (a : Addr) | ty (n : String)
  deriving DecidableEq
def RelV : V → Value → Prop
  | .non, u => u = Value.none
  | .bl b, u => u = Value.bool b
  | .int i, u => ∃ t, u = Value.int i t
  | .str x, u => ∃ t, u = Value.str x t
  | .byt b, u => ∃ t, u = Value.bytes b t
  | .flt b, u => ∃ t, u = Value.float b t
  | .ref a, u => u = Value.ref a
  | .ty n, u => u = Value.type n
abbrev Vals : List V → List Value → Prop := Paired RelV
theorem Vals.length {xs : List V} {us : List Value} (r : Vals xs us) : xs.length = us.length := Paired.length r
theorem Vals.get : ∀ {xs : List V} {us : List Value} {i : Nat} {x : V}, Vals xs us → xs[i]? = some x → ∃ u, us[i]? = some u ∧ RelV x u
  | _, _, _, _, .nil, e => by simp at e
  | _, _, 0, _, .cons r _, e => by simp at e; subst e; exact ⟨_, rfl, r⟩
  | _, _, i + 1, x, .cons _ t, e => by
    obtain ⟨u, h1, h2⟩ := Vals.get (i := i) (x := x) t (by simpa using e)
    exact ⟨u, by simpa using h1, h2⟩
theorem Vals.set {x : V} {u : Value} (r : RelV x u) : ∀ {xs : List V} {us : List Value} (i : Nat), Vals xs us → Vals (xs.set i x) (us.set i u)
  | _, _, _, .nil => .nil
  | _, _, 0, .cons _ t => .cons r t
  | _, _, i + 1, .cons q t => .cons q (Vals.set r i t)
theorem Vals.append : ∀ {xs ys : List V} {us ws : List Value}, Vals xs us → Vals ys ws → Vals (xs ++ ys) (us ++ ws)
  | _, _, _, _, .nil, s => s
  | _, _, _, _, .cons r t, s => .cons r (Vals.append t s)
theorem Vals.take : ∀ {xs : List V} {us : List Value} (n : Nat), Vals xs us → Vals (xs.take n) (us.take n)
  | _, _, 0, _ => .nil
  | _, _, _ + 1, .nil => .nil
  | _, _, n + 1, .cons r t => .cons r (Vals.take n t)
theorem Vals.drop : ∀ {xs : List V} {us : List Value} (n : Nat), Vals xs us → Vals (xs.drop n) (us.drop n)
  | _, _, 0, r => r
  | _, _, _ + 1, .nil => .nil
  | _, _, n + 1, .cons _ t => Vals.drop n t
def RelO : Option V → Option Value → Prop
  | some v, some u => RelV v u
  | none, none => True
  | _, _ => False
def KV {κ : Type} : List (κ × V) → List (κ × Value) → Prop := Paired fun (p : κ × V) (q : κ × Value) => p.1 = q.1 ∧ RelV p.2 q.2
def kV : Key → V
  | .inl i => .int i
  | .inr x => .str x
inductive HO where
  | lst (xs : List V)
  | tup (xs : List V)
  | dK (kvs : List (Key × V)) | dT (kvs : List (List Key × V))
  | set (S : Int → Bool) (n : Nat)
  | ins (C dx : Addr) (fs : List (Str × V))
  | own (x : Addr)
  | xd (fs : List (Str × V))
  | met (f x : Addr)
  | rng (lo hi : Int)
  | frz (o : Obj) (u : HO)
  | tbl (ps : Array Value)
  | ext (φ : Heap → Prop)
abbrev Hp := Addr → Option HO
def upd (H : Hp) (a : Addr) (o : HO) : Hp := fun b => if b = a then some o else H b
theorem ac {H : Hp} {a : Addr} {o : HO} : upd H a o a = some o := by unfold upd; rw [if_pos rfl]
theorem af {H : Hp} {a b : Addr} {o : HO} (h : b ≠ a) : upd H a o b = H b := by unfold upd; rw [if_neg h]
theorem sM {H : Hp} {a : Addr} {o u : HO} : upd (upd H a o) a u = upd H a u := by
  funext b; unfold upd; split <;> rfl
theorem db {H : Hp} {a b : Addr} {o u : HO} (h : H a = some o) (h' : H b = some u) (d : o ≠ u) : a ≠ b := by
  intro e; subst e; rw [h] at h'; exact d (Option.some.inj h')
theorem ak {H : Hp} {a b : Addr} {o : HO} (h : H a = some o) (h' : H b = none) : a ≠ b := by
  intro e; subst e; rw [h] at h'; cases h'
section
variable (P : Program) (w : World)
def ObjOk (H : Hp) (h : Heap) (a : Addr) : HO → Prop
  | .lst xs => xs.length ≤ sizeLine ∧ ∃ (its : List Value) (n : Nat), Vals xs its ∧ h.get? a = some { cls := .type "list", data := .seq its.toArray n }
  | .tup xs => xs.length ≤ sizeLine ∧ ∃ its : List Value, Vals xs its ∧ IsTup h a its.toArray
  | .dK kvs => kvs.length ≤ sizeLine ∧ (a == sysModules) = false ∧ ∃ vs, KV kvs vs ∧ h.DictOf (b7 P w) a vs
  | .dT kvs => kvs.length ≤ sizeLine ∧ (a == sysModules) = false ∧ ∃ xs : List (List Key × Addr × Value),
      Paired (fun (p : List Key × V) (q : List Key × Addr × Value) => p.1 = q.1 ∧ H q.2.1 = some (.tup (p.1.map kV)) ∧ RelV p.2 q.2.2) kvs xs ∧
      ∃ o es ep, h.get? a = some o ∧ o.ExactDict ∧ o.data = .dict es ep ∧ es.toList = xs.map (entryOfKey (tupleKind (b7 P w))) ∧ (xs.map (·.1)).Nodup
  | .set S n => h.SetOf (intKind P w) a S n
  | .ins C dx fs => H dx = some (.own a) ∧ fs.length ≤ 1000 ∧ dx ≠ a ∧ h.get? a = some (PySem.W.instObj C dx) ∧
      ∃ mA, h.Ns1 dx mA ∧ (∀ f, RelO (fs.lookup f) (mA f)) ∧ PySem.Within mA (fs.map (·.1))
  | .own _ => ∃ o, h.get? a = some o
  | .xd fs => ∃ mA, h.Ns1 a mA ∧ ∀ f, RelO (fs.lookup f) (mA f)
  | .rng lo hi => ∃ t u v, h.get? a = some { cls := .type "range", data := .fields #[.int lo t, .int hi u, .int 1 v] }
  | .frz o u => h.get? a = some o ∧ ObjOk H h a u
  | .tbl ps => h.get? a = some { cls := .none, data := .fields ps }
  | .met f x => h.get? a = some (PySem.W.methodObj (.ref f) (.ref x))
  | .ext φ => φ h ∧ (∃ o, h.get? a = some o) ∧ ∀ h1 h2 : Heap, φ h1 → (∀ o, h1.get? a = some o → h2.get? a = some o) → φ h2
def HOk (H : Hp) (h : Heap) : Prop := ∀ a o, H a = some o → ObjOk P w H h a o
end
section
variable {P : Program} {w : World} {H H' : Hp} {h h' : Heap} {a : Addr} {o : HO}
theorem ObjOk.lt (x : ObjOk P w H h a o) : a < h.objs.size := by
  cases o with
  | lst xs => obtain ⟨_, _, _, _, e⟩ := x; exact Heap.lt_size e
  | tup xs => obtain ⟨_, _, _, p⟩ := x; exact p.lt
  | dK kvs => obtain ⟨_, _, _, _, o, _, _, e, _⟩ := x; exact Heap.lt_size e
  | dT kvs => obtain ⟨_, _, _, _, o, _, _, e, _⟩ := x; exact Heap.lt_size e
  | set S n => obtain ⟨o, _, _, _, e, _⟩ := x; exact Heap.lt_size e
  | ins C dx fs => obtain ⟨_, _, _, e, _⟩ := x; exact Heap.lt_size e
  | own y => obtain ⟨_, e⟩ := x; exact Heap.lt_size e
  | xd fs => obtain ⟨_, ⟨_, _, _, e, _⟩, _⟩ := x; exact Heap.lt_size e
  | rng lo hi => obtain ⟨_, _, _, e⟩ := x; exact Heap.lt_size e
  | frz ob u => obtain ⟨e, _⟩ := x; exact Heap.lt_size e
  | tbl ps => exact Heap.lt_size (show h.get? a = some _ from x)
  | met f y => exact Heap.lt_size (show h.get? a = some _ from x)
  | ext φ => obtain ⟨_, ⟨_, e⟩, _⟩ := x; exact Heap.lt_size e
theorem Paired.mapP {α β : Type} {F G : α → β → Prop} : ∀ {l₁ : List α} {l₂ : List β}, Paired F l₁ l₂ → (∀ a b, F a b → G a b) → Paired G l₁ l₂
  | _, _, .nil, _ => .nil
  | _, _, .cons r t, f => .cons (f _ _ r) (Paired.mapP t f)
theorem ObjOk.stay (x : ObjOk P w H h a o) (k : ∀ b u, (b = a ∨ H b = some (.own a)) → h.get? b = some u → h'.get? b = some u)
    (ho : ∀ b, H b = some (.own a) → H' b = some (.own a)) (ht : ∀ b xs, H b = some (.tup xs) → H' b = some (.tup xs)) : ObjOk P w H' h' a o := by
  induction o with
  | lst xs => obtain ⟨z, its, n, r, e⟩ := x; exact ⟨z, its, n, r, k _ _ (.inl rfl) e⟩
  | tup xs => obtain ⟨z, its, r, ob, e, c⟩ := x; exact ⟨z, its, r, ob, k _ _ (.inl rfl) e, c⟩
  | dK kvs => obtain ⟨z, y, vs, r, ob, es, ep, e, c⟩ := x; exact ⟨z, y, vs, r, ob, es, ep, k _ _ (.inl rfl) e, c⟩
  | dT kvs =>
    obtain ⟨z, y, xs, r, ob, es, ep, e, c⟩ := x
    exact ⟨z, y, xs, Paired.mapP r fun p q z => ⟨z.1, ht _ _ z.2.1, z.2.2⟩, ob, es, ep, k _ _ (.inl rfl) e, c⟩
  | set S n => obtain ⟨ob, es, ep, t, e, c⟩ := x; exact ⟨ob, es, ep, t, k _ _ (.inl rfl) e, c⟩
  | ins C dx fs =>
    obtain ⟨d, z, ne, e, mA, ⟨od, es, ep, e2, c⟩, r⟩ := x
    exact ⟨ho _ d, z, ne, k _ _ (.inl rfl) e, mA, ⟨od, es, ep, k _ _ (.inr d) e2, c⟩, r⟩
  | own y => obtain ⟨ob, e⟩ := x; exact ⟨ob, k _ _ (.inl rfl) e⟩
  | xd fs => obtain ⟨mA, ⟨od, es, ep, e, c⟩, r⟩ := x; exact ⟨mA, ⟨od, es, ep, k _ _ (.inl rfl) e, c⟩, r⟩
  | rng lo hi => obtain ⟨t, u, v, e⟩ := x; exact ⟨t, u, v, k _ _ (.inl rfl) e⟩
  | frz ob u ih => obtain ⟨e, q⟩ := x; exact ⟨k _ _ (.inl rfl) e, ih q⟩
  | tbl ps =>
    have e : h.get? a = some { cls := .none, data := .fields ps } := x
    show h'.get? a = some { cls := .none, data := .fields ps }
    exact k a _ (.inl rfl) e
  | met f y =>
    have e : h.get? a = some (PySem.W.methodObj (.ref f) (.ref y)) := x
    show h'.get? a = some (PySem.W.methodObj (.ref f) (.ref y))
    exact k a _ (.inl rfl) e
  | ext φ => obtain ⟨p, ⟨o, e⟩, st⟩ := x; exact ⟨st _ _ p fun o q => k _ _ (.inl rfl) q, ⟨o, k _ _ (.inl rfl) e⟩, st⟩
theorem HOk.lt (x : HOk P w H h) (e : H a = some o) : a < h.objs.size := (x a o e).lt
theorem HOk.fresh (x : HOk P w H h) (e : h.objs.size ≤ a) : H a = none := by
  cases q : H a with
  | none => rfl
  | some u => exact absurd (Nat.lt_of_lt_of_le (x.lt q) e) (Nat.lt_irrefl _)
theorem HOk.kept (x : HOk P w H h) (k : ∀ b u, h.get? b = some u → h'.get? b = some u) : HOk P w H h' := fun a o e =>
  (x a o e).stay (fun b u _ q => k b u q) (fun _ q => q) fun _ _ q => q
theorem HOk.laid (x : HOk P w H h) (k : ∀ b u, h.get? b = some u → h'.get? b = some u) (hp : h.objs.size ≤ a) (new : ObjOk P w (upd H a o) h' a o) : HOk P w (upd H a o) h' := fun b u e => by
  have hn := x.fresh hp
  by_cases hb : b = a
  · subst hb; rw [ac] at e; cases e; exact new
  · rw [af hb] at e
    exact (x b u e).stay (fun c v _ q => k c v q) (fun c q => by rw [af (ak q hn)]; exact q) fun c xs q => by rw [af (ak q hn)]; exact q
end
def Rd (H : Hp) (a : Addr) (u : HO) : Prop := H a = some u ∨ ∃ o, H a = some (.frz o u)
theorem Rd.ok {P : Program} {w : World} {H : Hp} {h : Heap} {a : Addr} {u : HO} (r : Rd H a u) (x : HOk P w H h) : ObjOk P w H h a u := by
  rcases r with r | ⟨o, r⟩
  · exact x a u r
  · obtain ⟨_, q⟩ := x a _ r
    exact q
def Mut : Option HO → Prop
  | some (.lst _) => True
  | some (.dK _) => True
  | some (.dT _) => True
  | some (.set _ _) => True
  | some (.ins _ _ _) => True
  | some (.ext _) => True
  | _ => False
section
variable {P : Program} {w : World} {H : Hp} {h h' : Heap} {x e : Addr} {o' : HO}
theorem HOk.write (ok : HOk P w H h) (mu : Mut (H x)) (he : e = x ∨ H e = some (.own x)) (k : ∀ b u, b ≠ e → h.get? b = some u → h'.get? b = some u) (heo : ∃ u, h'.get? e = some u)
    (new : ObjOk P w (upd H x o') h' x o') : HOk P w (upd H x o') h' := fun b u q => by
  have nown : ∀ c y, H c = some (.own y) → c ≠ x := fun c y r z => by subst z; rw [r] at mu; exact mu
  have ntup : ∀ c xs, H c = some (.tup xs) → c ≠ x := fun c xs r z => by subst z; rw [r] at mu; exact mu
  by_cases hb : b = x
  · subst hb; rw [ac] at q; cases q; exact new
  · rw [af hb] at q
    by_cases hbe : b = e
    · have q' : H b = some (.own x) := by
        rcases he with z | z
        · exact absurd (hbe.trans z) hb
        · rw [hbe]; exact z
      rw [q] at q'; cases q'
      obtain ⟨v, hv⟩ := heo
      exact ⟨v, by rw [hbe]; exact hv⟩
    · refine (ok b u q).stay (fun c v hc r => k c v ?_ r) (fun c r => by rw [af (nown c b r)]; exact r) fun c xs r => by rw [af (ntup c xs r)]; exact r
      rcases hc with rfl | hc
      · exact hbe
      · rintro rfl
        rcases he with z | z
        · exact nown c b hc z
        · rw [hc] at z; cases z; exact hb rfl
end
structure Un (fs ex : List Addr) (H H' : Hp) (h h' : Heap) : Prop where
  keep : ∀ b o, h.get? b = some o → H b = none → b ∉ fs → b ∉ ex → h'.get? b = some o
  slot : ∀ b o, h.get? b = some o → H b = none → b ∈ fs → b ∉ ex → ∃ sl, h'.get? b = some { o with slots := sl }
  free : ∀ b o, h.get? b = some o → H b = none → b ∉ ex → H' b = none
  there : ∀ b o, h.get? b = some o → b ∉ ex → ∃ o', h'.get? b = some o'
  tups : ∀ b xs, H b = some (.tup xs) → H' b = some (.tup xs)
  frzs : ∀ b o u, H b = some (.frz o u) → H' b = some (.frz o u)
  tbls : ∀ b ps, H b = some (.tbl ps) → ∃ more, H' b = some (.tbl (ps ++ more))
section
variable {fs fs' ex ex' : List Addr} {H H1 H2 : Hp} {h h1 h2 h' : Heap} {a x e : Addr} {o : HO}
theorem Un.any (u : Un fs ex H H1 h h1) {b : Addr} {ob : Obj} (q : h.get? b = some ob) (n : H b = none) (hx : b ∉ ex) : ∃ sl, h1.get? b = some { ob with slots := sl } := by
  by_cases hb : b ∈ fs
  · exact u.slot b ob q n hb hx
  · exact ⟨ob.slots, u.keep b ob q n hb hx⟩
theorem Un.kept (k : ∀ b u, h.get? b = some u → h'.get? b = some u) : Un fs ex H H h h' :=
  ⟨fun b ob q _ _ _ => k b ob q, fun b ob q _ _ _ => ⟨ob.slots, k b ob q⟩, fun _ _ _ n _ => n, fun b ob q _ => ⟨ob, k b ob q⟩, fun _ _ q => q, fun _ _ _ q => q, fun _ ps q => ⟨#[], by rw [q]; simp⟩⟩
theorem Un.refl : Un fs ex H H h h := Un.kept fun _ _ q => q
theorem Un.laid (k : ∀ b u, h.get? b = some u → h'.get? b = some u) (hp : h.objs.size ≤ a) (hn : H a = none) : Un fs ex H (upd H a o) h h' where
  keep := fun b u q _ _ _ => k b u q
  slot := fun b u q _ _ _ => ⟨u.slots, k b u q⟩
  free := fun b u q n _ => by rw [af (Nat.ne_of_lt (Nat.lt_of_lt_of_le (Heap.lt_size q) hp))]; exact n
  there := fun b u q _ => ⟨u, k b u q⟩
  tups := fun b xs q => by rw [af (ak q hn)]; exact q
  frzs := fun b u xs q => by rw [af (ak q hn)]; exact q
  tbls := fun b ps q => ⟨#[], by rw [af (ak q hn), q]; simp⟩
theorem Un.write (mu : Mut (H x)) (he : e = x ∨ H e = some (.own x)) (k : ∀ b u, b ≠ e → h.get? b = some u → h'.get? b = some u) (heo : ∃ u, h'.get? e = some u) : Un fs ex H (upd H x o) h h' := by
  have hx : ∀ b, H b = none → b ≠ x := fun b n z => by subst z; rw [n] at mu; exact mu
  have hb : ∀ b, H b = none → b ≠ e := fun b n z => by
    subst z
    rcases he with r | r
    · exact hx b n r
    · rw [n] at r; cases r
  have hm : ∀ b u, H b = some u → ¬ Mut (some u) → b ≠ x := fun b u q nm z => by subst z; rw [q] at mu; exact nm mu
  refine ⟨fun b u q n _ _ => k b u (hb b n) q, fun b u q n _ _ => ⟨u.slots, k b u (hb b n) q⟩, fun b u q n _ => by rw [af (hx b n)]; exact n, fun b u q _ => ?_,
    fun b xs q => by rw [af (hm b _ q fun z => z)]; exact q, fun b u xs q => by rw [af (hm b _ q fun z => z)]; exact q, fun b ps q => ⟨#[], by rw [af (hm b _ q fun z => z), q]; simp⟩⟩
  by_cases hbe : b = e
  · subst hbe; exact heo
  · exact ⟨u, k b u hbe q⟩
end
def trk (h : Heap) (H : Hp) : List Addr := (List.range h.objs.size).filter fun a => (H a).isSome
def oK (h : Heap) (H : Hp) : Heap := PySem.W.hideAll h (trk h H)
theorem tB (h : Heap) (H : Hp) : (oK h H).objs.size = h.objs.size := PySem.W.hideAll_size _ _
theorem vO {h : Heap} {H : Hp} {b : Addr} {o : Obj} (e : h.get? b = some o) (n : H b = none) : (oK h H).get? b = some o :=
  PySem.W.hideAll_get _ e fun hm => by
    have q : (H b).isSome = true := (List.mem_filter.mp hm).2
    rw [n] at q; simp at q
theorem wQ {h : Heap} {H : Hp} {b : Addr} {o : Obj} (e : (oK h H).get? b = some o) : h.get? b = some o ∧ H b = none := by
  have e' : h.get? b = some o := PySem.W.of_hideAll (trk h H) e
  refine ⟨e', ?_⟩
  cases q : H b with
  | none => rfl
  | some x =>
    have hm : b ∈ trk h H := List.mem_filter.mpr ⟨List.mem_range.mpr (Heap.lt_size e'), by simp [q]⟩
    have z : (oK h H).get? b = none := PySem.W.hideAll_none (trk h H) hm
    rw [z] at e; cases e
def ww (g h : Heap) (L : Addr) : List (Addr × Obj) := (List.range h.objs.size).filterMap fun a => if a = L ∨ (g.get? a).isSome = true then none else (h.get? a).map fun o => (a, o)
def rest (g h : Heap) (L d : Addr) : List (Addr × Obj) := (ww g h L).filter fun p => decide (p.1 ≠ d)
end L2
namespace L2
open PySem PySem.Spec PyProof.Rows
structure Mod (K : PySem.W.Frag) (mg : Str → Option Value) (base : Heap) : Prop where
  kin : K.In base
  glob : base.Ns mainGlobals mg
  blt : ∃ mb, base.Ns builtinsNs mb ∧ ∀ x : Str, x ≠ "__name__" → mb x = bootBuiltins x
  nolimit : base.NoLimit
structure Cx where
  prog : Program
  w : World
  K : PySem.W.Frag
  mg : Str → Option Value
  base : Heap
  A : Around
  N : List Str
  s₀ : Shared
  H₀ : Hp
  env : Env
  outer : List Env
  stack : List Env
  ex : List Addr
  fn : Str → Bool
  calm : Bool
  pn : List (Addr × Obj)
  xe : Value → Shared → Prop
def frs (l : List Env) : List Addr := l.filterMap (·.frame)
abbrev Cx.fs (X : Cx) : List Addr := frs X.outer
def Vis (sc : Scope) (x : Str) : Prop := sc.names.lookup x = some .local ∨ sc.names.lookup x = some .cell ∨ sc.names.lookup x = some .free
def Loc (sc : Scope) (x : Str) : Prop := sc.names.lookup x = some .local ∨ sc.names.lookup x = some .cell
def AX (env : Env) (h : Heap) (m : Str → Option Value) (x : Str) (u : Value) : Prop :=
  (env.kindOf x = some .local ∧ m x = some u) ∨ ((env.kindOf x = some .cell ∨ env.kindOf x = some .free) ∧ ∃ c, env.cells.lookup x = some c ∧ h.IsCell c (some u))
structure Cx.Ok (X : Cx) : Prop where
  mod : Mod X.K X.mg X.base
  kind : X.env.scope.kind = .function
  glob : X.env.globals = mainGlobals
  blt : X.env.builtins = builtinsNs
  above : X.s₀.heap.objs.size ≤ X.env.locals
  inj : ∀ x y c, X.env.cells.lookup x = some c → X.env.cells.lookup y = some c → x = y
  has : ∀ x, (X.env.kindOf x = some .cell ∨ X.env.kindOf x = some .free) → ∃ c, X.env.cells.lookup x = some c
  cab : ∀ x c, X.fn x = true → X.env.cells.lookup x = some c → X.s₀.heap.objs.size ≤ c
  hd : X.calm = true → X.A.handled = none
  frames : X.A.frames = some X.stack
  stk : X.stack = X.outer ∨ (X.stack = X.env :: X.outer ∧ X.env.frame = some X.env.locals)
  exf : ∀ b ∈ X.ex, b ≠ X.env.locals ∧ ∀ x c, X.env.cells.lookup x = some c → c ≠ b
  bs : ∀ b o, X.base.get? b = some o → X.s₀.heap.get? b = some o ∧ X.H₀ b = none
  bsz : X.base.objs.size ≤ X.s₀.heap.objs.size
  noex : ∀ b o, X.base.get? b = some o → b ∉ X.ex
  exfs : ∀ b ∈ X.ex, b ∉ X.fs
  funs : X.s₀.heap.FunFrames X.base X.outer
  frf : ∀ b ∈ X.fs, X.H₀ b = none
structure Inv (X : Cx) (pins : List (Addr × Obj)) (σ : List (Option V)) (H : Hp) (s : Shared) : Prop where
  ok : X.Ok
  os : s.os = X.s₀.os
  bare : AllBare s.gens
  base : Un X.fs X.ex X.H₀ H X.s₀.heap s.heap
  loc : ∃ m, s.heap.Ns X.env.locals m ∧ ∀ (i : Nat) (x : Str) (v : V), X.N[i]? = some x → σ[i]? = some (some v) → Vis X.env.scope x → ∃ u, RelV v u ∧ AX X.env s.heap m x u
  cell : ∀ x c, X.env.cells.lookup x = some c → ∃ v, s.heap.IsCell c v
  free : H X.env.locals = none
  freeC : ∀ x c, X.env.cells.lookup x = some c → H c = none
  pin : ∀ p ∈ X.pn ++ pins, s.heap.get? p.1 = some p.2 ∧ H p.1 = none ∧ p.1 ≠ X.env.locals ∧ p.1 ∉ X.fs ∧ ∀ v, p.2.data ≠ .cell v
  hok : HOk X.prog X.w H s.heap
  len : σ.length = X.N.length
section
variable {X : Cx} {pins : List (Addr × Obj)} {σ : List (Option V)} {H H' : Hp} {s : Shared} {h' : Heap}
theorem Cx.Ok.nofr (ok : X.Ok) {b : Addr} {o : Obj} (e : X.base.get? b = some o) : b ∉ X.fs := fun hb => by
  have := (ok.funs.mem hb).1
  rw [e] at this; cases this
theorem Inv.bs (I : Inv X pins σ H s) : ∀ b o, X.base.get? b = some o → s.heap.get? b = some o ∧ H b = none := fun b o e =>
  ⟨I.base.keep b o (I.ok.bs b o e).1 (I.ok.bs b o e).2 (I.ok.nofr e) (I.ok.noex b o e), I.base.free b o (I.ok.bs b o e).1 (I.ok.bs b o e).2 (I.ok.noex b o e)⟩
theorem Inv.bk (I : Inv X pins σ H s) : ∀ b o, X.base.get? b = some o → s.heap.get? b = some o := fun b o e => (I.bs b o e).1
theorem Inv.mod (I : Inv X pins σ H s) : Mod X.K X.mg X.base := I.ok.mod
theorem Inv.kIn (I : Inv X pins σ H s) : X.K.In s.heap := I.ok.mod.kin.keeps I.bk
theorem Inv.lt (I : Inv X pins σ H s) : X.env.locals < s.heap.objs.size := let ⟨_, hn, _⟩ := I.loc; hn.lt
theorem Inv.sz (I : Inv X pins σ H s) : X.s₀.heap.objs.size ≤ s.heap.objs.size := Nat.le_trans I.ok.above (Nat.le_of_lt I.lt)
theorem Inv.nofs (I : Inv X pins σ H s) {a : Addr} (h : s.heap.objs.size ≤ a) : a ∉ X.fs := fun hb => by
  obtain ⟨_, o, ho, _⟩ := I.ok.funs.mem hb
  exact absurd (Nat.lt_of_lt_of_le (Heap.lt_size ho) (Nat.le_trans I.sz h)) (Nat.lt_irrefl _)
theorem Inv.cne (I : Inv X pins σ H s) : ∀ x c, X.env.cells.lookup x = some c → c ≠ X.env.locals := fun x c e z => by
  obtain ⟨v, o, ho, hd⟩ := I.cell x c e
  obtain ⟨m, ⟨o', es, ep, ho', hd', _⟩, _⟩ := I.loc
  rw [z, ho'] at ho; cases ho; rw [hd'] at hd; cases hd
theorem Inv.funs (I : Inv X pins σ H s) : s.heap.FunFrames X.base X.outer := by
  have all : ∀ (l : List Env), (∀ b ∈ frs l, b ∈ X.fs) → X.s₀.heap.FunFrames X.base l → s.heap.FunFrames X.base l := by
    intro l
    induction l with
    | nil => intro _ _; trivial
    | cons env r ih =>
      intro hs hl
      obtain ⟨hk, ⟨L, o, hf, hn, ho, hd⟩, hr⟩ := hl
      have hL : L ∈ X.fs := hs L (by unfold frs; rw [List.filterMap_cons, hf]; exact List.mem_cons_self)
      obtain ⟨sl, e⟩ := I.base.slot L o ho (I.ok.frf L hL) hL fun z => I.ok.exfs L z hL
      exact ⟨hk, ⟨L, _, hf, hn, e, hd⟩, ih (fun b hb => hs b (by unfold frs; rw [List.filterMap_cons, hf]; exact List.mem_cons_of_mem _ hb)) hr⟩
  exact all X.outer (fun _ hb => hb) I.ok.funs
theorem Inv.stack (I : Inv X pins σ H s) : s.heap.FunFrames X.base X.stack := by
  rcases I.ok.stk with e | ⟨e, hf⟩
  · rw [e]; exact I.funs
  · rw [e]
    obtain ⟨m, hn, _⟩ := I.loc
    refine .cons (by rw [I.ok.kind]; decide) hf hn ?_ I.funs
    exact Heap.get?_none_of_le (Nat.le_trans I.ok.bsz I.ok.above)
theorem Inv.stkSub (I : Inv X pins σ H s) : ∀ b ∈ frs X.stack, b ∈ X.env.locals :: X.fs := fun b hb => by
  rcases I.ok.stk with e | ⟨e, hf⟩
  · rw [e] at hb; exact List.mem_cons_of_mem _ hb
  · rw [e] at hb
    unfold frs at hb
    rw [List.filterMap_cons, hf] at hb
    exact hb
theorem Inv.stkFree (I : Inv X pins σ H s) : ∀ b ∈ frs X.stack, H b = none := fun b hb => by
  rcases List.mem_cons.mp (I.stkSub b hb) with e | hb
  · rw [e]; exact I.free
  · obtain ⟨_, o, ho, _⟩ := I.ok.funs.mem hb
    exact I.base.free b o ho (I.ok.frf b hb) fun z => I.ok.exfs b z hb
theorem Inv.step {g' : Array GenState} {t' : Nat} {d' : Drawn} {ch : List Addr} (I : Inv X pins σ H s)
    (hch : ∀ b ∈ ch, (b ∈ X.ex ∨ X.s₀.heap.objs.size ≤ b) ∧ b ≠ X.env.locals ∧ (∀ x c, X.env.cells.lookup x = some c → c ≠ b) ∧ ∀ p ∈ X.pn ++ pins, p.1 ≠ b)
    (keep : ∀ b o, b ≠ X.env.locals → b ∉ X.fs → b ∉ ch → s.heap.get? b = some o → H b = none → h'.get? b = some o)
    (slot : ∀ b o, b ≠ X.env.locals → b ∈ X.fs → b ∉ ch → s.heap.get? b = some o → H b = none → ∃ sl, h'.get? b = some { o with slots := sl }) (free : ∀ b o, b ∉ ch → s.heap.get? b = some o → H b = none → H' b = none)
    (there : ∀ b o, b ∉ ch → s.heap.get? b = some o → ∃ o', h'.get? b = some o')
    (tups : ∀ b xs, H b = some (.tup xs) → H' b = some (.tup xs)) (frzs : ∀ b o u, H b = some (.frz o u) → H' b = some (.frz o u)) (tbls : ∀ b ps, H b = some (.tbl ps) → ∃ more, H' b = some (.tbl (ps ++ more)))
    (ns : ∀ m, s.heap.Ns X.env.locals m → h'.Ns X.env.locals m) (hok : HOk X.prog X.w H' h') (hg : AllBare g') :
    Inv X pins σ H' { s with heap := h', gens := g', drawn := d', toks := t' } := by
  have neL : ∀ b o, X.s₀.heap.get? b = some o → b ≠ X.env.locals := fun b o e => Nat.ne_of_lt (Nat.lt_of_lt_of_le (Heap.lt_size e) I.ok.above)
  have neC : ∀ b o, X.s₀.heap.get? b = some o → b ∉ X.ex → b ∉ ch := fun b o e hx hb => by
    rcases (hch b hb).1 with z | z
    · exact hx z
    · exact absurd (Nat.lt_of_lt_of_le (Heap.lt_size e) z) (Nat.lt_irrefl _)
  have cellK : ∀ x c, X.env.cells.lookup x = some c → ∀ v, s.heap.IsCell c v → h'.IsCell c v := fun x c e v ⟨o, ho, hd⟩ => by
    have nch : c ∉ ch := fun z => (hch c z).2.2.1 x c e rfl
    by_cases hc : c ∈ X.fs
    · obtain ⟨sl, q⟩ := slot c o (I.cne x c e) hc nch ho (I.freeC x c e)
      exact ⟨_, q, hd⟩
    · exact ⟨o, keep c o (I.cne x c e) hc nch ho (I.freeC x c e), hd⟩
  refine ⟨I.ok, I.os, hg, ⟨fun b o e n hb hx => ?_, fun b o e n hb hx => ?_, fun b o e n hx => ?_, fun b o e hx => ?_, fun b xs e => tups b xs (I.base.tups b xs e), fun b o xs e => frzs b o xs (I.base.frzs b o xs e), fun b ps e => ?_⟩, ?_, fun x c e => ?_, ?_, fun x c e => ?_, fun p hp => ?_, hok, I.len⟩
  · exact keep b o (neL b o e) hb (neC b o e hx) (I.base.keep b o e n hb hx) (I.base.free b o e n hx)
  · obtain ⟨sl, e1⟩ := I.base.slot b o e n hb hx
    obtain ⟨sl', e2⟩ := slot b _ (neL b o e) hb (neC b o e hx) e1 (I.base.free b o e n hx)
    exact ⟨sl', e2⟩
  · obtain ⟨o', e1⟩ := I.base.there b o e hx
    exact free b o' (neC b o e hx) e1 (I.base.free b o e n hx)
  · obtain ⟨o', e1⟩ := I.base.there b o e hx
    exact there b o' (neC b o e hx) e1
  · obtain ⟨m1, e1⟩ := I.base.tbls b ps e
    obtain ⟨m2, e2⟩ := tbls b _ e1
    exact ⟨m1 ++ m2, by rw [e2, Array.append_assoc]⟩
  · obtain ⟨m, hn, hl⟩ := I.loc
    refine ⟨m, ns m hn, fun i x v e1 e2 e3 => ?_⟩
    obtain ⟨u, r, l⟩ := hl i x v e1 e2 e3
    refine ⟨u, r, ?_⟩
    rcases l with l | ⟨k, c, e, z⟩
    · exact .inl l
    · exact .inr ⟨k, c, e, cellK x c e _ z⟩
  · obtain ⟨v, z⟩ := I.cell x c e
    exact ⟨v, cellK x c e v z⟩
  · obtain ⟨m, ⟨o, _, _, ho, _⟩, _⟩ := I.loc
    exact free _ o (fun z => (hch _ z).2.1 rfl) ho I.free
  · obtain ⟨v, o, ho, hd⟩ := I.cell x c e
    exact free c o (fun z => (hch c z).2.2.1 x c e rfl) ho (I.freeC x c e)
  · obtain ⟨e, n, ne, nf, d⟩ := I.pin p hp
    have nch : p.1 ∉ ch := fun z => (hch p.1 z).2.2.2 p hp rfl
    exact ⟨keep p.1 p.2 ne nf nch e n, free p.1 p.2 nch e n, ne, nf, d⟩
theorem Inv.un {t' : Nat} (I : Inv X pins σ H s) (u : Un X.fs [] H H' s.heap h') (hok : HOk X.prog X.w H' h') : Inv X pins σ H' { s with heap := h', toks := t' } := by
  obtain ⟨m, ⟨o, es, ep, ho, r⟩, _⟩ := id I.loc
  obtain ⟨sl, hL⟩ := u.any ho I.free (by simp)
  exact I.step (g' := s.gens) (d' := s.drawn) (ch := []) (fun _ z => nomatch z) (fun b o _ hb _ e n => u.keep b o e n hb (by simp)) (fun b o _ hb _ e n => u.slot b o e n hb (by simp)) (fun b o _ e n => u.free b o e n (by simp)) (fun b o _ e => u.there b o e (by simp)) u.tups u.frzs u.tbls (fun m' hm => by
    obtain ⟨o', es', ep', ho', r'⟩ := hm
    rw [ho] at ho'; cases ho'
    exact ⟨_, es', ep', hL, r'⟩) hok I.bare
theorem Inv.call {g' : Array GenState} {t' : Nat} {d' : Drawn} {ch : List Addr} (I : Inv X pins σ H s) (u : Un (frs X.stack) ch H H' s.heap h') (hok : HOk X.prog X.w H' h') (hg : AllBare g')
    (hch : ∀ b ∈ ch, (b ∈ X.ex ∨ X.s₀.heap.objs.size ≤ b) ∧ b ≠ X.env.locals ∧ (∀ x c, X.env.cells.lookup x = some c → c ≠ b) ∧ ∀ p ∈ X.pn ++ pins, p.1 ≠ b) :
    Inv X pins σ H' { s with heap := h', gens := g', drawn := d', toks := t' } := by
  obtain ⟨m, ⟨o, es, ep, ho, r⟩, _⟩ := id I.loc
  obtain ⟨sl, hL⟩ := u.any ho I.free fun z => (hch _ z).2.1 rfl
  exact I.step (ch := ch) hch (fun b o hL hb hc e n => u.keep b o e n (fun z => (List.mem_cons.mp (I.stkSub b z)).elim hL hb) hc) (fun b o _ _ hc e n => u.any e n hc) (fun b o hc e n => u.free b o e n hc) (fun b o hc e => u.there b o e hc) u.tups u.frzs u.tbls (fun m' hm => by
    obtain ⟨o', es', ep', ho', r'⟩ := hm
    rw [ho] at ho'; cases ho'
    exact ⟨_, es', ep', hL, r'⟩) hok hg
theorem Inv.turned {t' : Nat} {it : Addr} (I : Inv X pins σ H s) (k : ∀ b o, b ≠ it → s.heap.get? b = some o → h'.get? b = some o) (hn : H it = none) (hL : it ≠ X.env.locals)
    (h1 : it ∈ X.ex ∨ X.s₀.heap.objs.size ≤ it) (h2 : ∀ x c, X.env.cells.lookup x = some c → c ≠ it) (h3 : ∀ p ∈ X.pn ++ pins, p.1 ≠ it) : Inv X pins σ H { s with heap := h', toks := t' } := by
  have nit : ∀ b u, H b = some u → b ≠ it := fun b u e z => by rw [z, hn] at e; cases e
  refine I.step (g' := s.gens) (d' := s.drawn) (ch := [it]) (fun b hb => ?_) (fun b o _ _ hc e _ => k b o (fun z => hc (by simp [z])) e) (fun b o _ _ hc e _ => ⟨o.slots, k b o (fun z => hc (by simp [z])) e⟩) (fun _ _ _ _ n => n)
    (fun b o hc e => ⟨o, k b o (fun z => hc (by simp [z])) e⟩) (fun _ _ e => e) (fun _ _ _ e => e) (fun b ps e => ⟨#[], by rw [e]; simp⟩) (fun m hm => ?_) (fun b u e => ?_) I.bare
  · have e : b = it := by simpa using hb
    subst e
    exact ⟨h1, hL, h2, h3⟩
  · obtain ⟨o, es, ep, ho, r⟩ := hm
    exact ⟨o, es, ep, k _ o (Ne.symm hL) ho, r⟩
  · refine (I.hok b u e).stay (fun c v hc q => k c v ?_ q) (fun _ q => q) fun _ _ q => q
    rcases hc with z | z
    · rw [z]; exact nit b u e
    · exact nit c _ z
theorem Inv.tok (I : Inv X pins σ H s) (t : Nat) : Inv X pins σ H { s with toks := t } := I.un (h' := s.heap) (t' := t) Un.refl I.hok
theorem Inv.kept {t' : Nat} (I : Inv X pins σ H s) (k : ∀ b u, s.heap.get? b = some u → h'.get? b = some u) : Inv X pins σ H { s with heap := h', toks := t' } := I.un (Un.kept k) (I.hok.kept k)
theorem Inv.laid {a : Addr} {o : HO} {t' : Nat} (I : Inv X pins σ H s) (k : ∀ b u, s.heap.get? b = some u → h'.get? b = some u) (hp : s.heap.objs.size ≤ a) (new : ObjOk X.prog X.w (upd H a o) h' a o) :
    Inv X pins σ (upd H a o) { s with heap := h', toks := t' } := I.un (Un.laid k hp (I.hok.fresh hp)) (I.hok.laid k hp new)
theorem Inv.write {x e : Addr} {o : HO} {t' : Nat} (I : Inv X pins σ H s) (mu : Mut (H x)) (he : e = x ∨ H e = some (.own x)) (k : ∀ b u, b ≠ e → s.heap.get? b = some u → h'.get? b = some u) (heo : ∃ u, h'.get? e = some u)
    (new : ObjOk X.prog X.w (upd H x o) h' x o) : Inv X pins σ (upd H x o) { s with heap := h', toks := t' } := I.un (Un.write mu he k heo) (I.hok.write mu he k heo new)
theorem Inv.pins_of {pins' : List (Addr × Obj)} (I : Inv X pins σ H s) (h : ∀ p ∈ pins', s.heap.get? p.1 = some p.2 ∧ H p.1 = none ∧ p.1 ≠ X.env.locals ∧ p.1 ∉ X.fs ∧ ∀ v, p.2.data ≠ .cell v) : Inv X pins' σ H s :=
  ⟨I.ok, I.os, I.bare, I.base, I.loc, I.cell, I.free, I.freeC, fun p hp => (List.mem_append.mp hp).elim (fun z => I.pin p (List.mem_append_left _ z)) (h p), I.hok, I.len⟩
theorem kH {N : List Str} (hN : N.Nodup) {i j : Nat} {x : Str} (a : N[i]? = some x) (b : N[j]? = some x) : i = j := by
  obtain ⟨h1, e1⟩ := List.getElem?_eq_some_iff.mp a
  obtain ⟨h2, e2⟩ := List.getElem?_eq_some_iff.mp b
  exact (List.getElem_inj hN).mp (e1.trans e2.symm)
theorem ms {M : Model} {A : Around} {E : Value → Shared → Prop} {i : Nat} {x : Str} {v : V} {u : Value} {Q : Unit → Shared → Prop} (I : Inv X pins σ H s) (hN : X.N.Nodup) (hi : X.N[i]? = some x) (hx : Loc X.env.scope x) (r : RelV v u)
    (h : ∀ s', Inv X pins (σ.set i (some v)) H s' → (∃ a, Heap.SameBut a s.heap s'.heap ∧ (a = X.env.locals ∨ X.env.cells.lookup x = some a)) → Q () s') (hf : X.fn x = true ∨ X.env.scope.names.lookup x = some .local := by first | exact .inl rfl | exact .inr rfl | assumption) : wpAny M A (storeName X.env x u) Q E s := by
  obtain ⟨m, hn, hl⟩ := id I.loc
  have hcls : (X.env.scope.kind == .class || (X.env.scope.kind == .module && X.env.locals != X.env.globals)) = false := by rw [I.ok.kind]; rfl
  have hiσ : i < σ.length := by rw [I.len]; exact (List.getElem?_eq_some_iff.mp hi).1
  have cne := I.cne
  have tracked : ∀ {a : Addr} {h' : Heap}, (∃ o, s.heap.get? a = some o ∧ H a = none) → Heap.SameBut a s.heap h' → HOk X.prog X.w H h' := fun {a h'} ha hs b ob e => by
    obtain ⟨_, _, hfree⟩ := ha
    refine (I.hok b ob e).stay (fun c w' hc q => (hs.2 c ?_).trans q) (fun _ q => q) fun _ _ q => q
    rintro rfl
    rcases hc with rfl | hc
    · rw [hfree] at e; cases e
    · rw [hfree] at hc; cases hc
  rcases hx with hk | hk
  · refine wpAny_storeName_local hk hn (fun h' hn' hs => ?_) hcls
    obtain ⟨oL, _, _, hoL, _⟩ := id hn
    refine h _ ⟨I.ok, I.os, I.bare, ⟨fun b o e n hb hx => ?_, fun b o e n hb hx => ?_, I.base.free, fun b o e hx => ?_, I.base.tups, I.base.frzs, I.base.tbls⟩, ⟨_, hn', fun j y v' e1 e2 e3 => ?_⟩, fun y c e => ?_, I.free, I.freeC, fun p hp => ?_, tracked ⟨oL, hoL, I.free⟩ hs, by simpa using I.len⟩ ⟨_, hs, .inl rfl⟩
    · exact (hs.2 b (Nat.ne_of_lt (Nat.lt_of_lt_of_le (Heap.lt_size e) I.ok.above))).trans (I.base.keep b o e n hb hx)
    · obtain ⟨sl, e1⟩ := I.base.slot b o e n hb hx
      exact ⟨sl, (hs.2 b (Nat.ne_of_lt (Nat.lt_of_lt_of_le (Heap.lt_size e) I.ok.above))).trans e1⟩
    · obtain ⟨o', e1⟩ := I.base.there b o e hx
      exact ⟨o', (hs.2 b (Nat.ne_of_lt (Nat.lt_of_lt_of_le (Heap.lt_size e) I.ok.above))).trans e1⟩
    · by_cases hj : j = i
      · subst hj
        rw [hi] at e1; cases e1
        rw [List.getElem?_set_self hiσ] at e2
        cases e2
        exact ⟨u, r, .inl ⟨hk, by simp⟩⟩
      · rw [List.getElem?_set_ne (Ne.symm hj)] at e2
        obtain ⟨u', r', q⟩ := hl j y v' e1 e2 e3
        refine ⟨u', r', ?_⟩
        rcases q with ⟨k, e⟩ | ⟨k, c, e, z⟩
        · refine .inl ⟨k, ?_⟩
          have : y ≠ x := fun e => hj (kH hN e1 (e ▸ hi))
          simp [this, e]
        · exact .inr ⟨k, c, e, z.sameBut hs (cne y c e)⟩
    · obtain ⟨w', z⟩ := I.cell y c e
      exact ⟨w', z.sameBut hs (cne y c e)⟩
    · obtain ⟨e, n, ne, nf, d⟩ := I.pin p hp
      exact ⟨(hs.2 p.1 ne).trans e, n, ne, nf, d⟩
  · have hfn : X.fn x = true := by
      rcases hf with z | z
      · exact z
      · rw [z] at hk; cases hk
    obtain ⟨c, hc⟩ := I.ok.has x (.inl hk)
    obtain ⟨w', z⟩ := I.cell x c hc
    refine wpAny_storeName_cell I.ok.kind hk hc z (fun h' hc' hs => ?_)
    obtain ⟨oc, hoc, hocd⟩ := id z
    refine h { s with heap := h' } ⟨I.ok, I.os, I.bare, ⟨fun b o e n hb hx => ?_, fun b o e n hb hx => ?_, I.base.free, fun b o e hx => ?_, I.base.tups, I.base.frzs, I.base.tbls⟩, ⟨m, hn.sameBut hs (Ne.symm (cne x c hc)), fun j y v' e1 e2 e3 => ?_⟩, fun y c' e => ?_, I.free, I.freeC, fun p hp => ?_, tracked ⟨oc, hoc, I.freeC x c hc⟩ hs, by simpa using I.len⟩ ⟨c, hs, .inr hc⟩
    · exact (hs.2 b (Nat.ne_of_lt (Nat.lt_of_lt_of_le (Heap.lt_size e) (I.ok.cab x c hfn hc)))).trans (I.base.keep b o e n hb hx)
    · obtain ⟨sl, e1⟩ := I.base.slot b o e n hb hx
      exact ⟨sl, (hs.2 b (Nat.ne_of_lt (Nat.lt_of_lt_of_le (Heap.lt_size e) (I.ok.cab x c hfn hc)))).trans e1⟩
    · obtain ⟨o', e1⟩ := I.base.there b o e hx
      exact ⟨o', (hs.2 b (Nat.ne_of_lt (Nat.lt_of_lt_of_le (Heap.lt_size e) (I.ok.cab x c hfn hc)))).trans e1⟩
    · by_cases hj : j = i
      · subst hj
        rw [hi] at e1; cases e1
        rw [List.getElem?_set_self hiσ] at e2
        cases e2
        exact ⟨u, r, .inr ⟨.inl hk, c, hc, hc'⟩⟩
      · rw [List.getElem?_set_ne (Ne.symm hj)] at e2
        obtain ⟨u', r', q⟩ := hl j y v' e1 e2 e3
        refine ⟨u', r', ?_⟩
        rcases q with q | ⟨k, c', e, z'⟩
        · exact .inl q
        · refine .inr ⟨k, c', e, z'.sameBut hs ?_⟩
          rintro rfl
          exact hj (kH hN e1 (I.ok.inj _ _ _ e hc ▸ hi))
    · by_cases hcc : c' = c
      · subst hcc; exact ⟨_, hc'⟩
      · obtain ⟨w2, z2⟩ := I.cell y c' e
        exact ⟨w2, z2.sameBut hs hcc⟩
    · obtain ⟨e, n, ne, nf, d⟩ := I.pin p hp
      refine ⟨(hs.2 p.1 ?_).trans e, n, ne, nf, d⟩
      intro q
      rw [q, hoc] at e
      have q' : oc = p.2 := Option.some.inj e
      exact d w' (by rw [← q']; exact hocd)
theorem kL {M : Model} {A : Around} {E : Value → Shared → Prop} {i : Nat} {x : Str} {v : V} {u : Value} {Q : Unit → Shared → Prop} (I : Inv X pins σ H s) (hN : X.N.Nodup) (hi : X.N[i]? = some x) (hx : Loc X.env.scope x) (r : RelV v u)
    (h : ∀ s', Inv X pins (σ.set i (some v)) H s' → Q () s') (hf : X.fn x = true ∨ X.env.scope.names.lookup x = some .local := by first | exact .inl rfl | exact .inr rfl | assumption) : wpAny M A (storeName X.env x u) Q E s :=
  ms I hN hi hx r (fun s' I' _ => h s' I') hf
theorem Inv.call' {s' : Shared} {ch : List Addr} (I : Inv X pins σ H s) (ho : s'.os = s.os) (u : Un (frs X.stack) ch H H' s.heap s'.heap) (hok : HOk X.prog X.w H' s'.heap) (hg : AllBare s'.gens)
    (hch : ∀ b ∈ ch, (b ∈ X.ex ∨ X.s₀.heap.objs.size ≤ b) ∧ b ≠ X.env.locals ∧ (∀ x c, X.env.cells.lookup x = some c → c ≠ b) ∧ ∀ p ∈ X.pn ++ pins, p.1 ≠ b) : Inv X pins σ H' s' := by
  obtain ⟨h', g', d', t', o'⟩ := s'
  have e : o' = s.os := ho
  subst e
  exact I.call (g' := g') (t' := t') (d' := d') u hok hg hch
end
abbrev XK := Value → Option Addr → Hp → Prop
abbrev St := List (Option V)
abbrev VK := V → Hp → Prop
abbrev TE := St → Hp → VK → Prop
abbrev TT := St → Hp → (Bool → Hp → Prop) → Prop
abbrev TA := St → Hp → (List V → Hp → Prop) → Prop
structure dU where
  nx : St → Hp → Prop
  rt : VK
  bk : St → Hp → Prop := fun _ _ => False
  ct : St → Hp → Prop := fun _ _ => False
abbrev TS := dU → St → Hp → Prop
def EP (X : Cx) (pins : List (Addr × Obj)) (σ : St) (Q : VK) (u : Value) (s' : Shared) : Prop := ∃ v H', Inv X pins σ H' s' ∧ RelV v u ∧ Q v H'
def TP (X : Cx) (pins : List (Addr × Obj)) (σ : St) (Q : Bool → Hp → Prop) (b : Bool) (s' : Shared) : Prop := ∃ H', Inv X pins σ H' s' ∧ Q b H'
def AP (X : Cx) (pins : List (Addr × Obj)) (σ : St) (Q : List V → Hp → Prop) (us : List Value) (s' : Shared) : Prop := ∃ vs H', Inv X pins σ H' s' ∧ Vals vs us ∧ Q vs H'
def SP (X : Cx) (pins : List (Addr × Obj)) (D : dU) (f : Flow) (s' : Shared) : Prop :=
  match f with
  | .next => ∃ σ' H', Inv X pins σ' H' s' ∧ D.nx σ' H'
  | .brk => ∃ σ' H', Inv X pins σ' H' s' ∧ D.bk σ' H'
  | .cont => ∃ σ' H', Inv X pins σ' H' s' ∧ D.ct σ' H'
  | .ret u => ∃ v σ' H', Inv X pins σ' H' s' ∧ RelV v u ∧ D.rt v H'
def PE (X : Cx) (e : Expr) (t : TE) : Prop :=
  ∀ (pins : List (Addr × Obj)) (s : Shared) (σ : St) (H : Hp) (Q : VK), Inv X pins σ H s → t σ H Q → wpAny (model X.prog X.w) X.A (eval e X.env) (EP X pins σ Q) X.xe s
def PT (X : Cx) (e : Expr) (t : TT) : Prop :=
  ∀ (pins : List (Addr × Obj)) (s : Shared) (σ : St) (H : Hp) (Q : Bool → Hp → Prop), Inv X pins σ H s → t σ H Q → wpAny (model X.prog X.w) X.A (isTrue e X.env (eval e X.env)) (TP X pins σ Q) X.xe s
def PW (X : Cx) (e : Expr) (t : TT) : Prop :=
  ∀ (whole : Sem Value) (pins : List (Addr × Obj)) (s : Shared) (σ : St) (H : Hp) (Q : Bool → Hp → Prop), Inv X pins σ H s → t σ H Q → wpAny (model X.prog X.w) X.A (isTrue e X.env whole) (TP X pins σ Q) X.xe s
theorem PW.pt {X : Cx} {e : Expr} {t : TT} (h : PW X e t) : PT X e t := h _
def PA (X : Cx) (es : List Expr) (t : TA) : Prop :=
  ∀ (pos : Pos) (pins : List (Addr × Obj)) (s : Shared) (σ : St) (H : Hp) (Q : List V → Hp → Prop), Inv X pins σ H s → t σ H Q → wpAny (model X.prog X.w) X.A (spliced (backTo pos (starEach es X.env))) (AP X pins σ Q) X.xe s
def PS (X : Cx) (st : Stmt) (t : TS) : Prop :=
  ∀ (pins : List (Addr × Obj)) (s : Shared) (σ : St) (H : Hp) (D : dU), Inv X pins σ H s → t D σ H → wpAny (model X.prog X.w) X.A (exec st X.env) (SP X pins D) X.xe s
def PSs (X : Cx) (st : List Stmt) (t : TS) : Prop :=
  ∀ (pins : List (Addr × Obj)) (s : Shared) (σ : St) (H : Hp) (D : dU), Inv X pins σ H s → t D σ H → wpAny (model X.prog X.w) X.A (execs st X.env) (SP X pins D) X.xe s
theorem thn {α : Type} {t : Sem α} {Q Q' : α → Shared → Prop} {M : Model} {A : Around} {E : Value → Shared → Prop} {s : Shared} (h : wpAny M A t Q E s) (hQ : ∀ a s, Q a s → Q' a s) : wpAny M A t Q' E s := wpAny_mono h hQ fun _ _ x => x
end L2
namespace L2
open PySem PySem.Spec PyProof.Rows
section
variable {X : Cx}
theorem bin {a b : Expr} {ta tb : TE} (ha : PE X a ta) (hb : PE X b tb) {pins : List (Addr × Obj)} {s : Shared} {σ : St} {H : Hp} {R : V → V → Hp → Prop} (I : Inv X pins σ H s) (h : ta σ H fun x H1 => tb σ H1 fun y H2 => R x y H2)
    {α : Type} {Q : α → Shared → Prop} {f : Value → Value → Sem α}
    (hf : ∀ v u s2 x y H2, Inv X pins σ H2 s2 → RelV x v → RelV y u → R x y H2 → wpAny (model X.prog X.w) X.A (f v u) Q X.xe s2) :
    wpAny (model X.prog X.w) X.A (eval a X.env) (fun v s₁ => wpAny (model X.prog X.w) X.A (eval b X.env) (fun u s₂ => wpAny (model X.prog X.w) X.A (f v u) Q X.xe s₂) X.xe s₁) X.xe s := by
  refine thn (ha pins s σ H _ I h) fun v s1 ⟨x, H1, I1, r1, q1⟩ => ?_
  refine thn (hb pins s1 σ H1 _ I1 q1) fun u s2 ⟨y, H2, I2, r2, q2⟩ => ?_
  exact hf v u s2 x y H2 I2 r1 r2 q2
def AW (i : Nat) : TE := fun σ H Q => ∃ v, σ[i]? = some (some v) ∧ Q v H
def tC (v : V) : TE := fun _ H Q => Q v H
theorem zb {i : Nat} {x : Str} {pos : Pos} (hN : X.N[i]? = some x) (hv : Vis X.env.scope x) (hd : (x == ("__debug__" : Str)) = false := by decide) (hcd : (x == ("__classdict__" : Str)) = false := by decide) : PE X (.Name x pos) (AW i) := by
  intro pins s σ H Q I h
  obtain ⟨v, e, h⟩ := h
  obtain ⟨m, hn, hl⟩ := I.loc
  obtain ⟨u, r, l⟩ := hl i x v hN e hv
  have fin : EP X pins σ Q u s := ⟨v, H, I, r, h⟩
  rcases l with ⟨hk, hm⟩ | ⟨hk, c, hc, hcell⟩
  · exact wpAny_Name (wpAny_loadName_local I.ok.kind hk hn hm fin) hd
  · rcases hk with hk | hk
    · exact wpAny_Name (wpAny_loadName_cell I.ok.kind hk hc hcell fin) hd
    · exact wpAny_Name (wpAny_loadName_free I.ok.kind hk hc hcell fin hcd) hd
theorem ag {i j pos} : PE X (.Constant (.int i) j pos) (tC (.int i)) := fun _ _ _ H _ I h => wpAny_Constant_int ⟨.int i, H, I.tok _, ⟨_, rfl⟩, h⟩
theorem cT {b j pos} : PE X (.Constant (.bool b) j pos) (tC (.bl b)) := fun _ _ _ H _ I h => Constant_bool ⟨.bl b, H, I, rfl, h⟩
theorem fh {j pos} : PE X (.Constant .none j pos) (tC .non) := fun _ _ _ H _ I h => Constant_none ⟨.non, H, I, rfl, h⟩
theorem yb {x j pos} : PE X (.Constant (.str x) j pos) (tC (.str x)) := fun _ _ _ H _ I h => Calls.Constant_str ⟨.str x, H, I.tok _, ⟨_, rfl⟩, h⟩
def Gl (X : Cx) (x : Str) : Prop := X.env.kindOf x = some .globalImplicit
theorem gL {E : Value → Shared → Prop} {pins : List (Addr × Obj)} {s : Shared} {σ : St} {H : Hp} {x : Str} {u : Value} {pos : Pos} {Q : Value → Shared → Prop} (I : Inv X pins σ H s) (hg : Gl X x) (hm : X.mg x = some u) (h : Q u s)
    (hd : (x == ("__debug__" : Str)) = false := by decide) : wpAny (model X.prog X.w) X.A (eval (.Name x pos) X.env) Q E s :=
  Calls.Name_function_global I.ok.kind hg (Calls.loadGlobal_global (by rw [I.ok.glob]; exact I.mod.glob.keeps I.bk) hm h) hd
theorem lA {E : Value → Shared → Prop} {pins : List (Addr × Obj)} {s : Shared} {σ : St} {H : Hp} {x : Str} {u : Value} {pos : Pos} {Q : Value → Shared → Prop} (I : Inv X pins σ H s) (hg : Gl X x) (hm : X.mg x = none) (hv : bootBuiltins x = some u) (h : Q u s)
    (hn : x ≠ "__name__" := by decide) (hd : (x == ("__debug__" : Str)) = false := by decide) : wpAny (model X.prog X.w) X.A (eval (.Name x pos) X.env) Q E s := by
  obtain ⟨mb, h1, h2⟩ := I.mod.blt
  exact Calls.Name_function_global I.ok.kind hg (Calls.loadGlobal_builtin (by rw [I.ok.glob]; exact I.mod.glob.keeps I.bk) hm (by rw [I.ok.blt]; exact h1.keeps I.bk) ((h2 x hn).trans hv) h) hd
theorem jX {x : Str} {v : V} {u : Value} {pos : Pos} (hg : Gl X x) (hm : X.mg x = some u) (r : RelV v u) (hd : (x == ("__debug__" : Str)) = false := by decide) : PE X (.Name x pos) (tC v) :=
  fun _ _ _ H _ I h => gL I hg hm ⟨v, H, I, r, h⟩ hd
theorem dH {x : Str} {v : V} {u : Value} {pos : Pos} (hg : Gl X x) (hm : X.mg x = none) (hv : bootBuiltins x = some u) (r : RelV v u) (hn : x ≠ "__name__" := by decide) (hd : (x == ("__debug__" : Str)) = false := by decide) : PE X (.Name x pos) (tC v) :=
  fun _ _ _ H _ I h => lA I hg hm hv ⟨v, H, I, r, h⟩ hn hd
variable {a b : Expr} {ta tb : TE} {pos : Pos}
def PC (X : Cx) (op : CmpOp) (a b : Expr) (t : TE) : Prop :=
  ∀ (pins : List (Addr × Obj)) (s : Shared) (σ : St) (H : Hp) (Q : VK), Inv X pins σ H s → t σ H Q →
    wpAny (model X.prog X.w) X.A (eval a X.env) (fun v s₁ => wpAny (model X.prog X.w) X.A (eval b X.env) (fun u s₂ => wpAny (model X.prog X.w) X.A (compareOp op v u) (EP X pins σ Q) X.xe s₂) X.xe s₁) X.xe s
theorem oZ (b : Expr) {op : CmpOp} (h : op ≠ .In) (h2 : op ≠ .NotIn) : behindInMarks op b = false := by
  have e1 : (op == CmpOp.In) = false := by cases op <;> first | rfl | exact absurd rfl h
  have e2 : (op == CmpOp.NotIn) = false := by cases op <;> first | rfl | exact absurd rfl h2
  cases b <;> simp [behindInMarks, e1, e2]
def Aj (ta : TE) : TE := fun σ H Q => ta σ H fun x H1 => Q (.bl (decide (x = .non))) H1
def xJ (ta : TE) : TE := fun σ H Q => ta σ H fun x H1 => Q (.bl (!decide (x = .non))) H1
theorem RelV.none_iff {x : V} {v : Value} (r : RelV x v) : (v == Value.none) = decide (x = .non) := by
  cases x with
  | non => cases r; rfl
  | bl _ => cases r; rfl
  | int _ => obtain ⟨t, rfl⟩ := r; rfl
  | str _ => obtain ⟨t, rfl⟩ := r; rfl
  | byt _ => obtain ⟨t, rfl⟩ := r; rfl
  | flt _ => obtain ⟨t, rfl⟩ := r; rfl
  | ref _ => cases r; rfl
  | ty _ => cases r; rfl
theorem fY {j pos'} (ha : PE X a ta) : PC X .Is a (.Constant .none j pos') (Aj ta) := by
  intro pins s σ H Q I h
  refine thn (ha pins s σ H _ I h) fun v s1 ⟨x, H1, I1, r1, q1⟩ => ?_
  exact Constant_none (is_none_gen ⟨.bl _, H1, I1, by rw [r1.none_iff]; rfl, q1⟩)
theorem wL {j pos'} (ha : PE X a ta) : PC X .IsNot a (.Constant .none j pos') (xJ ta) := by
  intro pins s σ H Q I h
  refine thn (ha pins s σ H _ I h) fun v s1 ⟨x, H1, I1, r1, q1⟩ => ?_
  exact Constant_none (isnot_none_gen ⟨.bl _, H1, I1, by rw [r1.none_iff]; rfl, q1⟩)
theorem qC {op : CmpOp} {t : TE} (h : PC X op a b t) (h1 : behindInMarks op b = false := by first | exact oZ _ (by decide) (by decide) | rfl) : PE X (.Compare a [op] [b] pos) t := fun pins s σ H Q I hw => wpAny_Compare1 (h pins s σ H Q I hw) h1
variable {tA tB' : TT} {rest : List Expr}
def AS (t u : TT) : TT := fun σ H Q => t σ H fun c H1 => if c = true then u σ H1 Q else Q false H1
def tOr (t u : TT) : TT := fun σ H Q => t σ H fun c H1 => if c = true then Q true H1 else u σ H1 Q
def zV (t : TT) : TT := fun σ H Q => t σ H fun c H1 => Q (!c) H1
theorem iU (ha : PT X a tA) : PW X (.BoolOp .And [a] pos) tA := by
  intro wh pins s σ H Q I h
  refine isTrue_and (thn (ha pins s σ H Q I h) fun c s1 e => ?_)
  cases c with
  | true => exact isTrue_and_nil e
  | false => exact e
theorem eP (ha : PT X a tA) : PW X (.BoolOp .Or [a] pos) tA := by
  intro wh pins s σ H Q I h
  refine isTrue_or (thn (ha pins s σ H Q I h) fun c s1 e => ?_)
  cases c with
  | false => exact isTrue_or_nil e
  | true => exact e
theorem lg (ha : PT X a tA) (hb : PW X (.BoolOp .And (b :: rest) pos) tB') : PW X (.BoolOp .And (a :: b :: rest) pos) (AS tA tB') := by
  intro wh pins s σ H Q I h
  refine isTrue_and (thn (ha pins s σ H _ I h) fun c s1 ⟨H1, I1, q1⟩ => ?_)
  cases c with
  | true => exact hb wh pins s1 σ H1 Q I1 q1
  | false => exact ⟨H1, I1, q1⟩
theorem fj (ha : PT X a tA) (hb : PW X (.BoolOp .Or (b :: rest) pos) tB') : PW X (.BoolOp .Or (a :: b :: rest) pos) (tOr tA tB') := by
  intro wh pins s σ H Q I h
  refine isTrue_or (thn (ha pins s σ H _ I h) fun c s1 ⟨H1, I1, q1⟩ => ?_)
  cases c with
  | true => exact ⟨H1, I1, q1⟩
  | false => exact hb wh pins s1 σ H1 Q I1 q1
theorem cC (ha : PT X a tA) : PT X (.UnaryOp .Not a pos) (zV tA) := by
  intro pins s σ H Q I h
  exact isTrue_not (ha pins s σ H (fun c H1 => Q (!c) H1) I h)
theorem gC {op} {t : TE} (h : PE X a t) : PE X (.BoolOp op [a] pos) t := fun pins s σ H Q I hw => BoolOp_one (h pins s σ H Q I hw)
def tIf (t : TT) (ta tb : TE) : TE := fun σ H Q => t σ H fun c H1 => if c = true then ta σ H1 Q else tb σ H1 Q
theorem iV {c : Expr} (hc : PT X c tA) (ha : PE X a ta) (hb : PE X b tb) : PE X (.IfExp c a b pos) (tIf tA ta tb) := by
  intro pins s σ H Q I h
  refine wpAny_IfExp (thn (hc pins s σ H _ I h) fun d s1 ⟨H1, I1, q1⟩ => ?_)
  cases d with
  | true => exact ha pins s1 σ H1 Q I1 q1
  | false => exact hb pins s1 σ H1 Q I1 q1
end
end L2
namespace L2
open PySem PySem.Spec PyProof.Rows
def SqL (K : PySem.W.Frag) (H : Hp) (a : Addr) (xs : List V) : Prop :=
  Rd H a (.lst xs) ∨
    ∃ (o : Obj) (its : Array Value) (n : Nat), K.lookup a = some o ∧ o.cls = .type "list" ∧ o.dict = none ∧ o.data = .seq its n ∧ its.size ≤ sizeLine ∧ Vals xs its.toList
def SqT (K : PySem.W.Frag) (H : Hp) (a : Addr) (xs : List V) : Prop :=
  Rd H a (.tup xs) ∨
    ∃ (o : Obj) (its : Array Value) (n : Nat), K.lookup a = some o ∧ o.cls = .type "tuple" ∧ o.data = .seq its n ∧ its.size ≤ sizeLine ∧ Vals xs its.toList
def AZ : Value → Option V
  | .none => some .non
  | .bool b => some (.bl b)
  | .int i _ => some (.int i)
  | .str x _ => some (.str x)
  | .bytes b _ => some (.byt b)
  | .float b _ => some (.flt b)
  | .ref a => some (.ref a)
  | .type n => some (.ty n)
  | _ => none
theorem RelV.abs {x : V} {u : Value} (r : RelV x u) : AZ u = some x := by
  cases x with
  | non => cases r; rfl
  | bl _ => cases r; rfl
  | int _ => obtain ⟨t, rfl⟩ := r; rfl
  | str _ => obtain ⟨t, rfl⟩ := r; rfl
  | byt _ => obtain ⟨t, rfl⟩ := r; rfl
  | flt _ => obtain ⟨t, rfl⟩ := r; rfl
  | ref _ => cases r; rfl
  | ty _ => cases r; rfl
theorem RelV.inj {x y : V} {u : Value} (r : RelV x u) (q : RelV y u) : x = y := Option.some.inj (r.abs.symm.trans q.abs)
theorem Vals.inj : ∀ {xs ys : List V} {us : List Value}, Vals xs us → Vals ys us → xs = ys
  | _, _, _, .nil, .nil => rfl
  | _, _, _, .cons r t, .cons r' t' => by rw [r.inj r', Vals.inj t t']
section
variable {X : Cx} {pins : List (Addr × Obj)} {σ : St} {H : Hp} {s : Shared} {a : Addr} {xs ys : List V}
theorem SqL.of {K : PySem.W.Frag} (h : H a = some (.lst xs)) : SqL K H a xs := .inl (.inl h)
theorem SqT.of {K : PySem.W.Frag} (h : H a = some (.tup xs)) : SqT K H a xs := .inl (.inl h)
theorem Inv.list (I : Inv X pins σ H s) (h : SqL X.K H a xs) : ∃ its : List Value, Vals xs its ∧ PlainL s.heap a its.toArray ∧ xs.length ≤ sizeLine := by
  rcases h with h | ⟨o, its, n, hk, hc, hd, hs, hz, r⟩
  · obtain ⟨z, its, n, r, e⟩ := h.ok I.hok
    exact ⟨its, r, ⟨_, n, e, rfl, rfl, rfl⟩, z⟩
  · refine ⟨its.toList, r, ⟨o, n, I.kIn a o hk, hc, hd, by simpa using hs⟩, ?_⟩
    have e := r.length
    simp only [Array.length_toList] at e
    omega
theorem Inv.tuple (I : Inv X pins σ H s) (h : SqT X.K H a xs) : ∃ its : List Value, Vals xs its ∧ IsTup s.heap a its.toArray ∧ xs.length ≤ sizeLine := by
  rcases h with h | ⟨o, its, n, hk, hc, hs, hz, r⟩
  · obtain ⟨z, its, r, p⟩ := h.ok I.hok
    exact ⟨its, r, p, z⟩
  · refine ⟨its.toList, r, ⟨o, I.kIn a o hk, hc, n, by simpa using hs⟩, ?_⟩
    have e := r.length
    simp only [Array.length_toList] at e
    omega
theorem Inv.list_inj (I : Inv X pins σ H s) (h : SqL X.K H a xs) (h' : SqL X.K H a ys) : xs = ys := by
  obtain ⟨its, r, ⟨o, n, e, _, _, d⟩, _⟩ := I.list h
  obtain ⟨its', r', ⟨o', n', e', _, _, d'⟩, _⟩ := I.list h'
  rw [e] at e'; cases e'
  rw [d] at d'
  injection d' with d1 _
  have : its = its' := by simpa using congrArg Array.toList d1
  subst this
  exact r.inj r'
theorem Inv.tuple_inj (I : Inv X pins σ H s) (h : SqT X.K H a xs) (h' : SqT X.K H a ys) : xs = ys := by
  obtain ⟨its, r, ⟨o, e, _, n, d⟩, _⟩ := I.tuple h
  obtain ⟨its', r', ⟨o', e', _, n', d'⟩, _⟩ := I.tuple h'
  rw [e] at e'; cases e'
  rw [d] at d'
  injection d' with d1 _
  have : its = its' := by simpa using congrArg Array.toList d1
  subst this
  exact r.inj r'
end
abbrev Cx.wish (X : Cx) (E : Value → Shared → Prop) : Cx := { X with xe := E }
abbrev Cx.nox (X : Cx) : Cx := X.wish fun _ _ => False
section
variable {X : Cx} {pins : List (Addr × Obj)} {σ : St} {H : Hp} {s : Shared} {E : Value → Shared → Prop}
end
section
variable {X : Cx} {st : Stmt} {rest : List Stmt} {t u : TS} {e : Expr} {te : TE} {pos : Pos}
def xY : TS := fun D σ H => D.nx σ H
def Ai (t u : TS) : TS := fun D σ H => t { D with nx := u D } σ H
theorem aV : PSs X [] xY := fun _ _ σ H _ I h => wpAny_execs_nil ⟨σ, H, I, h⟩
theorem ah (h1 : PS X st t) (h2 : PSs X rest u) : PSs X (st :: rest) (Ai t u) := by
  intro pins s σ H D I h
  refine wpAny_execs_cons (thn (h1 pins s σ H { D with nx := u D } I h) fun f s1 q => ?_)
  cases f with
  | next =>
    obtain ⟨σ', H', I', q⟩ := q
    exact h2 pins s1 σ' H' D I' q
  | ret v => exact q
  | brk => exact q
  | cont => exact q
theorem am (h1 : PS X st t) : PSs X [st] t := by
  intro pins s σ H D I h
  refine wpAny_execs_cons (thn (h1 pins s σ H D I h) fun f s1 q => ?_)
  cases f with
  | next => exact wpAny_execs_nil q
  | ret v => exact q
  | brk => exact q
  | cont => exact q
theorem Inv.quiet {pins : List (Addr × Obj)} {σ : St} {H : Hp} {s : Shared} (I : Inv X pins σ H s) : interactive X.env = false := by simp [interactive, I.ok.kind]
def xA (te : TE) : TS := fun D σ H => te σ H fun _ H1 => D.nx σ H1
theorem eT (he : PE X e te) (hs : swapsWith e none pos.line X.env = pure false := by rfl) : PS X (.Expr e pos) (xA te) := by
  intro pins s σ H D I h
  exact wpAny_Expr_any (thn (he pins s σ H _ I h) fun v s1 ⟨x, H1, I1, r1, q1⟩ => ⟨σ, H1, I1, q1⟩) I.quiet hs
def An (te : TE) : TS := fun D σ H => te σ H D.rt
theorem aC (he : PE X e te) : PS X (.Return (some e) pos) (An te) := by
  intro pins s σ H D I h
  exact wpAny_Return_some (thn (he pins s σ H _ I h) fun v s1 ⟨x, H1, I1, r1, q1⟩ => ⟨x, σ, H1, I1, r1, q1⟩)
def Ac (c : TT) (t u : TS) : TS := fun D σ H => c σ H fun b H1 => if b = true then t D σ H1 else u D σ H1
theorem cf {c : Expr} {a b : List Stmt} {tc : TT} (hc : PT X c tc) (ha : PSs X a t) (hb : PSs X b u) : PS X (.If c a b pos) (Ac tc t u) := by
  intro pins s σ H D I h
  refine wpAny_If (thn (hc pins s σ H _ I h) fun d s1 ⟨H1, I1, q1⟩ => ?_)
  cases d with
  | true => exact ha pins s1 σ H1 D I1 q1
  | false => exact hb pins s1 σ H1 D I1 q1
end
abbrev TG := V → St → Hp → (St → Hp → Prop) → Prop
abbrev TGs := List V → St → Hp → (St → Hp → Prop) → Prop
def PG (X : Cx) (target : Expr) (t : TG) : Prop :=
  ∀ (pins : List (Addr × Obj)) (s : Shared) (σ : St) (H : Hp) (v : V) (u : Value) (Q : St → Hp → Prop), Inv X pins σ H s → RelV v u → t v σ H Q →
    wpAny (model X.prog X.w) X.A (assign target X.env u) (fun _ s' => ∃ σ' H', Inv X pins σ' H' s' ∧ Q σ' H') X.xe s
def PGs (X : Cx) (ts : List Expr) (t : TGs) : Prop :=
  ∀ (pins : List (Addr × Obj)) (s : Shared) (σ : St) (H : Hp) (vs : List V) (us : List Value) (Q : St → Hp → Prop), Inv X pins σ H s → Vals vs us → t vs σ H Q →
    wpAny (model X.prog X.w) X.A (assignInOrder ((assignEach ts X.env).map (·.2)) us) (fun _ s' => ∃ σ' H', Inv X pins σ' H' s' ∧ Q σ' H') X.xe s
abbrev zn := V → V → V → Hp → (Hp → Prop) → Prop
def Au (X : Cx) (t : zn) : Prop :=
  ∀ (pins : List (Addr × Obj)) (s : Shared) (σ : St) (H : Hp) (o i v : V) (ov iv u : Value) (Q : Hp → Prop), Inv X pins σ H s → RelV o ov → RelV i iv → RelV v u → t o i v H Q →
    wpAny (model X.prog X.w) X.A (setItem ov iv u) (fun _ s' => ∃ H', Inv X pins σ H' s' ∧ Q H') X.xe s
section
variable {X : Cx} {pos : Pos}
def hR (i : Nat) : TG := fun v σ H Q => Q (σ.set i (some v)) H
theorem aE {i : Nat} {x : Str} (hN : X.N.Nodup) (hi : X.N[i]? = some x) (hx : Loc X.env.scope x) (hf : X.fn x = true ∨ X.env.scope.names.lookup x = some .local := by first | exact .inl rfl | exact .inr rfl | assumption) : PG X (.Name x pos) (hR i) := by
  intro pins s σ H v u Q I r h
  exact wpAny_assign_Name (kL I hN hi hx r (fun s' I' => ⟨_, H, I', h⟩) hf)
def Ax : TGs := fun vs σ H Q => vs = [] ∧ Q σ H
def xP (t : TG) (u : TGs) : TGs := fun vs σ H Q => ∃ v r, vs = v :: r ∧ t v σ H fun σ' H' => u r σ' H' Q
theorem iW : PGs X [] Ax := by
  intro pins s σ H vs us Q I r h
  obtain ⟨e, h⟩ := h
  subst e
  cases r
  exact assignInOrder_nil ⟨σ, H, I, h⟩
theorem bL {e : Expr} {es : List Expr} {t : TG} {u : TGs} (h1 : PG X e t) (h2 : PGs X es u)
    (hs : (assignEach (e :: es) X.env).map (·.2) = assign e X.env :: (assignEach es X.env).map (·.2) := by rfl) : PGs X (e :: es) (xP t u) := by
  intro pins s σ H vs us Q I r h
  obtain ⟨v, vr, e1, h⟩ := h
  subst e1
  cases r with
  | cons r rr =>
    rw [hs]
    refine assignInOrder_cons (thn (h1 pins s σ H _ _ _ I r h) fun _ s1 ⟨σ1, H1, I1, q1⟩ => ?_)
    exact h2 pins s1 σ1 H1 _ _ Q I1 rr q1
def yR (K : PySem.W.Frag) (n : Nat) (t : TGs) : TG := fun v σ H Q => ∃ a xs, v = .ref a ∧ SqT K H a xs ∧ xs.length = n ∧ t xs σ H Q
theorem yu {es : List Expr} {k : Nat} {t : TGs} {n : Nat} (hc : X.calm = true) (h : PGs X es t)
    (hn : (assignEach es X.env).length = n := by rfl) (hst : (assignEach es X.env).findIdx? (·.1) = none := by rfl) : PG X (.Tuple es k pos) (yR X.K n t) := by
  intro pins s σ H v u Q I r hw
  obtain ⟨a, xs, e1, hq, hl, hw⟩ := hw
  subst e1
  cases r
  obtain ⟨its, rv, ht, hz⟩ := I.tuple hq
  refine assign_Tuple_tuple (I.ok.hd hc) ht (by simp [hn, ← hl, rv.length]) hst fun h' hx => ?_
  have I1 : Inv X pins σ H { s with heap := h' } := I.kept (t' := s.toks) fun b o e => hx b o (Nat.ne_of_lt (Heap.lt_size e)) e
  exact h pins _ σ H xs _ Q I1 (by simpa using rv) hw
def zW (to ti : TE) (t : zn) : TG := fun v σ H Q => to σ H fun o H1 => ti σ H1 fun i H2 => t o i v H2 fun H3 => Q σ H3
theorem yK {o i : Expr} {to ti : TE} {t : zn} (ho : PE X o to) (hi : PE X i ti) (hs : Au X t)
    (ha : ∀ v, assign (.Subscript o i pos) X.env v = (do
      let ov ← holding [v] (eval o X.env)
      let iv ← holding [v, ov] (eval i X.env)
      standAt pos
      holding [v, ov, iv] (setItem ov iv v)
      release [v, ov, iv] []) := by intro _; rfl) : PG X (.Subscript o i pos) (zW to ti t) := by
  intro pins s σ H v u Q I r h
  rw [ha]
  refine wpAny_bind (wpAny_holding (thn (ho pins s σ H _ I h) fun ov s1 ⟨x, H1, I1, r1, q1⟩ => ?_))
  refine wpAny_bind (wpAny_holding (thn (hi pins s1 σ H1 _ I1 q1) fun iv s2 ⟨y, H2, I2, r2, q2⟩ => ?_))
  refine wpAny_bind (wpAny_standAt (wpAny_bind (wpAny_holding (thn (hs pins s2 σ H2 x y v ov iv u _ I2 r1 r2 r q2) fun _ s3 ⟨H3, I3, q3⟩ => ?_))))
  exact wpAny_release ⟨σ, H3, I3, q3⟩
def u6 (te : TE) (g : TG) : TS := fun D σ H => te σ H fun x H1 => g x σ H1 D.nx
theorem qS {tg e : Expr} {te : TE} {g : TG} (he : PE X e te) (hg : PG X tg g) (hs : swapsWithSole [tg] e pos.line X.env = pure false := by rfl) (hw : swappedStores [tg] e X.env = pure none := by rfl)
    (h1 : (assignEach [tg] X.env).map (·.2) = [assign tg X.env] := by rfl) : PS X (.Assign [tg] e pos) (u6 te g) := by
  intro pins s σ H D I h
  refine wpAny_Assign_stores (thn (he pins s σ H _ I h) fun v s1 ⟨x, H1, I1, r1, q1⟩ => ?_) hs hw
  rw [h1]
  exact thn (hg pins s1 σ H1 x v _ I1 r1 q1) fun _ s2 q => q
theorem aI {i : Nat} {x : Str} {e : Expr} {te : TE} {pos' : Pos} (hN : X.N.Nodup) (hi : X.N[i]? = some x) (hx : Loc X.env.scope x) (he : PE X e te) (hs : swapsWith e (some (.Name x pos')) pos.line X.env = pure false := by rfl) (hf : X.fn x = true ∨ X.env.scope.names.lookup x = some .local := by first | exact .inl rfl | exact .inr rfl | assumption) :
    PS X (.Assign [.Name x pos'] e pos) (u6 te (hR i)) := by
  intro pins s σ H D I h
  refine wpAny_Assign_Name (thn (he pins s σ H _ I h) fun v s1 ⟨y, H1, I1, r1, q1⟩ => ?_) hs
  exact kL I1 hN hi hx r1 (fun s2 I2 => ⟨_, H1, I2, q1⟩) hf
end
section
variable {X : Cx} {pos : Pos}
end
structure It where
  go : Nat → Hp → Prop
  yld : Nat → Hp → V → Hp → Prop
  stop : Nat → Hp → Prop
def oF (X : Cx) (pins : List (Addr × Obj)) (H : Hp) (b : Addr) : Prop :=
  H b = none ∧ b ≠ X.env.locals ∧ b ∉ X.fs ∧ (b ∈ X.ex ∨ X.s₀.heap.objs.size ≤ b) ∧ (∀ x c, X.env.cells.lookup x = some c → c ≠ b) ∧ ∀ p ∈ X.pn ++ pins, p.1 ≠ b
theorem Inv.fpOk {X : Cx} {pins : List (Addr × Obj)} {σ : St} {H H' : Hp} {s : Shared} {b : Addr} (I : Inv X pins σ H s) (hb : s.heap.objs.size ≤ b) (hn : H' b = none) : oF X pins H' b := by
  refine ⟨hn, Nat.ne_of_gt (Nat.lt_of_lt_of_le I.lt hb), I.nofs hb, .inr (Nat.le_trans I.sz hb), fun x c e z => ?_, fun p hp z => ?_⟩
  · obtain ⟨v, q⟩ := I.cell x c e
    exact absurd (Nat.lt_of_lt_of_le q.lt (by rw [z]; exact hb)) (Nat.lt_irrefl _)
  · exact absurd (Nat.lt_of_lt_of_le (Heap.lt_size (I.pin p hp).1) (by rw [z]; exact hb)) (Nat.lt_irrefl _)
structure ph (P : Program) (w : World) (K : PySem.W.Frag) (tg : Expr) (J : It) (fp : List Addr) (it : Addr) (tn : Nat → Heap → Prop) : Prop where
  mem : it ∈ fp
  obj : ∀ i h, tn i h → ∀ b ∈ fp, ∃ o, h.get? b = some o ∧ ∀ v, o.data ≠ .cell v
  keep : ∀ i h h', tn i h → (∀ b ∈ fp, ∀ o, h.get? b = some o → h'.get? b = some o) → tn i h'
  item : ∀ (X : Cx), X.prog = P → X.w = w → X.K = K → X.calm = true → ∀ (i : Nat) (pins : List (Addr × Obj)) (s : Shared) (σ : St) (H : Hp) (E : Value → Shared → Prop), Inv X pins σ H s → (∀ b ∈ fp, oF X pins H b) → tn i s.heap → J.go i H →
    wpAny (model P w) X.A (pyNext (.ref it)) (fun r s1 => ∃ u, r = some u ∧
      wpAny (model P w) X.A (letOwnedTupleGo tg (.ref it) u) (fun _ s2 => ∃ x H', Inv X pins σ H' s2 ∧ RelV x u ∧ J.yld i H x H' ∧ tn (i + 1) s2.heap ∧ ∀ b ∈ fp, H' b = none) E s1) E s
  done : ∀ (X : Cx), X.prog = P → X.w = w → X.K = K → X.calm = true → ∀ (i : Nat) (pins : List (Addr × Obj)) (s : Shared) (σ : St) (H : Hp) (E : Value → Shared → Prop), Inv X pins σ H s → (∀ b ∈ fp, oF X pins H b) → tn i s.heap → J.stop i H →
    wpAny (model P w) X.A (pyNext (.ref it)) (fun r s1 => r = none ∧ Inv X pins σ H s1) E s
  self : ∀ (A : Around) (i : Nat) (s : Shared) (Q : Value → Shared → Prop) (E : Value → Shared → Prop), tn i s.heap → Q (.ref it) s → wpAny (model P w) A (pyIter (.ref it)) Q E s
abbrev TI := St → Hp → (It → Hp → Prop) → Prop
def PIE (X : Cx) (pins : List (Addr × Obj)) (σ : St) (tg : Expr) (R : It → Hp → Prop) (itv : Value) (s2 : Shared) : Prop :=
  ∃ (it : Addr) (fp : List Addr) (tn : Nat → Heap → Prop) (J : It) (H' : Hp), itv = .ref it ∧ Inv X pins σ H' s2 ∧ ph X.prog X.w X.K tg J fp it tn ∧ tn 0 s2.heap ∧ (∀ b ∈ fp, oF X pins H' b) ∧ R J H'
def PI (X : Cx) (tg iter : Expr) (wi : TI) : Prop :=
  ∀ (pins : List (Addr × Obj)) (s : Shared) (σ : St) (H : Hp) (R : It → Hp → Prop), Inv X pins σ H s → wi σ H R →
    wpAny (model X.prog X.w) X.A (eval iter X.env) (fun v s1 => wpAny (model X.prog X.w) X.A (pyIter v) (PIE X pins σ tg R) X.xe s1) X.xe s
theorem jx {M : Model} {A : Around} {E : Value → Shared → Prop} {s : Shared} {tg : Expr} {it : Addr} {u : Value} {o : Obj} {n : String} {vs : Array Value} {Q : Unit → Shared → Prop} (ho : s.heap.get? it = some o) (hc : o.cls = .type n) (hd : o.data = .fields vs)
    (hn : ["enumerate", "zip", "dict_itemiterator", "dict_reverseitemiterator", "odict_iterator", "itertools.zip_longest", "itertools.pairwise"].contains n = false) (hQ : Q () s) : wpAny M A (letOwnedTupleGo tg (.ref it) u) Q E s := by
  unfold letOwnedTupleGo
  cases tg <;> first
    | exact wpAny_pure hQ
    | (cases u <;> first
        | exact wpAny_pure hQ
        | (refine wpAny_bind (wpAny_load ho ?_)
           rw [hc, hd]
           show wpAny M A (if (["enumerate", "zip", "dict_itemiterator", "dict_reverseitemiterator", "odict_iterator", "itertools.zip_longest", "itertools.pairwise"].contains n && vs[0]? == some (rawInt _)) = true then _ else _) Q E s
           rw [if_neg (by intro h; rw [hn, Bool.false_and] at h; cases h)]
           exact wpAny_pure hQ))
def Itl (K : PySem.W.Frag) (a : Addr) : It :=
  ⟨fun i H => ∃ xs x, SqL K H a xs ∧ xs[i]? = some x, fun i H x H' => H' = H ∧ ∀ xs, SqL K H a xs → xs[i]? = some x, fun i H => ∃ xs, SqL K H a xs ∧ xs.length ≤ i⟩
def Itt (K : PySem.W.Frag) (a : Addr) : It :=
  ⟨fun i H => ∃ xs x, SqT K H a xs ∧ xs[i]? = some x, fun i H x H' => H' = H ∧ ∀ xs, SqT K H a xs → xs[i]? = some x, fun i H => ∃ xs, SqT K H a xs ∧ xs.length ≤ i⟩
def Itr (lo : Int) (n : Nat) : It := ⟨fun i _ => i < n, fun i H x H' => H' = H ∧ x = .int (lo + i), fun i _ => n ≤ i⟩
theorem tm {P : Program} {w : World} {K : PySem.W.Frag} {tg : Expr} (a it : Addr) : ph P w K tg (Itl K a) [it] it (fun i h => h.IsListIter it a i) where
  mem := by simp
  obj := fun i h st b hb => by
    have e : b = it := by simpa using hb
    subst e
    obtain ⟨o, e, c, d⟩ := st
    exact ⟨o, e, fun v z => by rw [d] at z; cases z⟩
  keep := fun i h h' st k => st.at fun o e => k it (by simp) o e
  item := by
    intro X hP hw hK hc i pins s σ H E I hf st hg
    subst hP hw hK
    obtain ⟨xs, x, hq, hx⟩ := hg
    obtain ⟨its, rv, p, hz⟩ := I.list hq
    obtain ⟨u, hu, ru⟩ := rv.get hx
    obtain ⟨f0, f1, f2, f3, f4, f5⟩ := hf it (by simp)
    refine wpAny_pyNext_list_item st p.isList (x := u) (by simpa using hu) fun h' st' sb => ?_
    have I1 : Inv X pins σ H { s with heap := h' } := I.turned (t' := s.toks) (fun b o hb e => (sb.2 b hb).trans e) f0 f1 f3 f4 f5
    obtain ⟨o, e, c, d⟩ := id st'
    exact ⟨u, rfl, jx (s := { s with heap := h' }) e c d (by decide) ⟨x, H, I1, ru, ⟨rfl, fun ys hy => by rw [I.list_inj hy hq]; exact hx⟩, st', fun b hb => (hf b hb).1⟩⟩
  done := by
    intro X hP hw hK hc i pins s σ H E I hf st hg
    subst hP hw hK
    obtain ⟨xs, hq, hx⟩ := hg
    obtain ⟨its, rv, p, hz⟩ := I.list hq
    obtain ⟨f0, f1, f2, f3, f4, f5⟩ := hf it (by simp)
    have hl := rv.length
    exact wpAny_pyNext_list_end (I.ok.hd hc) st p.isList (by simp; omega) fun h' eb => ⟨rfl, I.turned (t' := s.toks) (fun b o hb e => eb b o hb e) f0 f1 f3 f4 f5⟩
  self := fun _ _ _ _ _ st h => wpAny_pyIter_listiter st h
theorem qd {P : Program} {w : World} {K : PySem.W.Frag} {tg : Expr} (a it : Addr) : ph P w K tg (Itt K a) [it] it (fun i h => h.IsTupleIter it a i) where
  mem := by simp
  obj := fun i h st b hb => by
    have e : b = it := by simpa using hb
    subst e
    obtain ⟨o, e, c, d⟩ := st
    exact ⟨o, e, fun v z => by rw [d] at z; cases z⟩
  keep := fun i h h' st k => st.at fun o e => k it (by simp) o e
  item := by
    intro X hP hw hK hc i pins s σ H E I hf st hg
    subst hP hw hK
    obtain ⟨xs, x, hq, hx⟩ := hg
    obtain ⟨its, rv, p, hz⟩ := I.tuple hq
    obtain ⟨u, hu, ru⟩ := rv.get hx
    obtain ⟨f0, f1, f2, f3, f4, f5⟩ := hf it (by simp)
    refine wpAny_pyNext_tuple_item st (show s.heap.IsTuple a its.toArray from p) (x := u) (by simpa using hu) fun h' st' sb => ?_
    have I1 : Inv X pins σ H { s with heap := h' } := I.turned (t' := s.toks) (fun b o hb e => (sb.2 b hb).trans e) f0 f1 f3 f4 f5
    obtain ⟨o, e, c, d⟩ := id st'
    exact ⟨u, rfl, jx (s := { s with heap := h' }) e c d (by decide) ⟨x, H, I1, ru, ⟨rfl, fun ys hy => by rw [I.tuple_inj hy hq]; exact hx⟩, st', fun b hb => (hf b hb).1⟩⟩
  done := by
    intro X hP hw hK hc i pins s σ H E I hf st hg
    subst hP hw hK
    obtain ⟨xs, hq, hx⟩ := hg
    obtain ⟨its, rv, p, hz⟩ := I.tuple hq
    obtain ⟨f0, f1, f2, f3, f4, f5⟩ := hf it (by simp)
    have hl := rv.length
    exact wpAny_pyNext_tuple_end (I.ok.hd hc) st (show s.heap.IsTuple a its.toArray from p) (by simp; omega) fun h' eb => ⟨rfl, I.turned (t' := s.toks) (fun b o hb e => eb b o hb e) f0 f1 f3 f4 f5⟩
  self := fun _ _ _ _ _ st h => wpAny_pyIter_tupleiter st h
theorem qh {P : Program} {w : World} {K : PySem.W.Frag} {tg : Expr} (it : Addr) (lo : Int) (n : Nat) : ph P w K tg (Itr lo n) [it] it (fun i h => IsRangeIter h it (lo + (i : Nat) * 1) ((n : Int) - (i : Nat)) 1) where
  mem := by simp
  obj := fun i h st b hb => by
    have e : b = it := by simpa using hb
    subst e
    exact ⟨_, st, fun v z => by
      have z' : Data.fields _ = Data.cell v := z
      cases z'⟩
  keep := fun i h h' st k => k it (by simp) _ st
  item := by
    intro X hP hw hK hc i pins s σ H E I hf st hg
    subst hP hw hK
    obtain ⟨f0, f1, f2, f3, f4, f5⟩ := hf it (by simp)
    have W := Walks.range (prog := X.prog) (w := X.w) (I.ok.hd hc) it lo 1 n
    refine W.item i s _ _ hg st fun v h' tk hv st' kk => ?_
    obtain ⟨t, rfl⟩ := hv
    have I1 : Inv X pins σ H { s with heap := h', toks := tk } := I.turned (fun b o hb e => kk b o (by simpa using hb) e) f0 f1 f3 f4 f5
    refine ⟨_, rfl, jx (s := { s with heap := h', toks := tk }) (n := "range_iterator") st' rfl rfl (by decide) ⟨.int (lo + i), H, I1, ⟨t, ?_⟩, ⟨rfl, rfl⟩, st', fun b hb => (hf b hb).1⟩⟩
    rw [Int.mul_one]
  done := by
    intro X hP hw hK hc i pins s σ H E I hf st hg
    subst hP hw hK
    obtain ⟨f0, f1, f2, f3, f4, f5⟩ := hf it (by simp)
    exact wpAny_pyNext_range_end (I.ok.hd hc) st (by have : n ≤ i := hg; omega) fun h' eb => ⟨rfl, I.turned (t' := s.toks) (fun b o hb e => eb b o hb e) f0 f1 f3 f4 f5⟩
  self := fun _ _ _ _ _ st h => wpAny_pyIter_rangeiter st h
end L2
namespace L2
open PySem PySem.Spec PyProof.Rows
section
variable {X : Cx} {tg : Expr}
def mK (K : PySem.W.Frag) (tl : TE) : TI := fun σ H R => tl σ H fun x H1 => ∃ a, x = .ref a ∧ (∃ xs, SqL K H1 a xs) ∧ R (Itl K a) H1
def tN (K : PySem.W.Frag) (tl : TE) : TI := fun σ H R => tl σ H fun x H1 => ∃ a, x = .ref a ∧ (∃ xs, SqT K H1 a xs) ∧ R (Itt K a) H1
theorem xa {l : Expr} {tl : TE} (hl : PE X l tl) : PI X tg l (mK X.K tl) := by
  intro pins s σ H R I h
  refine thn (hl pins s σ H _ I h) fun v s1 ⟨x, H1, I1, r1, q1⟩ => ?_
  obtain ⟨a, e, ⟨xs, hq⟩, q⟩ := q1
  subst e
  cases r1
  obtain ⟨its, rv, p, hz⟩ := I1.list hq
  refine wpAny_pyIter_list p.isList ?_
  refine ⟨s1.heap.objs.size, [s1.heap.objs.size], _, _, H1, rfl, I1.kept (t' := s1.toks) fun b o e => Heap.get?_push_of_some _ e, tm a _, ⟨_, Heap.get?_push_size _ rfl, rfl, rfl⟩, fun b hb => ?_, q⟩
  have e : b = s1.heap.objs.size := by simpa using hb
  subst e
  exact I1.fpOk (Nat.le_refl _) (I1.hok.fresh (Nat.le_refl _))
theorem yt {l : Expr} {tl : TE} (hl : PE X l tl) : PI X tg l (tN X.K tl) := by
  intro pins s σ H R I h
  refine thn (hl pins s σ H _ I h) fun v s1 ⟨x, H1, I1, r1, q1⟩ => ?_
  obtain ⟨a, e, ⟨xs, hq⟩, q⟩ := q1
  subst e
  cases r1
  obtain ⟨its, rv, p, hz⟩ := I1.tuple hq
  refine wpAny_pyIter_tuple (show s1.heap.IsTuple a its.toArray from p) ?_
  refine ⟨s1.heap.objs.size, [s1.heap.objs.size], _, _, H1, rfl, I1.kept (t' := s1.toks) fun b o e => Heap.get?_push_of_some _ e, qd a _, ⟨_, Heap.get?_push_size _ rfl, rfl, rfl⟩, fun b hb => ?_, q⟩
  have e : b = s1.heap.objs.size := by simpa using hb
  subst e
  exact I1.fpOk (Nat.le_refl _) (I1.hok.fresh (Nat.le_refl _))
theorem vU {pins : List (Addr × Obj)} {σ : St} {H : Hp} {s : Shared} {R : It → Hp → Prop} {E : Value → Shared → Prop} {lo hi : Int} {t u v : Tok} {tk : Nat} (I : Inv X pins σ H s) (h1 : -(2 ^ 62) ≤ lo) (h2 : lo < 2 ^ 62) (h3 : -(2 ^ 62) ≤ hi) (h4 : hi < 2 ^ 62)
    (q : R (Itr lo (hi - lo).toNat) H) : wpAny (model X.prog X.w) X.A (pyIter (.ref s.heap.objs.size)) (PIE X pins σ tg R) E { s with heap := s.heap.push { cls := .type "range", data := .fields #[.int lo t, .int hi u, .int 1 v] }, toks := tk } := by
  refine wpAny_pyIter_range (IsRange.new ..) (small_one h1 h2 h3 h4) ?_
  have I1 : Inv X pins σ H { s with heap := s.heap.push { cls := .type "range", data := .fields #[.int lo t, .int hi u, .int 1 v] }, toks := tk } := I.kept fun b o e => Heap.get?_push_of_some _ e
  refine ⟨(s.heap.push { cls := .type "range", data := .fields #[.int lo t, .int hi u, .int 1 v] }).objs.size, [(s.heap.push { cls := .type "range", data := .fields #[.int lo t, .int hi u, .int 1 v] }).objs.size], _, _, H, rfl,
    I1.kept (t' := tk) fun b o e => Heap.get?_push_of_some _ e, qh _ lo (hi - lo).toNat, ?_, fun b hb => ?_, q⟩
  · have e1 : lo + ((0 : Nat) : Int) * 1 = lo := by simp
    have e2 : (((hi - lo).toNat : Nat) : Int) - ((0 : Nat) : Int) = Builtin.Range.rangeSize lo hi 1 := by rw [rangeSize_one]; split <;> omega
    show IsRangeIter _ _ (lo + ((0 : Nat) : Int) * 1) ((((hi - lo).toNat : Nat) : Int) - ((0 : Nat) : Int)) 1
    rw [e1, e2]
    exact Heap.get?_push_size _ rfl
  · have e : b = (s.heap.push { cls := .type "range", data := .fields #[.int lo t, .int hi u, .int 1 v] }).objs.size := by simpa using hb
    subst e
    exact I1.fpOk (Nat.le_refl _) (I1.hok.fresh (Nat.le_refl _))
def rN (ta : TA) : TI := fun σ H R => ta σ H fun vs H1 => ∃ j : Int, vs = [.int j] ∧ -(2 ^ 62) ≤ j ∧ j < 2 ^ 62 ∧ R (Itr 0 j.toNat) H1
theorem gP {a : Expr} {ta : TA} {p pos : Pos} (hg : Gl X "range") (hm : X.mg "range" = none) (ha : PA X [a] ta) (hs : starEach [a] X.env = [(false, eval a X.env)] := by rfl) : PI X tg (.Call (.Name "range" p) [a] [] pos) (rN ta) := by
  intro pins s σ H R I h
  refine Call_ (lA I hg hm boot_range (PyProof.Rows.callWith_type1 (thn (ha pos pins s σ H _ I h) fun us s1 ⟨vs, H1, I1, r1, q1⟩ => ?_) hs rfl))
  obtain ⟨j, e, q1, q2, q⟩ := q1
  subst e
  cases r1 with
  | cons r rr =>
    cases rr
    obtain ⟨t, rfl⟩ := r
    exact call_range_1 (vU I1 (by omega) (by omega) q1 q2 (by simpa using q))
def lH (wi : TI) (g : TG) (tb : TS) : TS := fun D σ H => wi σ H fun J H1 => ∃ W : Nat → Nat → St → Hp → Prop, (∃ m, W 0 m σ H1) ∧ ∀ i m σ H, W i m σ H →
  (J.stop i H ∧ D.nx σ H) ∨ (J.go i H ∧ ∃ N : St → Hp → Prop, (∀ σ' H', N σ' H' → ∃ m', m' < m ∧ W (i + 1) m' σ' H') ∧ ∀ x H', J.yld i H x H' → g x σ H' fun σ2 H2 => tb { D with nx := N, ct := N, bk := D.nx } σ2 H2)
def km (fp : List Addr) (h : Heap) : List (Addr × Obj) := fp.filterMap fun b => (h.get? b).map fun o => (b, o)
theorem fM {fp : List Addr} {h : Heap} {b : Addr} {o : Obj} (hb : b ∈ fp) (e : h.get? b = some o) : (b, o) ∈ km fp h := List.mem_filterMap.mpr ⟨b, hb, by rw [e]; rfl⟩
theorem tR {fp : List Addr} {h : Heap} {p : Addr × Obj} (hp : p ∈ km fp h) : p.1 ∈ fp ∧ h.get? p.1 = some p.2 := by
  obtain ⟨b, hb, e⟩ := List.mem_filterMap.mp hp
  cases q : h.get? b with
  | none => rw [q] at e; cases e
  | some o =>
    rw [q] at e
    have e' : (b, o) = p := Option.some.inj e
    subst e'
    exact ⟨hb, q⟩
theorem Inv.pinned {pins : List (Addr × Obj)} {σ : St} {H : Hp} {s : Shared} {fp : List Addr} (I : Inv X pins σ H s) (hf : ∀ b ∈ fp, oF X pins H b) (ho : ∀ b ∈ fp, ∃ o, s.heap.get? b = some o ∧ ∀ v, o.data ≠ .cell v) : Inv X (pins ++ km fp s.heap) σ H s :=
  I.pins_of fun p hp => (List.mem_append.mp hp).elim (fun z => I.pin p (List.mem_append_right _ z)) fun z => by
    obtain ⟨hb, e⟩ := tR z
    obtain ⟨f0, f1, f2, _⟩ := hf p.1 hb
    obtain ⟨o, e', d⟩ := ho p.1 hb
    rw [e] at e'; cases e'
    exact ⟨e, f0, f1, f2, d⟩
theorem Inv.unpinned {pins pl : List (Addr × Obj)} {σ : St} {H : Hp} {s : Shared} (I : Inv X (pins ++ pl) σ H s) : Inv X pins σ H s := I.pins_of fun p hp => I.pin p (List.mem_append_right _ (List.mem_append_left _ hp))
theorem e_ {iter : Expr} {body : List Stmt} {wi : TI} {g : TG} {tb : TS} {pos : Pos} (hp : PassesOwn (model X.prog X.w) X.A X.env X.xe) (hc : X.calm = true) (hi : PI X tg iter wi) (hg : PG X tg g) (hb : PSs X body tb)
    (hs : ∀ x, foldedSetIterable iter X.env x = pure x := by intro _; rfl) : PS X (.For tg iter body [] pos) (lH wi g tb) := by
  intro pins s σ H D I h
  refine wpAny_For (thn (hi pins s σ H _ I h) fun v s1 h1 => thn h1 fun itv s2 h2 => ?_) hs
  obtain ⟨it, fp, tn, J, H2, e, I2, T, st2, f2, W, ⟨m0, w0⟩, turn⟩ := h2
  subst e
  have stat : ∀ {H' : Hp}, (∀ b ∈ fp, H' b = none) → ∀ b ∈ fp, oF X pins H' b := fun hn b hb => ⟨hn b hb, (f2 b hb).2⟩
  refine codeAny_forLoop_any (fun n s' => ∃ i σ' H', Inv X pins σ' H' s' ∧ tn i s'.heap ∧ (∀ b ∈ fp, H' b = none) ∧ W i n σ' H') ?_ m0 ⟨0, σ, H2, I2, st2, fun b hb => (f2 b hb).1, w0⟩
  rintro n s3 ⟨i, σ3, H3, I3, st3, fr3, w3⟩
  rcases turn i n σ3 H3 w3 with ⟨stop, qn⟩ | ⟨go, N, hN, step⟩
  · refine wpAny_passesOwn hp (thn (T.done X rfl rfl rfl hc i pins s3 σ3 H3 X.xe I3 (stat fr3) st3 stop) fun r s4 ⟨hr, I4⟩ => ?_)
    subst hr
    exact wpAny_execs_nil ⟨σ3, H3, I4, qn⟩
  · refine wpAny_passesOwn hp (thn (T.item X rfl rfl rfl hc i pins s3 σ3 H3 X.xe I3 (stat fr3) st3 go) fun r s4 ⟨u, hr, h4⟩ => ?_)
    subst hr
    refine wpAny_passesOwn hp (thn h4 fun _ s5 ⟨x, H5, I5, r5, y5, st5, fr5⟩ => ?_)
    have I5' := I5.pinned (stat fr5) (T.obj _ _ st5)
    refine wpAny_passesOwn hp (thn (hg _ s5 σ3 H5 x u _ I5' r5 (step x H5 y5)) fun _ s6 ⟨σ6, H6, I6, q6⟩ => ?_)
    refine wpAny_passesOwn hp (thn (hb _ s6 σ6 H6 _ I6 q6) fun f s7 q7 => ?_)
    have again : ∀ {σ7 : St} {H7 : Hp}, Inv X (pins ++ km fp s5.heap) σ7 H7 s7 → N σ7 H7 → ∃ m, m < n ∧ ∃ i σ' H', Inv X pins σ' H' s7 ∧ tn i s7.heap ∧ (∀ b ∈ fp, H' b = none) ∧ W i m σ' H' := fun {σ7 H7} I7 n7 => by
      obtain ⟨m', hm, w7⟩ := hN σ7 H7 n7
      refine ⟨m', hm, i + 1, σ7, H7, I7.unpinned, T.keep _ _ _ st5 fun b hb o e => (I7.pin (b, o) (List.mem_append_right _ (List.mem_append_right _ (fM hb e)))).1, fun b hb => ?_, w7⟩
      obtain ⟨o, e, d⟩ := T.obj _ _ st5 b hb
      exact (I7.pin (b, o) (List.mem_append_right _ (List.mem_append_right _ (fM hb e)))).2.1
    cases f with
    | next => obtain ⟨σ7, H7, I7, n7⟩ := q7; exact again I7 n7
    | cont => obtain ⟨σ7, H7, I7, n7⟩ := q7; exact again I7 n7
    | brk => obtain ⟨σ7, H7, I7, q7⟩ := q7; exact ⟨σ7, H7, I7.unpinned, q7⟩
    | ret v => obtain ⟨x7, σ7, H7, I7, r7, q7⟩ := q7; exact ⟨x7, σ7, H7, I7.unpinned, r7, q7⟩
end
theorem iJ {K : PySem.W.Frag} {a : Addr} {xs : List V} {g : TG} {tb : TS} {D : dU} {σ : St} {H : Hp} (Pv : Nat → St → Hp → Prop) (h0 : Pv 0 σ H) (hl : ∀ i σ H, i ≤ xs.length → Pv i σ H → SqL K H a xs)
    (hs : ∀ i x σ H, xs[i]? = some x → Pv i σ H → g x σ H fun σ2 H2 => tb { D with nx := Pv (i + 1), ct := Pv (i + 1), bk := D.nx } σ2 H2) (hd : ∀ σ H, Pv xs.length σ H → D.nx σ H) :
    ∃ W : Nat → Nat → St → Hp → Prop, (∃ m, W 0 m σ H) ∧ ∀ i m σ H, W i m σ H →
      ((Itl K a).stop i H ∧ D.nx σ H) ∨ ((Itl K a).go i H ∧ ∃ N : St → Hp → Prop, (∀ σ' H', N σ' H' → ∃ m', m' < m ∧ W (i + 1) m' σ' H') ∧ ∀ x H', (Itl K a).yld i H x H' → g x σ H' fun σ2 H2 => tb { D with nx := N, ct := N, bk := D.nx } σ2 H2) := by
  refine ⟨fun i m σ H => m = xs.length - i ∧ i ≤ xs.length ∧ Pv i σ H, ⟨xs.length, by simp, Nat.zero_le _, h0⟩, ?_⟩
  rintro i m σ H ⟨rfl, hi, p⟩
  have q := hl i σ H hi p
  by_cases hlt : i < xs.length
  · refine .inr ⟨⟨xs, xs[i], q, by simp [hlt]⟩, Pv (i + 1), fun σ' H' p' => ⟨xs.length - (i + 1), by omega, rfl, hlt, p'⟩, fun x H' y => ?_⟩
    obtain ⟨e, y⟩ := y
    subst e
    exact hs i x σ _ (y xs q) p
  · have e : i = xs.length := by omega
    subst e
    exact .inl ⟨⟨xs, q, Nat.le_refl _⟩, hd σ H p⟩
theorem wc {K : PySem.W.Frag} {a : Addr} {xs : List V} {g : TG} {tb : TS} {D : dU} {σ : St} {H : Hp} (Pv : Nat → St → Hp → Prop) (h0 : Pv 0 σ H) (hl : ∀ i σ H, i ≤ xs.length → Pv i σ H → SqT K H a xs)
    (hs : ∀ i x σ H, xs[i]? = some x → Pv i σ H → g x σ H fun σ2 H2 => tb { D with nx := Pv (i + 1), ct := Pv (i + 1), bk := D.nx } σ2 H2) (hd : ∀ σ H, Pv xs.length σ H → D.nx σ H) :
    ∃ W : Nat → Nat → St → Hp → Prop, (∃ m, W 0 m σ H) ∧ ∀ i m σ H, W i m σ H →
      ((Itt K a).stop i H ∧ D.nx σ H) ∨ ((Itt K a).go i H ∧ ∃ N : St → Hp → Prop, (∀ σ' H', N σ' H' → ∃ m', m' < m ∧ W (i + 1) m' σ' H') ∧ ∀ x H', (Itt K a).yld i H x H' → g x σ H' fun σ2 H2 => tb { D with nx := N, ct := N, bk := D.nx } σ2 H2) := by
  refine ⟨fun i m σ H => m = xs.length - i ∧ i ≤ xs.length ∧ Pv i σ H, ⟨xs.length, by simp, Nat.zero_le _, h0⟩, ?_⟩
  rintro i m σ H ⟨rfl, hi, p⟩
  have q := hl i σ H hi p
  by_cases hlt : i < xs.length
  · refine .inr ⟨⟨xs, xs[i], q, by simp [hlt]⟩, Pv (i + 1), fun σ' H' p' => ⟨xs.length - (i + 1), by omega, rfl, hlt, p'⟩, fun x H' y => ?_⟩
    obtain ⟨e, y⟩ := y
    subst e
    exact hs i x σ _ (y xs q) p
  · have e : i = xs.length := by omega
    subst e
    exact .inl ⟨⟨xs, q, Nat.le_refl _⟩, hd σ H p⟩
theorem mP {lo : Int} {n : Nat} {g : TG} {tb : TS} {D : dU} {σ : St} {H : Hp} (Pv : Nat → St → Hp → Prop) (h0 : Pv 0 σ H)
    (hs : ∀ i σ H, i < n → Pv i σ H → g (.int (lo + i)) σ H fun σ2 H2 => tb { D with nx := Pv (i + 1), ct := Pv (i + 1), bk := D.nx } σ2 H2) (hd : ∀ σ H, Pv n σ H → D.nx σ H) :
    ∃ W : Nat → Nat → St → Hp → Prop, (∃ m, W 0 m σ H) ∧ ∀ i m σ H, W i m σ H →
      ((Itr lo n).stop i H ∧ D.nx σ H) ∨ ((Itr lo n).go i H ∧ ∃ N : St → Hp → Prop, (∀ σ' H', N σ' H' → ∃ m', m' < m ∧ W (i + 1) m' σ' H') ∧ ∀ x H', (Itr lo n).yld i H x H' → g x σ H' fun σ2 H2 => tb { D with nx := N, ct := N, bk := D.nx } σ2 H2) := by
  refine ⟨fun i m σ H => m = n - i ∧ i ≤ n ∧ Pv i σ H, ⟨n, by simp, Nat.zero_le _, h0⟩, ?_⟩
  rintro i m σ H ⟨rfl, hi, p⟩
  by_cases hlt : i < n
  · refine .inr ⟨hlt, Pv (i + 1), fun σ' H' p' => ⟨n - (i + 1), by omega, rfl, hlt, p'⟩, fun x H' y => ?_⟩
    obtain ⟨e, y⟩ := y
    subst e y
    exact hs i σ _ hlt p
  · have e : i = n := by omega
    subst e
    exact .inl ⟨Nat.le_refl _, hd σ H p⟩
end L2
namespace L2
open PySem PySem.Spec PyProof.Rows
abbrev R2 := V → V → Hp → VK → Prop
def OpR (X : Cx) (f : Value → Value → Sem Value) (r : R2) : Prop :=
  ∀ (pins : List (Addr × Obj)) (s : Shared) (σ : St) (H : Hp) (x y : V) (v u : Value) (Q : VK), Inv X pins σ H s → RelV x v → RelV y u → r x y H Q →
    wpAny (model X.prog X.w) X.A (f v u) (EP X pins σ Q) X.xe s
def UnR (X : Cx) (f : Value → Sem Value) (r : V → Hp → VK → Prop) : Prop :=
  ∀ (pins : List (Addr × Obj)) (s : Shared) (σ : St) (H : Hp) (x : V) (v : Value) (Q : VK), Inv X pins σ H s → RelV x v → r x H Q →
    wpAny (model X.prog X.w) X.A (f v) (EP X pins σ Q) X.xe s
def CallR (X : Cx) (f : Value) (r : List V → Hp → VK → Prop) : Prop :=
  ∀ (pins : List (Addr × Obj)) (s : Shared) (σ : St) (H : Hp) (xs : List V) (us : List Value) (Q : VK), Inv X pins σ H s → Vals xs us → r xs H Q →
    wpAny (model X.prog X.w) X.A (call f us) (EP X pins σ Q) X.xe s
def A3 (X : Cx) (r : V → Hp → (Bool → Hp → Prop) → Prop) : Prop :=
  ∀ (pins : List (Addr × Obj)) (s : Shared) (σ : St) (H : Hp) (x : V) (v : Value) (Q : Bool → Hp → Prop), Inv X pins σ H s → RelV x v → r x H Q →
    wpAny (model X.prog X.w) X.A (truthy v) (TP X pins σ Q) X.xe s
def tOp (r : R2) (ta tb : TE) : TE := fun σ H Q => ta σ H fun x H1 => tb σ H1 fun y H2 => r x y H2 Q
def tUn (r : V → Hp → VK → Prop) (ta : TE) : TE := fun σ H Q => ta σ H fun x H1 => r x H1 Q
def rI (C : Int → Int → Prop) (g : Int → Int → V) : R2 := fun x y H Q => ∃ i j, x = .int i ∧ y = .int j ∧ C i j ∧ Q (g i j) H
def rI0 (g : Int → Int → V) : R2 := fun x y H Q => ∃ i j, x = .int i ∧ y = .int j ∧ Q (g i j) H
def rU (g : Int → V) : V → Hp → VK → Prop := fun x H Q => ∃ i, x = .int i ∧ Q (g i) H
section
variable {X : Cx} {a b c : Expr} {ta tb tc : TE} {pos : Pos}
theorem yW (ha : PE X a ta) (hb : PE X b tb) {pins : List (Addr × Obj)} {s : Shared} {σ : St} {H : Hp} {R : V → V → Hp → Prop} (I : Inv X pins σ H s)
    (h : ta σ H fun x H1 => tb σ H1 fun y H2 => R x y H2) {Q : Value → Shared → Prop} {f : Value → Value → Sem Value}
    (hf : ∀ v u s2 x y H2, Inv X pins σ H2 s2 → RelV x v → RelV y u → R x y H2 → wpAny (model X.prog X.w) X.A (f v u) Q X.xe s2) :
    wpAny (model X.prog X.w) X.A (eval a X.env) (fun v s₁ => wpAny (model X.prog X.w) X.A (eval b X.env) (fun u s₂ => wpAny (model X.prog X.w) X.A (f v u) Q X.xe s₂) X.xe s₁) X.xe s := by
  refine thn (ha pins s σ H _ I h) fun v s1 ⟨x, H1, I1, r1, q1⟩ => ?_
  refine thn (hb pins s1 σ H1 _ I1 q1) fun u s2 ⟨y, H2, I2, r2, q2⟩ => ?_
  exact hf v u s2 x y H2 I2 r1 r2 q2
theorem ay {op : Operator} {r : R2} (ho : OpR X (binaryOp op) r) (ha : PE X a ta) (hb : PE X b tb) : PE X (.BinOp a op b pos) (tOp r ta tb) := by
  intro pins s σ H Q I h
  exact wpAny_BinOp (yW ha hb I h fun v u s2 x y H2 I2 rx ry q => ho pins s2 σ H2 x y v u Q I2 rx ry q)
theorem vb {op : UnaryOp} {r : V → Hp → VK → Prop} (ho : UnR X (unaryOp op) r) (ha : PE X a ta) : PE X (.UnaryOp op a pos) (tUn r ta) := by
  intro pins s σ H Q I h
  exact UnaryOp_ (thn (ha pins s σ H _ I h) fun v s1 ⟨x, H1, I1, r1, q1⟩ => ho pins s1 σ H1 x v Q I1 r1 q1)
theorem opI {f : Value → Value → Sem Value} {C : Int → Int → Prop} {g : Int → Int → Int}
    (rule : ∀ (i j : Int) (t u : Tok) (s : Shared) (Q : Value → Shared → Prop) (E : Value → Shared → Prop), C i j → Q (.int (g i j) s.toks) { s with toks := s.toks + 1 } → wpAny (model X.prog X.w) X.A (f (.int i t) (.int j u)) Q E s) :
    OpR X f (rI C fun i j => .int (g i j)) := by
  intro pins s σ H x y v u Q I rx ry h
  obtain ⟨i, j, rfl, rfl, hc, q⟩ := h
  obtain ⟨t, rfl⟩ := rx
  obtain ⟨t', rfl⟩ := ry
  exact rule i j t t' s _ _ hc ⟨.int (g i j), H, I.tok _, ⟨_, rfl⟩, q⟩
theorem AM {f : Value → Value → Sem Value} {g : Int → Int → Int}
    (rule : ∀ (i j : Int) (t u : Tok) (s : Shared) (Q : Value → Shared → Prop) (E : Value → Shared → Prop), Q (.int (g i j) s.toks) { s with toks := s.toks + 1 } → wpAny (model X.prog X.w) X.A (f (.int i t) (.int j u)) Q E s) :
    OpR X f (rI0 fun i j => .int (g i j)) := by
  intro pins s σ H x y v u Q I rx ry h
  obtain ⟨i, j, rfl, rfl, q⟩ := h
  obtain ⟨t, rfl⟩ := rx
  obtain ⟨t', rfl⟩ := ry
  exact rule i j t t' s _ _ ⟨.int (g i j), H, I.tok _, ⟨_, rfl⟩, q⟩
theorem wY {f : Value → Value → Sem Value} {g : Int → Int → Bool}
    (rule : ∀ (i j : Int) (t u : Tok) (s : Shared) (Q : Value → Shared → Prop) (E : Value → Shared → Prop), Q (.bool (g i j)) s → wpAny (model X.prog X.w) X.A (f (.int i t) (.int j u)) Q E s) :
    OpR X f (rI0 fun i j => .bl (g i j)) := by
  intro pins s σ H x y v u Q I rx ry h
  obtain ⟨i, j, rfl, rfl, q⟩ := h
  obtain ⟨t, rfl⟩ := rx
  obtain ⟨t', rfl⟩ := ry
  exact rule i j t t' s _ _ ⟨.bl (g i j), H, I, rfl, q⟩
def zB (i j : Int) : Prop := 0 < j ∧ j < 1073741824
def zv (i j : Int) : Prop := 0 ≤ j ∧ j ≤ 1000000 ∧ i.natAbs < 2 ^ 64
def CMul (i j : Int) : Prop := (-(2 ^ 64) < i ∧ i < 2 ^ 64) ∨ (-(2 ^ 64) < j ∧ j < 2 ^ 64)
theorem CMul.ok {i j : Int} (h : CMul i j) : IntMulOk i j := by
  rcases h with ⟨h1, h2⟩ | ⟨h1, h2⟩
  · exact .of_left (intBits_le_64 h1 h2)
  · exact .of_right (intBits_le_64 h1 h2)
theorem zO : OpR X (binaryOp .Add) (rI0 fun i j => .int (i + j)) := AM fun _ _ _ _ _ _ _ q => add_int q
theorem zD : OpR X (binaryOp .Sub) (rI0 fun i j => .int (i - j)) := AM fun _ _ _ _ _ _ _ q => sub_int q
theorem zj : OpR X (binaryOp .Mult) (rI CMul fun i j => .int (i * j)) := opI fun _ _ _ _ _ _ _ hc q => mul_int q hc.ok
theorem wD : OpR X (binaryOp .FloorDiv) (rI zB fun i j => .int (i / j)) := opI fun i j _ _ _ _ _ hc q => by
  have h1 : (0 : Int) < j := hc.1
  have h2 : j < 1073741824 := hc.2
  exact floordiv_int (by omega) (by rw [Int.fdiv_eq_ediv_of_nonneg i (by omega)]; exact q) (.inl (PyProof.noPylong_small (by omega)))
theorem zk : OpR X (binaryOp .Mod) (rI (fun _ j => 0 < j) fun i j => .int (i % j)) := opI fun i j _ _ _ _ _ hc q => by
  have h1 : (0 : Int) < j := hc
  exact mod_int' (by omega) (by rw [Int.fmod_eq_emod_of_nonneg i (by omega)]; exact q)
theorem zx : OpR X (binaryOp .Pow) (rI zv fun i j => .int (i ^ j.toNat)) := opI fun _ _ _ _ _ _ _ hc q => pow_int_small hc.1 hc.2.1 hc.2.2 q
theorem unI {f : Value → Sem Value} {g : Int → Int}
    (rule : ∀ (i : Int) (t : Tok) (s : Shared) (Q : Value → Shared → Prop) (E : Value → Shared → Prop), Q (.int (g i) s.toks) { s with toks := s.toks + 1 } → wpAny (model X.prog X.w) X.A (f (.int i t)) Q E s) :
    UnR X f (rU fun i => .int (g i)) := by
  intro pins s σ H x v Q I rx h
  obtain ⟨i, rfl, q⟩ := h
  obtain ⟨t, rfl⟩ := rx
  exact rule i t s _ _ ⟨.int (g i), H, I.tok _, ⟨_, rfl⟩, q⟩
theorem yU : UnR X (unaryOp .USub) (rU fun i => .int (-i)) := unI fun _ _ _ _ _ q => neg_int q
end
def yx : V → V → Bool
  | .non, .non => true | .non, .int _ => true | .int _, .non => true | .non, .bl _ => true | .bl _, .non => true | .non, .str _ => true | .str _, .non => true
  | .int _, .int _ => true | .bl _, .bl _ => true | .str _, .str _ => true | .byt _, .byt _ => true
  | .int _, .str _ => true | .str _, .int _ => true | .bl _, .str _ => true | .str _, .bl _ => true
  | _, _ => false
def rEq : R2 := fun x y H Q => yx x y = true ∧ Q (.bl (decide (x = y))) H
def rNe : R2 := fun x y H Q => yx x y = true ∧ Q (.bl (!decide (x = y))) H
theorem r8 {i j : Int} : decide (V.int i = V.int j) = (i == j) := by
  rw [Bool.eq_iff_iff]
  simp
theorem vn {i j : Bool} : decide (V.bl i = V.bl j) = (i == j) := by
  rw [Bool.eq_iff_iff]
  simp
theorem sO {i j : Str} : decide (V.str i = V.str j) = (i == j) := by
  rw [Bool.eq_iff_iff]
  simp
theorem rn {i j : Array UInt8} : decide (V.byt i = V.byt j) = (i.toList == j.toList) := by
  rw [Bool.eq_iff_iff]
  cases i
  cases j
  simp
section
variable {X : Cx} {a b c : Expr} {ta tb tc : TE} {pos : Pos}
theorem bn {pins : List (Addr × Obj)} {σ : St} {H : Hp} {s : Shared} {Q : VK} {k k' : Bool} (I : Inv X pins σ H s) (q : Q (.bl k) H) (e : k = k') : EP X pins σ Q (.bool k') s := by
  subst e
  exact ⟨.bl k, H, I, rfl, q⟩
theorem zX : OpR X (compareOp .Eq) rEq := by
  intro pins s σ H x y v u Q I rx ry h
  obtain ⟨hs, q⟩ := h
  cases x with
  | non =>
    cases rx
    cases y with
    | non => cases ry; exact PySem.EqNone.eq_none_none (bn I q (by simp))
    | bl j => cases ry; exact PySem.EqNone.eq_none_bool (bn I q (by simp))
    | int j => obtain ⟨t', rfl⟩ := ry; exact PySem.EqNone.eq_none_int (bn I q (by simp))
    | str j => obtain ⟨t', rfl⟩ := ry; exact PySem.EqNone.eq_none_str (bn I q (by simp))
    | _ => exact absurd (show false = true from hs) Bool.false_ne_true
  | bl i =>
    cases rx
    cases y with
    | non => cases ry; exact PySem.EqNone.eq_bool_none (bn I q (by simp))
    | bl j => cases ry; exact eq_bool (bn I q vn)
    | str j => obtain ⟨t', rfl⟩ := ry; exact PySem.EqMixed.eq_bool_str (bn I q (by simp))
    | _ => exact absurd (show false = true from hs) Bool.false_ne_true
  | int i =>
    obtain ⟨t, rfl⟩ := rx
    cases y with
    | non => cases ry; exact PySem.EqNone.eq_int_none (bn I q (by simp))
    | int j => obtain ⟨t', rfl⟩ := ry; exact eq_int (bn I q r8)
    | str j => obtain ⟨t', rfl⟩ := ry; exact PySem.EqMixed.eq_int_str (bn I q (by simp))
    | _ => exact absurd (show false = true from hs) Bool.false_ne_true
  | str i =>
    obtain ⟨t, rfl⟩ := rx
    cases y with
    | non => cases ry; exact PySem.EqNone.eq_str_none (bn I q (by simp))
    | bl j => cases ry; exact PySem.EqMixed.eq_str_bool (bn I q (by simp))
    | int j => obtain ⟨t', rfl⟩ := ry; exact PySem.EqMixed.eq_str_int (bn I q (by simp))
    | str j => obtain ⟨t', rfl⟩ := ry; exact eq_str (bn I q sO)
    | _ => exact absurd (show false = true from hs) Bool.false_ne_true
  | byt i =>
    obtain ⟨t, rfl⟩ := rx
    cases y with
    | byt j => obtain ⟨t', rfl⟩ := ry; exact PySem.W.eq_bytes (bn I q rn)
    | _ => exact absurd (show false = true from hs) Bool.false_ne_true
  | _ => cases y <;> exact absurd (show false = true from hs) Bool.false_ne_true
theorem AB : OpR X (compareOp .NotEq) rNe := by
  intro pins s σ H x y v u Q I rx ry h
  obtain ⟨hs, q⟩ := h
  cases x with
  | non =>
    cases rx
    cases y with
    | non => cases ry; exact PySem.EqNone.ne_none_none (bn I q (by simp))
    | bl j => cases ry; exact PySem.EqNone.ne_none_bool (bn I q (by simp))
    | int j => obtain ⟨t', rfl⟩ := ry; exact PySem.EqNone.ne_none_int (bn I q (by simp))
    | str j => obtain ⟨t', rfl⟩ := ry; exact PySem.EqNone.ne_none_str (bn I q (by simp))
    | _ => exact absurd (show false = true from hs) Bool.false_ne_true
  | bl i =>
    cases rx
    cases y with
    | non => cases ry; exact PySem.EqNone.ne_bool_none (bn I q (by simp))
    | bl j => cases ry; exact ne_bool (bn I q (congrArg not vn))
    | str j => obtain ⟨t', rfl⟩ := ry; exact PySem.EqMixed.ne_bool_str (bn I q (by simp))
    | _ => exact absurd (show false = true from hs) Bool.false_ne_true
  | int i =>
    obtain ⟨t, rfl⟩ := rx
    cases y with
    | non => cases ry; exact PySem.EqNone.ne_int_none (bn I q (by simp))
    | int j => obtain ⟨t', rfl⟩ := ry; exact ne_int (bn I q (congrArg not r8))
    | str j => obtain ⟨t', rfl⟩ := ry; exact PySem.EqMixed.ne_int_str (bn I q (by simp))
    | _ => exact absurd (show false = true from hs) Bool.false_ne_true
  | str i =>
    obtain ⟨t, rfl⟩ := rx
    cases y with
    | non => cases ry; exact PySem.EqNone.ne_str_none (bn I q (by simp))
    | bl j => cases ry; exact PySem.EqMixed.ne_str_bool (bn I q (by simp))
    | int j => obtain ⟨t', rfl⟩ := ry; exact PySem.EqMixed.ne_str_int (bn I q (by simp))
    | str j => obtain ⟨t', rfl⟩ := ry; exact ne_str (bn I q (congrArg not sO))
    | _ => exact absurd (show false = true from hs) Bool.false_ne_true
  | byt i =>
    obtain ⟨t, rfl⟩ := rx
    cases y with
    | byt j => obtain ⟨t', rfl⟩ := ry; exact PySem.W.ne_bytes (bn I q (congrArg not rn))
    | _ => exact absurd (show false = true from hs) Bool.false_ne_true
  | _ => cases y <;> exact absurd (show false = true from hs) Bool.false_ne_true
theorem AT : OpR X (compareOp .Lt) (rI0 fun i j => .bl (decide (i < j))) := wY fun _ _ _ _ _ _ _ q => lt_int q
theorem AG : OpR X (compareOp .LtE) (rI0 fun i j => .bl (decide (i ≤ j))) := wY fun _ _ _ _ _ _ _ q => le_int q
theorem As : OpR X (compareOp .Gt) (rI0 fun i j => .bl (decide (j < i))) := wY fun _ _ _ _ _ _ _ q => gt_int q
theorem Am : OpR X (compareOp .GtE) (rI0 fun i j => .bl (decide (j ≤ i))) := wY fun _ _ _ _ _ _ _ q => ge_int q
theorem tJ : OpR X (compareOp .Lt) (fun x y H Q => ∃ i j, x = .str i ∧ y = .str j ∧ Q (.bl (decide (i.cps.toList < j.cps.toList))) H) := by
  intro pins s σ H x y v u Q I rx ry h
  obtain ⟨i, j, rfl, rfl, q⟩ := h
  obtain ⟨t, rfl⟩ := rx
  obtain ⟨t', rfl⟩ := ry
  exact lt_str (bn I q rfl)
theorem nQ : OpR X (compareOp .NotIn) (fun x y H Q => ∃ i j, x = .str i ∧ y = .str j ∧ Q (.bl (!(!(Builtin.Str.occurrences j i 0 j.length 1).isEmpty))) H) := by
  intro pins s σ H x y v u Q I rx ry h
  obtain ⟨i, j, rfl, rfl, q⟩ := h
  obtain ⟨t, rfl⟩ := rx
  obtain ⟨t', rfl⟩ := ry
  exact notIn_str (bn I q rfl)
theorem OpR.or {f : Value → Value → Sem Value} {r r' : R2} (h : OpR X f r) (h' : OpR X f r') : OpR X f (fun x y H Q => r x y H Q ∨ r' x y H Q) := by
  intro pins s σ H x y v u Q I rx ry q
  rcases q with q | q
  · exact h pins s σ H x y v u Q I rx ry q
  · exact h' pins s σ H x y v u Q I rx ry q
theorem bb (b : Expr) {op : CmpOp} (h : op ≠ .In := by decide) (h2 : op ≠ .NotIn := by decide) : behindInMarks op b = false := by
  have e1 : (op == CmpOp.In) = false := by cases op <;> first | rfl | exact absurd rfl h
  have e2 : (op == CmpOp.NotIn) = false := by cases op <;> first | rfl | exact absurd rfl h2
  cases b <;> simp [behindInMarks, e1, e2]
theorem iH {op : CmpOp} {r : R2} (ho : OpR X (compareOp op) r) (ha : PE X a ta) (hb : PE X b tb) (hm : behindInMarks op b = false) : PE X (.Compare a [op] [b] pos) (tOp r ta tb) := by
  intro pins s σ H Q I h
  exact wpAny_Compare1 (yW ha hb I h fun v u s2 x y H2 I2 rx ry q => ho pins s2 σ H2 x y v u Q I2 rx ry q) hm
def A1 (K : PySem.W.Frag) (x : V) (H : Hp) (k : Bool) : Prop :=
  match x with
  | .non => k = false
  | .bl b => k = b
  | .int i => k = (i != 0)
  | .str y => y.length ≤ sizeLine ∧ k = ((y.length : Int) != 0)
  | .byt y => y.size ≤ sizeLine ∧ k = ((y.size : Int) != 0)
  | .ref p => (∃ xs, SqL K H p xs ∧ k = !xs.isEmpty) ∨ (∃ xs, SqT K H p xs ∧ k = !xs.isEmpty) ∨ ∃ kvs, H p = some (.dK kvs) ∧ k = !kvs.isEmpty
  | _ => False
theorem q0 {κ : Type} {kvs : List (κ × V)} {vs : List (κ × Value)} (r : KV kvs vs) : (!vs.isEmpty) = !kvs.isEmpty := by
  cases r <;> rfl
theorem kT {xs : List V} {its : List Value} (r : Vals xs its) : (!its.toArray.isEmpty) = !xs.isEmpty := by
  cases r <;> simp
theorem i_ : (sizeLine : Nat) < 2 ^ 63 := by rw [sizeLine_eq]; decide
theorem A_ : A3 X (fun x H Q => ∃ k, A1 X.K x H k ∧ Q k H) := by
  intro pins s σ H x v Q I rx h
  obtain ⟨k, e, q⟩ := h
  have hl := i_
  have hs : sizeLine = 16777216 := sizeLine_eq
  cases x with
  | non =>
    cases rx
    have e' : k = false := e
    subst e'
    exact truthy_none ⟨H, I, q⟩
  | bl b =>
    cases rx
    have e' : k = b := e
    subst e'
    exact wpAny_truthy_bool ⟨H, I, q⟩
  | int i =>
    obtain ⟨t, rfl⟩ := rx
    have e' : k = (i != 0) := e
    subst e'
    exact PySem.P.truthy_int ⟨H, I, q⟩
  | str y =>
    obtain ⟨t, rfl⟩ := rx
    obtain ⟨hy, e'⟩ : y.length ≤ sizeLine ∧ k = ((y.length : Int) != 0) := e
    subst e'
    exact PySem.P.truthy_str (by omega) ⟨H, I.tok _, q⟩
  | byt y =>
    obtain ⟨t, rfl⟩ := rx
    obtain ⟨hy, e'⟩ : y.size ≤ sizeLine ∧ k = ((y.size : Int) != 0) := e
    subst e'
    exact PySem.W.truthy_bytes (by omega) ⟨H, I.tok _, q⟩
  | ref p =>
    cases rx
    have e' : (∃ xs, SqL X.K H p xs ∧ k = !xs.isEmpty) ∨ (∃ xs, SqT X.K H p xs ∧ k = !xs.isEmpty) ∨ ∃ kvs, H p = some (.dK kvs) ∧ k = !kvs.isEmpty := e
    rcases e' with ⟨xs, hx, e'⟩ | ⟨xs, hx, e'⟩ | ⟨kvs, hx, e'⟩
    · subst e'
      obtain ⟨its, r, pl, hz⟩ := I.list hx
      have hlen := r.length
      exact wpAny_truthy_list pl.isList (by simp only [List.size_toArray]; omega) ⟨H, I.tok _, by rw [kT r]; exact q⟩
    · subst e'
      obtain ⟨its, r, pl, hz⟩ := I.tuple hx
      have hlen := r.length
      exact truthy_tuple pl (by simp only [List.size_toArray]; omega) ⟨H, I.tok _, by rw [kT r]; exact q⟩
    · subst e'
      obtain ⟨hz, hS, vs, r, m⟩ : kvs.length ≤ sizeLine ∧ (p == sysModules) = false ∧ ∃ vs, KV kvs vs ∧ s.heap.DictOf (b7 X.prog X.w) p vs := I.hok p _ hx
      have hlen : kvs.length = vs.length := Paired.length r
      exact wpAny_truthy_dict hS m (by omega) ⟨H, I.tok _, by rw [q0 r]; exact q⟩
  | _ => exact (show False from e).elim
theorem qZ : OpR X (binaryOp .Add) (fun x y H Q => ∃ i j, x = .str i ∧ y = .str j ∧ i.length + j.length ≤ sizeLine ∧ Q (.str (i ++ j)) H) := by
  intro pins s σ H x y v u Q I rx ry h
  obtain ⟨i, j, rfl, rfl, hz, q⟩ := h
  obtain ⟨t, rfl⟩ := rx
  obtain ⟨t', rfl⟩ := ry
  exact add_str (fun t' tk => ⟨.str (i ++ j), H, I.tok _, ⟨_, rfl⟩, q⟩) hz
theorem gg {x : V} {us : List Value} (r : Vals [x] us) : ∃ u, us = [u] ∧ RelV x u := by
  cases r with
  | cons r1 r2 => cases r2; exact ⟨_, rfl, r1⟩
theorem m6 {x y : V} {us : List Value} (r : Vals [x, y] us) : ∃ u w', us = [u, w'] ∧ RelV x u ∧ RelV y w' := by
  cases r with
  | cons r1 r2 =>
    cases r2 with
    | cons r3 r4 => cases r4; exact ⟨_, _, rfl, r1, r3⟩
theorem uC : CallR X (.builtin "abs") (fun xs H Q => ∃ i, xs = [.int i] ∧ Q (.int (if i < 0 then -i else i)) H) := by
  intro pins s σ H xs us Q I r h
  obtain ⟨i, rfl, q⟩ := h
  obtain ⟨u, rfl, t, rfl⟩ := gg r
  exact call_abs_int fun u tk => ⟨.int (if i < 0 then -i else i), H, I.tok _, ⟨_, rfl⟩, q⟩
theorem s_ (hc : X.calm = true) : CallR X (.builtin "max") (fun xs H Q => ∃ i j, xs = [.int i, .int j] ∧ Q (.int (if j > i then j else i)) H) := by
  intro pins s σ H xs us Q I r h
  obtain ⟨i, j, rfl, q⟩ := h
  obtain ⟨u, w', rfl, ⟨t, rfl⟩, ⟨t', rfl⟩⟩ := m6 r
  refine max_two_ints (I.ok.hd hc) fun h' tk k => ⟨_, H, I.kept k, ?_, q⟩
  by_cases hj : j > i
  · rw [if_pos hj, if_pos hj]; exact ⟨_, rfl⟩
  · rw [if_neg hj, if_neg hj]; exact ⟨_, rfl⟩
theorem tq (hc : X.calm = true) : CallR X (.builtin "min") (fun xs H Q => ∃ i j, xs = [.int i, .int j] ∧ Q (.int (if j < i then j else i)) H) := by
  intro pins s σ H xs us Q I r h
  obtain ⟨i, j, rfl, q⟩ := h
  obtain ⟨u, w', rfl, ⟨t, rfl⟩, ⟨t', rfl⟩⟩ := m6 r
  refine min_two_ints (I.ok.hd hc) fun h' tk k => ⟨_, H, I.kept k, ?_, q⟩
  by_cases hj : j < i
  · rw [if_pos hj, if_pos hj]; exact ⟨_, rfl⟩
  · rw [if_neg hj, if_neg hj]; exact ⟨_, rfl⟩
theorem tj : CallR X (.type "int") (fun xs H Q => (∃ i, xs = [.int i] ∧ Q (.int i) H) ∨ ∃ k, xs = [.bl k] ∧ Q (.int (if k then 1 else 0)) H) := by
  intro pins s σ H xs us Q I r h
  rcases h with ⟨i, rfl, q⟩ | ⟨k, rfl, q⟩
  · obtain ⟨u, rfl, t, rfl⟩ := gg r
    exact call_int_int ⟨.int i, H, I, ⟨_, rfl⟩, q⟩
  · obtain ⟨u, rfl, r1⟩ := gg r
    cases r1
    exact call_int_bool ⟨.int (if k then 1 else 0), H, I.tok _, ⟨_, rfl⟩, q⟩
def AY (K : PySem.W.Frag) (x : V) (H : Hp) (n : Nat) : Prop :=
  match x with
  | .str y => y.length ≤ sizeLine ∧ n = y.length
  | .byt y => y.size ≤ sizeLine ∧ n = y.size
  | .ref p => (∃ xs, SqL K H p xs ∧ n = xs.length) ∨ ∃ xs, SqT K H p xs ∧ n = xs.length
  | _ => False
theorem ve : CallR X (.builtin "len") (fun xs H Q => ∃ x n, xs = [x] ∧ AY X.K x H n ∧ Q (.int n) H) := by
  intro pins s σ H xs us Q I r h
  obtain ⟨x, n, rfl, e, q⟩ := h
  obtain ⟨u, rfl, rx⟩ := gg r
  have hl := i_
  have hs : sizeLine = 16777216 := sizeLine_eq
  cases x with
  | str y =>
    obtain ⟨t, rfl⟩ := rx
    obtain ⟨hy, e'⟩ : y.length ≤ sizeLine ∧ n = y.length := e
    subst e'
    exact len_str (by omega) ⟨.int _, H, I.tok _, ⟨_, rfl⟩, q⟩
  | byt y =>
    obtain ⟨t, rfl⟩ := rx
    obtain ⟨hy, e'⟩ : y.size ≤ sizeLine ∧ n = y.size := e
    subst e'
    exact PySem.W.len_bytes (by omega) ⟨.int _, H, I.tok _, ⟨_, rfl⟩, q⟩
  | ref p =>
    cases rx
    have e' : (∃ xs, SqL X.K H p xs ∧ n = xs.length) ∨ ∃ xs, SqT X.K H p xs ∧ n = xs.length := e
    rcases e' with ⟨xs, hx, e'⟩ | ⟨xs, hx, e'⟩
    · subst e'
      obtain ⟨its, r', pl, hz⟩ := I.list hx
      have hlen := r'.length
      exact Calls.call_len_list pl.isList (by simp only [List.size_toArray]; omega) ⟨.int xs.length, H, I.tok _, ⟨_, by simp only [List.size_toArray]; rw [hlen]⟩, q⟩
    · subst e'
      obtain ⟨its, r', pl, hz⟩ := I.tuple hx
      have hlen := r'.length
      exact len_tuple pl (by simp only [List.size_toArray]; omega) ⟨.int xs.length, H, I.tok _, ⟨_, by simp only [List.size_toArray]; rw [hlen]⟩, q⟩
  | _ => exact (show False from e).elim
end
end L2
namespace L2
open PySem PySem.Spec PyProof.Rows
structure ObjM (h : Heap) (x dx C : Addr) (mA : Str → Option Value) : Prop where
  obj : h.get? x = some (PySem.W.instObj C dx)
  ns : h.Ns1 dx mA
  ne : dx ≠ x
theorem tD {h : Heap} {dx : Addr} {mA : Str → Option Value} (n : h.Ns1 dx mA) : ∃ od, h.get? dx = some od ∧ ∀ name, PySem.W.lookIn name od = some (mA name) := by
  obtain ⟨o, es, ep, ho, hd, hk, _, hm⟩ := n
  refine ⟨o, ho, fun name => ?_⟩
  have e := hm name
  unfold nsFind findBy at e
  rw [← Array.find?_toList] at e
  unfold PySem.W.lookIn
  rw [hd]
  dsimp only
  split
  · rename_i y q
    rw [q] at e
    exact congrArg some e
  · rename_i q
    rw [q] at e
    have a : es.toList.any (·.refKey) = false := by
      rw [List.any_eq_false]
      intro y hy
      obtain ⟨z, t, hkey⟩ := hk y (Array.mem_toList_iff.mp hy)
      simp [DictEntry.refKey, hkey]
    have a' : ¬ es.toList.any (·.refKey) = true := by rw [a]; exact Bool.false_ne_true
    rw [if_neg a']
    exact congrArg some e
theorem ObjM.look {h : Heap} {x dx C : Addr} {mA : Str → Option Value} (I : ObjM h x dx C mA) : ∃ od, PySem.W.InstAt h x (PySem.W.instObj C dx) C (some od) ∧ ∀ name, PySem.W.lookIn name od = some (mA name) :=
  let ⟨od, ho, hl⟩ := tD I.ns
  ⟨od, ⟨I.obj, rfl, rfl, ho⟩, hl⟩
section
variable {prog : Program} {w : World} {A : Around} {E : Value → Shared → Prop} {s : Shared} {K : PySem.W.Frag} {x dx C f : Addr} {mA : Str → Option Value} {name : Str} {v : Value}
theorem wj {expr : Bool} {Q : Value → Shared → Prop} (X : K.In s.heap) (I : ObjM s.heap x dx C mA) (hg : PySem.W.plainGet K C name = true) (hh : PySem.W.hasDictIn K C = true)
    (ha : PySem.W.findIn K (.ref C) name = some none) (hv : mA name = some v) (hv' : PySem.W.handedIn v = true) (h : Q v { s with toks := s.toks + 1 }) :
    wpAny (model prog w) A (getAttr (.ref x) name expr) Q E s := by
  obtain ⟨od, J, hl⟩ := I.look
  exact PySem.W.get_value X J (PySem.W.plainGet_of hg).1 (PySem.W.findObj_own hh ha rfl (by rw [hl, hv])) hv' h
theorem uG {pl : Sem Bool} {Q : Value × List Value → Shared → Prop} (X : K.In s.heap) (I : ObjM s.heap x dx C mA) (hg : PySem.W.plainGet K C name = true)
    (hf : PySem.W.findIn K (.ref C) name = some (some (.ref f))) (ht : PySem.W.isFn K (.ref f) = true) (hv : mA name = none) (h : Q (.ref f, [.ref x]) s) :
    wpAny (model prog w) A (getMethod (.ref x) name pl) Q E s := by
  obtain ⟨od, J, hl⟩ := I.look
  exact PySem.W.method_fn X J (PySem.W.plainGet_of hg).1 (PySem.W.plainGet_of hg).2 hf (beq_iff_eq.mp ht) (by show (PySem.W.lookIn name od).map (·.isSome) = some false; rw [hl, hv]; rfl) h
theorem wl {ns : List Str} {Q : Unit → Shared → Prop} (X : K.In s.heap) (I : ObjM s.heap x dx C mA)
    (hs : PySem.W.findIn K (.ref C) "__setattr__" = some (some (.builtin "object.__setattr__"))) (hp : PySem.W.plainOver K C = true) (ht : PySem.W.takerIn K C name = some none) (hh : PySem.W.hasDictIn K C = true)
    (hw : PySem.Within mA ns) (hsz : ns.length ≤ sizeLine)
    (h : ∀ h', ObjM h' x dx C (fun y => if y = name then some v else mA y) → Heap.SameBut dx s.heap h' → Q () { s with heap := h', toks := s.toks + 2 }) :
    wpAny (model prog w) A (setAttr (.ref x) name v) Q E s := by
  obtain ⟨od, J, hl⟩ := I.look
  refine PySem.W.set_plain X J hs (PySem.W.osa_open (s := { s with toks := s.toks + 1 }) (r := none) X J hp ht fun b => ?_)
  obtain ⟨cd, hc, hd'⟩ := PySem.W.any_some hh
  have hx : s.heap.get? x = some ⟨.ref C, some dx, .plain, #[]⟩ := I.obj
  refine wpAny_bind (wpAny_pure (wpAny_bind (wpAny_bind (wpAny_loadPart hx (wpAny_bind (PySem.W.Looks.here (s := { s with toks := s.toks + 1 }) (PySem.W.looks_clsIn X hc) ?_))))))
  rw [hd']
  refine wpAny_pure (a := some dx) (wpAny_bind (wpAny_pure (wpAny_bind ?_)))
  refine wpAny_nsSet1 (s := { s with toks := s.toks + 1 }) I.ns fun h' hn2 hs2 => ?_
  obtain ⟨oD, esD, epD, hoD, hdD, hcD⟩ := hn2.count (PySem.Within.cons name v hw)
  refine wpAny_bind (wpAny_lookBehind hoD (by rw [hdD]; exact pastItsLine_dict (Nat.le_trans hcD (by rw [List.length_cons]; omega))) ?_)
  exact wpAny_pure (h _ ⟨(hs2.2 _ (Ne.symm I.ne)).trans I.obj, hn2, I.ne⟩ hs2)
theorem vY {R : Result → Shared → Prop} {vs : List Value} {kw : List (Str × Value)} (X : K.In s.heap) (hm : PySem.W.makesIn K C = true)
    (hi : PySem.W.findIn K (.ref C) "__init__" = some (some (.ref f))) (hf : PySem.W.typeIn K (.ref f) = some (.type "function"))
    (h : codeAny (model prog w) (A.under (.builtin "type.__call__" ⟨.ref C :: vs, kw⟩)) (.call (.ref f) ⟨.ref (s.heap.objs.size + 1) :: vs, kw⟩) (PySem.W.InitBack (s.heap.objs.size + 1) R)
      { s with heap := (s.heap.push PySem.W.emptyDict).push (PySem.W.instObj C s.heap.objs.size) }) :
    codeAny (model prog w) A (.call (.ref C) ⟨vs, kw⟩) R s := by
  obtain ⟨hh, g, d, t, os⟩ := s
  exact PySem.W.make_core (PySem.W.makes_of X hm) (PySem.W.looks_findIn X hi) (fun self => PySem.W.bind_fn X self hf) (.inl rfl) h
end
def fL (f : Str) (v : V) : List (Str × V) → List (Str × V)
  | [] => [(f, v)]
  | (g, x) :: r => if g = f then (g, v) :: r else (g, x) :: fL f v r
theorem jC (f g : Str) (v : V) : ∀ fs : List (Str × V), (fL f v fs).lookup g = if g = f then some v else fs.lookup g
  | [] => by
    show List.lookup g [(f, v)] = _
    by_cases h : g = f
    · have hb : (g == f) = true := beq_iff_eq.mpr h
      simp only [List.lookup, hb, if_pos h]
    · have hb : (g == f) = false := beq_eq_false_iff_ne.mpr h
      simp only [List.lookup, hb, if_neg h]
  | (k, x) :: r => by
    have ih := jC f g v r
    rw [show fL f v ((k, x) :: r) = (if k = f then (k, v) :: r else (k, x) :: fL f v r) from rfl]
    by_cases hk : k = f
    · rw [if_pos hk]
      by_cases h : g = k
      · have hb : (g == k) = true := beq_iff_eq.mpr h
        simp only [List.lookup, hb, if_pos (h.trans hk)]
      · have hb : (g == k) = false := beq_eq_false_iff_ne.mpr h
        simp only [List.lookup, hb, if_neg (fun e : g = f => h (e.trans hk.symm))]
    · rw [if_neg hk]
      by_cases h : g = k
      · have hb : (g == k) = true := beq_iff_eq.mpr h
        simp only [List.lookup, hb, if_neg (fun e : g = f => hk (h.symm.trans e))]
      · have hb : (g == k) = false := beq_eq_false_iff_ne.mpr h
        simp only [List.lookup, hb]
        exact ih
theorem jd (f : Str) (v : V) : ∀ fs : List (Str × V), f ∈ (fL f v fs).map (·.1) ∧ ∀ g, g ∈ fs.map (·.1) → g ∈ (fL f v fs).map (·.1)
  | [] => ⟨by simp [fL], fun g h => by simp at h⟩
  | (k, x) :: r => by
    obtain ⟨i1, i2⟩ := jd f v r
    rw [show fL f v ((k, x) :: r) = (if k = f then (k, v) :: r else (k, x) :: fL f v r) from rfl]
    by_cases hk : k = f
    · rw [if_pos hk]
      subst hk
      exact ⟨by simp, fun g h => by simpa using h⟩
    · rw [if_neg hk]
      refine ⟨?_, fun g h => ?_⟩
      · rw [List.map_cons]
        exact List.mem_cons_of_mem _ i1
      · rw [List.map_cons] at h ⊢
        rcases List.mem_cons.mp h with e | e
        · exact List.mem_cons.mpr (.inl e)
        · exact List.mem_cons_of_mem _ (i2 g e)
theorem jD (f : Str) (v : V) : ∀ fs : List (Str × V), (fL f v fs).length ≤ fs.length + 1
  | [] => by simp [fL]
  | (k, x) :: r => by
    have ih := jD f v r
    rw [show fL f v ((k, x) :: r) = (if k = f then (k, v) :: r else (k, x) :: fL f v r) from rfl]
    by_cases hk : k = f
    · rw [if_pos hk, List.length_cons, List.length_cons]; omega
    · rw [if_neg hk, List.length_cons, List.length_cons]; omega
theorem RelO.some_of {v : V} {o : Option Value} (r : RelO (some v) o) : ∃ u, o = some u ∧ RelV v u := by
  cases o with
  | none => exact (show False from r).elim
  | some u => exact ⟨u, rfl, r⟩
theorem RelO.none_of {o : Option Value} (r : RelO none o) : o = none := by
  cases o with
  | none => rfl
  | some u => exact (show False from r).elim
theorem tu {v : V} {u : Value} (r : RelV v u) : PySem.W.handedIn u = true := by
  cases v with
  | non => cases (show u = Value.none from r); rfl
  | bl b => cases (show u = Value.bool b from r); rfl
  | int i => obtain ⟨t, e⟩ := (show ∃ t, u = Value.int i t from r); cases e; rfl
  | str x => obtain ⟨t, e⟩ := (show ∃ t, u = Value.str x t from r); cases e; rfl
  | byt b => obtain ⟨t, e⟩ := (show ∃ t, u = Value.bytes b t from r); cases e; rfl
  | flt b => obtain ⟨t, e⟩ := (show ∃ t, u = Value.float b t from r); cases e; rfl
  | ref a => cases (show u = Value.ref a from r); rfl
  | ty n => cases (show u = Value.type n from r); rfl
section
variable {P : Program} {w : World} {H H' : Hp} {h h' : Heap} {a C dx : Addr} {fs fs' : List (Str × V)}
theorem j4 (hok : HOk P w H h) (e : H a = some (.ins C dx fs)) : ∃ mA, ObjM h a dx C mA ∧ (∀ f, RelO (fs.lookup f) (mA f)) ∧ PySem.Within mA (fs.map (·.1)) ∧ fs.length ≤ 1000 ∧ H dx = some (.own a) := by
  obtain ⟨d, z, ne, ob, mA, n, r, q⟩ := (show ObjOk P w H h a (.ins C dx fs) from hok a _ e)
  exact ⟨mA, ⟨ob, n, ne⟩, r, q, z, d⟩
end
structure Cls (K : PySem.W.Frag) (C : Addr) : Prop where
  pg : PySem.W.plainGet K C Str.empty = true
  hd : PySem.W.hasDictIn K C = true
  po : PySem.W.plainOver K C = true
  sa : PySem.W.findIn K (.ref C) "__setattr__" = some (some (.builtin "object.__setattr__"))
theorem Cls.get {K : PySem.W.Frag} {C : Addr} (c : Cls K C) (f : Str) : PySem.W.plainGet K C f = true := c.pg
def NoAttr (K : PySem.W.Frag) (C : Addr) (f : Str) : Prop := PySem.W.findIn K (.ref C) f = some none
theorem NoAttr.taker {K : PySem.W.Frag} {C : Addr} {f : Str} (n : NoAttr K C f) : PySem.W.takerIn K C f = some none := by
  unfold PySem.W.takerIn
  rw [show PySem.W.findIn K (.ref C) f = some none from n]
  rfl
structure lE (K : PySem.W.Frag) (C : Addr) (m : Str) (f : Addr) : Prop where
  at_ : PySem.W.findIn K (.ref C) m = some (some (.ref f))
  fn : PySem.W.isFn K (.ref f) = true
  kp : PySem.W.keepIn K (.ref f) = true
section
variable {X : Cx} {pins : List (Addr × Obj)} {σ : St} {H : Hp} {s : Shared} {a C dx : Addr} {fs : List (Str × V)} {f : Str} {v : V} {A : Around} {E : Value → Shared → Prop}
theorem qJ {b : Bool} {Q : Value → Shared → Prop} (I : Inv X pins σ H s) (e : H a = some (.ins C dx fs)) (c : Cls X.K C) (n : NoAttr X.K C f) (l : fs.lookup f = some v)
    (h : ∀ u s', Inv X pins σ H s' → RelV v u → Q u s') : wpAny (model X.prog X.w) A (getAttr (.ref a) f b) Q E s := by
  obtain ⟨mA, O, r, _, _, _⟩ := j4 I.hok e
  obtain ⟨u, hu, ru⟩ := RelO.some_of (v := v) (o := mA f) (by rw [← l]; exact r f)
  exact wj I.kIn O (c.get f) c.hd n hu (tu ru) (h u _ (I.tok _) ru)
theorem kJ {m : Str} {g : Addr} {pl : Sem Bool} {Q : Value × List Value → Shared → Prop} (I : Inv X pins σ H s) (e : H a = some (.ins C dx fs)) (c : Cls X.K C) (k : lE X.K C m g) (l : fs.lookup m = none)
    (h : Q (.ref g, [.ref a]) s) : wpAny (model X.prog X.w) A (getMethod (.ref a) m pl) Q E s := by
  obtain ⟨mA, O, r, _, _, _⟩ := j4 I.hok e
  have hn : mA m = none := RelO.none_of (by rw [← l]; exact r m)
  exact uG I.kIn O (c.get m) k.at_ k.fn hn h
theorem qx {y : V} {u : Value} {Q : Unit → Shared → Prop} (I : Inv X pins σ H s) (e : H a = some (.ins C dx fs)) (c : Cls X.K C) (n : NoAttr X.K C f) (hl : fs.length < 1000) (ry : RelV y u)
    (h : ∀ s', Inv X pins σ (upd H a (.ins C dx (fL f y fs))) s' → Q () s') : wpAny (model X.prog X.w) A (setAttr (.ref a) f u) Q E s := by
  obtain ⟨mA, O, r, wi, _, ho⟩ := j4 I.hok e
  have hz : (fs.map (·.1)).length ≤ sizeLine := by rw [List.length_map, sizeLine_eq]; omega
  refine wl I.kIn O c.sa c.po n.taker c.hd wi hz fun h' O' sb => h _ ?_
  have hd : ∃ o, h'.get? dx = some o := let ⟨o, _, _, e', _⟩ := O'.ns; ⟨o, e'⟩
  refine I.write (x := a) (e := dx) (by rw [e]; exact True.intro) (.inr ho) (fun b q hb z => (sb.2 b hb).trans z) hd ?_
  refine ⟨by rw [af O.ne]; exact ho, ?_, O.ne, O'.obj, _, O'.ns, fun g => ?_, fun g hg => ?_⟩
  · have := jD f y fs; omega
  · show RelO ((fL f y fs).lookup g) (if g = f then some u else mA g)
    rw [jC]
    by_cases q : g = f
    · rw [if_pos q, if_pos q]; exact ry
    · rw [if_neg q, if_neg q]; exact r g
  · by_cases q : g = f
    · rw [q]; exact (jd f y fs).1
    · refine (jd f y fs).2 g (wi g fun z => hg ?_)
      show (if g = f then some u else mA g) = none
      rw [if_neg q]; exact z
theorem Inv.made (I : Inv X pins σ H s) : Inv X pins σ (upd (upd H s.heap.objs.size (.own (s.heap.objs.size + 1))) (s.heap.objs.size + 1) (.ins C s.heap.objs.size []))
    { s with heap := (s.heap.push PySem.W.emptyDict).push (PySem.W.instObj C s.heap.objs.size) } := by
  have e1 : (s.heap.push PySem.W.emptyDict).get? s.heap.objs.size = some PySem.W.emptyDict := Heap.get?_push_size s.heap rfl
  have e2 : ((s.heap.push PySem.W.emptyDict).push (PySem.W.instObj C s.heap.objs.size)).get? (s.heap.objs.size + 1) = some (PySem.W.instObj C s.heap.objs.size) := by
    have := Heap.get?_push_size (s.heap.push PySem.W.emptyDict) (o := PySem.W.instObj C s.heap.objs.size) rfl
    rwa [Heap.size_push] at this
  have e3 : (s.heap.push PySem.W.emptyDict).Ns s.heap.objs.size (fun _ => none) := ⟨PySem.W.emptyDict, #[], _, e1, rfl, (fun e he => absurd he (by simp)), fun _ => rfl⟩
  have I1 := I.laid (a := s.heap.objs.size) (o := .own (s.heap.objs.size + 1)) (h' := s.heap.push PySem.W.emptyDict) (t' := s.toks) (fun b u q => Heap.get?_push_of_some _ q) (Nat.le_refl _) ⟨_, e1⟩
  refine I1.laid (a := s.heap.objs.size + 1) (o := .ins C s.heap.objs.size []) (t' := s.toks) (fun b u q => Heap.get?_push_of_some _ q) (Nat.le_of_eq (Heap.size_push _ _)) ?_
  have ne : s.heap.objs.size ≠ s.heap.objs.size + 1 := Nat.ne_of_lt (Nat.lt_succ_self _)
  refine ⟨by rw [af ne, ac], Nat.zero_le _, ne, e2, fun _ => none, (Heap.Ns1.of_empty e3).at fun o q => Heap.get?_push_of_some _ q, fun _ => True.intro, fun y hy => absurd rfl hy⟩
theorem xn {prog : Program} {w : World} {env : Env} {e : Expr} {f : Str} {pos : Pos} {s : Shared} {Q : Value → Shared → Prop} (hb : attributeBase e f env (eval e env) = eval e env)
    (h : wpAny (model prog w) A (eval e env) (fun o s₁ => wpAny (model prog w) A (getAttr o f true) Q E s₁) E s) : wpAny (model prog w) A (eval (.Attribute e f pos) env) Q E s :=
  Attribute_any_ h (by rw [arm_eval_Attribute, hb])
end
section
variable {X : Cx} {o e value : Expr} {f : Str} {pos pos' tpos : Pos} {ta tv : TE}
end
section
variable {X : Cx} {pins : List (Addr × Obj)} {σ : St} {H : Hp} {s : Shared} {A : Around} {E : Value → Shared → Prop} {Q : Value → Shared → Prop} {c : Value} {b : Bool}
inductive iw (K : PySem.W.Frag) (H : Hp) : V → Value → Prop where
  | non : iw K H .non (.type "NoneType")
  | bl (x : Bool) : iw K H (.bl x) (.type "bool")
  | int (i : Int) : iw K H (.int i) (.type "int")
  | str (x : Str) : iw K H (.str x) (.type "str")
  | flt (x : UInt64) : iw K H (.flt x) (.type "float")
  | lst {a : Addr} {xs : List V} (e : H a = some (.lst xs)) : iw K H (.ref a) (.type "list")
  | frz {a : Addr} {o : Obj} {xs : List V} (e : H a = some (.frz o (.lst xs))) : iw K H (.ref a) (.type "list")
  | tup {a : Addr} {xs : List V} (e : H a = some (.tup xs)) : iw K H (.ref a) (.type "tuple")
  | dK {a : Addr} {kvs : List (Key × V)} (e : H a = some (.dK kvs)) : iw K H (.ref a) (.type "dict")
  | dT {a : Addr} {kvs : List (List Key × V)} (e : H a = some (.dT kvs)) : iw K H (.ref a) (.type "dict")
  | ins {a C dx : Addr} {fs : List (Str × V)} (e : H a = some (.ins C dx fs)) (cl : Cls K C) (ha : PySem.W.findIn K (.ref C) "__class__" = some (some (.builtin "object.__class__")))
      (hn : PySem.W.specialIn K (.builtin "object.__class__") "__get__" = some (some (.builtin "getset_descriptor.__get__"))) (htk : PySem.W.takesIn K (.builtin "object.__class__") = some true)
      (hm : PySem.W.mroIn K C (.type "object") = some true) : iw K H (.ref a) (.ref C)
theorem tQ {x : V} {u t : Value} (I : Inv X pins σ H s) (rx : RelV x u) (ty : iw X.K H x t) (e : PySem.W.kitOne X.K t c = some b) (h : ∀ tk, Q (.bool b) { s with toks := tk }) :
    wpAny (model X.prog X.w) A (call (.builtin "isinstance") [u, c]) Q E s := by
  cases ty with
  | non => cases (show u = Value.none from rx); exact PySem.W.kia_one PySem.W.kitx_none I.kIn True.intro e (fun z => nomatch z) h
  | bl y => cases (show u = Value.bool y from rx); exact PySem.W.kia_one PySem.W.kitx_bool I.kIn True.intro e (fun z => nomatch z) h
  | int i => obtain ⟨t, q⟩ := (show ∃ t, u = Value.int i t from rx); cases q; exact PySem.W.kia_one PySem.W.kitx_int I.kIn True.intro e (fun z => nomatch z) h
  | str y => obtain ⟨t, q⟩ := (show ∃ t, u = Value.str y t from rx); cases q; exact PySem.W.kia_one PySem.W.kitx_str I.kIn True.intro e (fun z => nomatch z) h
  | flt y => obtain ⟨t, q⟩ := (show ∃ t, u = Value.float y t from rx); cases q; exact PySem.W.kia_one PySem.W.kitx_float I.kIn True.intro e (fun z => nomatch z) h
  | @lst a xs ea =>
    cases (show u = Value.ref a from rx)
    obtain ⟨_, _, n, _, h1⟩ := (show ObjOk X.prog X.w H s.heap a (.lst xs) from I.hok a _ ea)
    exact PySem.W.kia_one PySem.W.kitx_list I.kIn ⟨_, h1, rfl⟩ e (fun z => nomatch z) h
  | @frz a ob xs ea =>
    cases (show u = Value.ref a from rx)
    obtain ⟨_, _, _, n, _, h1⟩ := (show ObjOk X.prog X.w H s.heap a (.frz ob (.lst xs)) from I.hok a _ ea)
    exact PySem.W.kia_one PySem.W.kitx_list I.kIn ⟨_, h1, rfl⟩ e (fun z => nomatch z) h
  | @tup a xs ea =>
    cases (show u = Value.ref a from rx)
    obtain ⟨_, _, _, p⟩ := (show ObjOk X.prog X.w H s.heap a (.tup xs) from I.hok a _ ea)
    obtain ⟨o, h1, h2, _⟩ := p
    exact PySem.W.kia_one PySem.W.kitx_tuple I.kIn ⟨o, h1, h2⟩ e (fun z => nomatch z) h
  | @dK a kvs ea =>
    cases (show u = Value.ref a from rx)
    obtain ⟨_, _, vs, _, p⟩ := (show ObjOk X.prog X.w H s.heap a (.dK kvs) from I.hok a _ ea)
    obtain ⟨o, es, ep, h1, h2, _⟩ := p
    exact PySem.W.kia_one PySem.W.kitx_dict I.kIn ⟨o, h1, h2.1⟩ e (fun z => nomatch z) h
  | @dT a kvs ea =>
    cases (show u = Value.ref a from rx)
    obtain ⟨_, _, xs, _, o, es, ep, h1, h2, _⟩ := (show ObjOk X.prog X.w H s.heap a (.dT kvs) from I.hok a _ ea)
    exact PySem.W.kia_one PySem.W.kitx_dict I.kIn ⟨o, h1, h2.1⟩ e (fun z => nomatch z) h
  | @ins a C dx fs ea cl ha hn htk hm =>
    cases (show u = Value.ref a from rx)
    obtain ⟨mA, O, _⟩ := j4 I.hok ea
    obtain ⟨od, J, _⟩ := O.look
    exact PySem.W.kia_one (PySem.W.kitx_own (cl.get _) cl.hd ha hn htk hm) I.kIn J e (fun z => nomatch z) h
end
end L2
namespace L2
open PySem PySem.Spec PyProof.Rows
structure Room (k : Nat) (A : Around) : Prop where
  hd : A.handled = none
  dp : A.depth + 3 * k + 5 < recursionLimit
  un : A.units + 16 * k + 200 < cLine
theorem Room.mono {j k : Nat} {A : Around} (r : Room k A) (h : j ≤ k) : Room j A := ⟨r.hd, by have := r.dp; omega, by have := r.un; omega⟩
theorem Room.deeper {k : Nat} {A : Around} (r : Room (k + 1) A) (env : Env) : Room k (A.deeper env) :=
  ⟨r.hd, by have := r.dp; show A.depth + 1 + 3 * k + 5 < _; omega, by have := r.un; show A.units + 3 + 16 * k + 200 < _; omega⟩
theorem qb {A : Around} {C : Addr} {us : List Value} {kw : List (Str × Value)} : (A.under (.builtin "type.__call__" ⟨.ref C :: us, kw⟩)).depth = A.depth + 1 := by
  first | rfl | simp [Around.under, Code.weight, Code.isCreation, Code.isGuard, Code.isCaller, Code.frames, Code.isFrame, guardIds]
theorem qL {A : Around} {C : Addr} {us : List Value} {kw : List (Str × Value)} : (A.under (.builtin "type.__call__" ⟨.ref C :: us, kw⟩)).units = A.units + 1 := by
  first | rfl | simp [Around.under, Code.cUnits, Code.frames, Code.isFrame]
theorem Room.make {k : Nat} {A : Around} (r : Room (k + 1) A) (C : Addr) (us : List Value) (kw : List (Str × Value)) : Room k (A.under (.builtin "type.__call__" ⟨.ref C :: us, kw⟩)) :=
  ⟨r.hd, by have := r.dp; rw [qb]; omega, by have := r.un; rw [qL]; omega⟩
theorem Room.depth {k : Nat} {A : Around} (r : Room k A) : A.depth < recursionLimit := by have := r.dp; omega
def tZ : TA := fun _ H Q => Q [] H
def vQ (ta : TE) (tr : TA) : TA := fun σ H Q => ta σ H fun x H1 => tr σ H1 fun xs H2 => Q (x :: xs) H2
section
variable {X : Cx} {e : Expr} {es : List Expr} {te : TE} {t : TA} {pos : Pos}
theorem zL : PA X [] tZ := fun _ _ _ _ H Q I h => Calls.spliced_nil ⟨[], H, I, .nil, h⟩
theorem wW (ha : PE X e te) (hr : PA X es t) (hs : starEach (e :: es) X.env = (false, eval e X.env) :: starEach es X.env := by rfl) : PA X (e :: es) (vQ te t) := by
  intro pos pins s σ H Q I h
  rw [hs]
  show wpAny _ _ (spliced ((false, eval e X.env) :: backTo pos (starEach es X.env))) _ _ s
  refine Calls.spliced_cons (thn (ha pins s σ H _ I h) fun u s1 ⟨x, H1, I1, r1, q1⟩ => ?_)
  exact thn (hr pos pins s1 σ H1 _ I1 q1) fun us s2 ⟨xs, H2, I2, r2, q2⟩ => ⟨x :: xs, H2, I2, .cons r1 r2, q2⟩
def AN (t : TA) : TE := fun σ H Q => t σ H fun xs H1 => xs.length ≤ sizeLine ∧ ∀ p, H1 p = none → Q (.ref p) (upd H1 p (.tup xs))
def AL (t : TA) : TE := fun σ H Q => t σ H fun xs H1 => xs.length ≤ sizeLine ∧ ∀ p, H1 p = none → Q (.ref p) (upd H1 p (.lst xs))
theorem b8 {x1} (h : PA X es t) : PE X (.Tuple es x1 pos) (AN t) := by
  intro pins s σ H Q I hq
  refine wpAny_Tuple_spliced (thn (h pos pins s σ H _ I hq) fun us s1 ⟨xs, H1, I1, r, z, q⟩ => ⟨by rw [← r.length]; exact z, ?_⟩)
  have hf : H1 s1.heap.objs.size = none := I1.hok.fresh (Nat.le_refl _)
  refine ⟨.ref s1.heap.objs.size, upd H1 s1.heap.objs.size (.tup xs), I1.laid (t' := s1.toks) (fun b u e => Heap.get?_push_of_some _ e) (Nat.le_refl _) ?_, rfl, q _ hf⟩
  exact ⟨z, us, r, ⟨_, Heap.get?_push_size _ rfl, rfl, _, rfl⟩⟩
theorem bY (h : PA X es t) : PE X (.List es pos) (AL t) := by
  intro pins s σ H Q I hq
  refine wpAny_List_spliced (thn (h pos pins s σ H _ I hq) fun us s1 ⟨xs, H1, I1, r, z, q⟩ => ⟨by rw [← r.length]; exact z, ?_⟩)
  have hf : H1 s1.heap.objs.size = none := I1.hok.fresh (Nat.le_refl _)
  refine ⟨.ref s1.heap.objs.size, upd H1 s1.heap.objs.size (.lst xs), I1.laid (t' := s1.toks) (fun b u e => Heap.get?_push_of_some _ e) (Nat.le_refl _) ?_, rfl, q _ hf⟩
  exact ⟨z, us, 0, r, Heap.get?_push_size _ rfl⟩
end
abbrev Sp := List V → Hp → VK → XK → Prop
abbrev CXT := List Env → Hp → Shared → XK → Value → Shared → Prop
structure Env0 (P : Program) (w : World) (K : PySem.W.Frag) (mg : Str → Option Value) (base : Heap) (A : Around) (outer : List Env) (s : Shared) (H : Hp) : Prop where
  frames : A.frames = some outer
  mod : Mod K mg base
  bs : ∀ b o, base.get? b = some o → s.heap.get? b = some o ∧ H b = none
  bsz : base.objs.size ≤ s.heap.objs.size
  funs : s.heap.FunFrames base outer
  frf : ∀ b ∈ frs outer, H b = none
  hok : HOk P w H s.heap
  bare : AllBare s.gens
def CE (outer : List Env) (P : Program) (w : World) (H : Hp) (s : Shared) (Q : VK) (u : Value) (s' : Shared) : Prop :=
  ∃ v H', s'.os = s.os ∧ AllBare s'.gens ∧ Un (frs outer) [] H H' s.heap s'.heap ∧ HOk P w H' s'.heap ∧ RelV v u ∧ Q v H'
def CR (CX : CXT) (outer : List Env) (P : Program) (w : World) (H : Hp) (s : Shared) (Q : VK) (E : XK) (r : Result) (s' : Shared) : Prop :=
  match r with
  | .ok (.ret u) => CE outer P w H s Q u s'
  | .ok _ => False
  | .error e => CX outer H s E e s'
structure cz (P : Program) (w : World) (K : PySem.W.Frag) (mg : Str → Option Value) (base : Heap) (CX : CXT) (k : Nat) (f : Addr) (fd : FuncData) (ps : List Str) (sp : Sp) : Prop where
  len : ∀ vs H Q E, sp vs H Q E → vs.length = ps.length
  run : ∀ (A : Around) (outer : List Env) (s : Shared) (H : Hp) (args : Args) (us : List Value) (vs : List V) (Q : VK) (E : XK), Room k A → Env0 P w K mg base A outer s H → BindsTo s fd args (ps.zip us) → Vals vs us → sp vs H Q E →
    codeAny (model P w) A (.call (.ref f) args) (CR CX outer P w H s Q E) s
theorem Env0.make {P : Program} {w : World} {K : PySem.W.Frag} {mg : Str → Option Value} {base : Heap} {A : Around} {outer : List Env} {s : Shared} {H : Hp} (e : Env0 P w K mg base A outer s H) (C : Addr) (us : List Value) (kw : List (Str × Value)) :
    Env0 P w K mg base (A.under (.builtin "type.__call__" ⟨.ref C :: us, kw⟩)) outer s H := ⟨by first | exact e.frames | (simpa [Around.under, Code.envs, Code.isFrame, pushEnvs] using e.frames), e.mod, e.bs, e.bsz, e.funs, e.frf, e.hok, e.bare⟩
section
variable {X : Cx} {pins : List (Addr × Obj)} {σ : St} {H : Hp} {s s' : Shared}
theorem Inv.env0 (I : Inv X pins σ H s) : Env0 X.prog X.w X.K X.mg X.base X.A X.stack s H :=
  ⟨I.ok.frames, I.ok.mod, I.bs, Nat.le_trans I.ok.bsz I.sz, I.stack, I.stkFree, I.hok, I.bare⟩
theorem Inv.after {Q : VK} {u : Value} (I : Inv X pins σ H s) (h : CE X.stack X.prog X.w H s Q u s') : EP X pins σ Q u s' := by
  obtain ⟨v, H', os, bare, un, hok, r, q⟩ := h
  obtain ⟨hh, g, d, t, os'⟩ := s'
  obtain rfl : os' = s.os := os
  exact ⟨v, H', I.call (h' := hh) (g' := g) (d' := d) (t' := t) (ch := []) un hok bare (fun b z => absurd z (by simp)), r, q⟩
end
def Binds (K : PySem.W.Frag) (fd : FuncData) (ps : List Str) (ds : List Value) : Prop :=
  ∀ (s : Shared) (us : List Value), K.In s.heap → (us ++ ds).length = ps.length → BindsTo s fd ⟨us, []⟩ (ps.zip (us ++ ds))
theorem Binds.all {K : PySem.W.Frag} {fd : FuncData} {ps : List Str} (h : ∀ us : List Value, us.length = ps.length → bindArgs fd ⟨us, []⟩ = pure (ps.zip us)) : Binds K fd ps [] := fun s us _ hl => by
  rw [List.append_nil] at hl ⊢
  exact .of_eq (h us hl)
section
variable {X : Cx} {CX : CXT} {k : Nat} {f C : Addr} {fd : FuncData} {ps : List Str} {sp : Sp} {dvs : List V} {ds : List Value} {E : XK} {x m : Str} {p pos apos : Pos} {e o : Expr} {es : List Expr} {ta : TE} {t : TA}
structure Mk (K : PySem.W.Frag) (C f : Addr) : Prop where
  makes : PySem.W.makesIn K C = true
  init : PySem.W.findIn K (.ref C) "__init__" = some (some (.ref f))
  fn : PySem.W.isFn K (.ref f) = true
  kp : PySem.W.keepIn K (.ref C) = true
end
section
variable {X : Cx} {CX : CXT} {k : Nat} {f C : Addr} {fd : FuncData} {ps ks : List Str} {sp : Sp} {E : XK} {x m : Str} {p pos apos kpos : Pos} {e o : Expr} {es : List Expr} {kws : List Keyword} {te ta : TE} {t tk : TA} {nm : Option Str}
variable {g : List Value → List Value → List Value} {gV : List V → List V → List V}
end
structure aF (N P : List Str) (sc : Scope) : Prop where
  kind : sc.kind = .function
  co : sc.isCoroutine = false
  gen : sc.isGenerator = false
  nd : N.Nodup
  pre : N.take P.length = P
  par : ∀ x ∈ P, sc.names.lookup x = some .local ∨ sc.names.lookup x = some .cell
  nofree : ∀ y ∈ sc.names, y.2 ≠ .free
theorem mH {kindOf : Str → Option NameKind} {x : Str} : ∀ {binds : List (Str × Value)} {m : Str → Option Value}, (∀ v, (x, v) ∉ binds) → bindL kindOf binds m x = m x
  | [], _, _ => rfl
  | (n, v) :: r, m, h => by
    unfold bindL
    rw [mH fun w hw => h w (List.mem_cons_of_mem _ hw)]
    split
    · have : x ≠ n := by rintro rfl; exact h v List.mem_cons_self
      simp [this]
    · rfl
theorem mZ {kindOf : Str → Option NameKind} {x : Str} : ∀ {binds : List (Str × Value)} {m : Str → Option Value}, (∀ v, (x, v) ∉ binds) → bindC kindOf binds m x = m x
  | [], _, _ => rfl
  | (n, v) :: r, m, h => by
    unfold bindC
    rw [mZ fun w hw => h w (List.mem_cons_of_mem _ hw)]
    split
    · rfl
    · have : x ≠ n := by rintro rfl; exact h v List.mem_cons_self
      simp [this]
theorem md {kindOf : Str → Option NameKind} {x : Str} {v : Value} : ∀ {P : List Str} {vs : List Value} {i : Nat} {m : Str → Option Value}, P.Nodup → P[i]? = some x → vs[i]? = some v → kindOf x = some .local →
    bindL kindOf (P.zip vs) m x = some v
  | [], _, _, _, _, h, _, _ => by simp at h
  | _ :: _, [], _, _, _, _, h, _ => by simp at h
  | p :: P, w :: vs, 0, m, nd, h1, h2, hk => by
    simp at h1 h2; subst h1; subst h2
    show bindL kindOf ((p, w) :: P.zip vs) m p = _
    unfold bindL
    rw [mH fun v hv => (List.nodup_cons.mp nd).1 (List.of_mem_zip hv).1, if_pos hk]
    simp
  | p :: P, w :: vs, i + 1, m, nd, h1, h2, hk => by
    show bindL kindOf ((p, w) :: P.zip vs) m x = _
    unfold bindL
    exact md (i := i) (List.nodup_cons.mp nd).2 (by simpa using h1) (by simpa using h2) hk
theorem mE {kindOf : Str → Option NameKind} {x : Str} {v : Value} : ∀ {P : List Str} {vs : List Value} {i : Nat} {m : Str → Option Value}, P.Nodup → P[i]? = some x → vs[i]? = some v → kindOf x ≠ some .local →
    bindC kindOf (P.zip vs) m x = some v
  | [], _, _, _, _, h, _, _ => by simp at h
  | _ :: _, [], _, _, _, _, h, _ => by simp at h
  | p :: P, w :: vs, 0, m, nd, h1, h2, hk => by
    simp at h1 h2; subst h1; subst h2
    show bindC kindOf ((p, w) :: P.zip vs) m p = _
    unfold bindC
    rw [mZ fun v hv => (List.nodup_cons.mp nd).1 (List.of_mem_zip hv).1, if_neg hk]
    simp
  | p :: P, w :: vs, i + 1, m, nd, h1, h2, hk => by
    show bindC kindOf ((p, w) :: P.zip vs) m x = _
    unfold bindC
    exact mE (i := i) (List.nodup_cons.mp nd).2 (by simpa using h1) (by simpa using h2) hk
def d8 (N : List Str) (vs : List V) : St := vs.map some ++ List.replicate (N.length - vs.length) none
def bZ (CX : CXT) (P : Program) (w : World) (K : PySem.W.Frag) (mg : Str → Option Value) (base : Heap) (N : List Str) (qual : Str) (scope : Scope) (f : Addr) (cd : Value) (A : Around) (outer : List Env) (s : Shared) (H : Hp) (E : XK) : Cx where
  prog := P
  w := w
  K := K
  mg := mg
  base := base
  A := A.deeper (envOfC qual scope s.heap.objs.size f cd)
  N := N
  s₀ := s
  H₀ := H
  env := envOfC qual scope s.heap.objs.size f cd
  outer := outer
  stack := envOfC qual scope s.heap.objs.size f cd :: outer
  ex := []
  calm := true
  fn := fun _ => true
  pn := []
  xe := fun e s' => wpAny (model P w) (A.deeper (envOfC qual scope s.heap.objs.size f cd)) (leaving (envOfC qual scope s.heap.objs.size f cd) e) (fun _ s'' => CX outer H s E e s'') (fun e' s'' => CX outer H s E e' s'') s'
theorem pU {sc : Scope} {n : Nat} {x : Str} (h : sc.names.lookup x = some .cell) : ∃ c, (cellsFrom n sc.names []).lookup x = some c := by
  have q := PySem.W.cellsFrom_some sc.names n [] (.inl h)
  exact Option.isSome_iff_exists.mp q
theorem mj {CX : CXT} {P : Program} {w : World} {K : PySem.W.Frag} {mg : Str → Option Value} {base : Heap} {N ps : List Str} {qual : Str} {scope : Scope} {f : Addr} {cd : Value} {A : Around} {outer : List Env} {s s1 : Shared} {H : Hp} {E : XK} {us : List Value} {vs : List V}
    (S : aF N ps scope) (hd : A.handled = none) (e0 : Env0 P w K mg base A outer s H) (hl : vs.length = ps.length) (r : Vals vs us)
    (x : InCallC s s.heap.objs.size (bindL (envOfC qual scope s.heap.objs.size f cd).kindOf (ps.zip us) fun _ => none) (cellsFrom (s.heap.objs.size + 1) scope.names []) (bindC (envOfC qual scope s.heap.objs.size f cd).kindOf (ps.zip us) fun _ => none) s1) :
    Inv (bZ CX P w K mg base N qual scope f cd A outer s H E) [] (d8 N vs) H s1 := by
  have hpl : ps.length ≤ N.length := by have := congrArg List.length S.pre; rw [List.length_take] at this; omega
  obtain ⟨h1, tk, rfl, hk⟩ := x.done
  have noA : ∀ b : Addr, b ∉ (bZ CX P w K mg base N qual scope f cd A outer s H E).ex := fun b z => absurd (show b ∈ ([] : List Addr) from z) (by simp)
  refine ⟨⟨e0.mod, S.kind, rfl, rfl, Nat.le_refl _, fun y z c h1 h2 => ?_, fun y hy => ?_, fun y c _ h => ?_, fun _ => hd, Around.frames_deeper e0.frames, .inr ⟨rfl, rfl⟩, fun b z => absurd z (noA b), e0.bs, e0.bsz, fun b _ _ => noA b, fun b z => absurd z (noA b), e0.funs, e0.frf⟩,
    rfl, e0.bare, Un.kept hk, ⟨_, x.toInCall.ns, fun i y v h1 h2 h3 => ?_⟩, fun y c h => ⟨_, x.cell y c h⟩, e0.hok.fresh (Nat.le_refl _), fun y c h => ?_, fun p hp => absurd (show p ∈ ([] : List (Addr × Obj)) from hp) (by simp), e0.hok.kept hk, ?_⟩
  · exact name_of_addr x.apart (PySem.mem_of_lookup h1) (PySem.mem_of_lookup h2)
  · have hy : scope.names.lookup y = some .cell ∨ scope.names.lookup y = some .free := hy
    rcases hy with hy | hy
    · exact pU hy
    · exact absurd rfl (S.nofree _ (PySem.mem_of_lookup hy))
  · exact Nat.le_of_lt (x.above y c (PySem.mem_of_lookup h))
  · have hi : i < vs.length := by
      unfold d8 at h2
      by_cases hi : i < vs.length
      · exact hi
      · rw [List.getElem?_append_right (by simpa using hi)] at h2
        rw [List.getElem?_replicate] at h2
        split at h2 <;> cases h2
    have ha : vs[i]? = some v := by
      unfold d8 at h2
      rw [List.getElem?_append_left (by simpa using hi), List.getElem?_map] at h2
      cases e : vs[i]? with
      | none => rw [e] at h2; cases h2
      | some a => rw [e] at h2; cases h2; rfl
    obtain ⟨u, hu, rv⟩ := r.get ha
    have hp : ps[i]? = some y := by
      rw [← S.pre, List.getElem?_take_of_lt (by omega)]; exact h1
    have ndP : ps.Nodup := by rw [← S.pre]; exact S.nd.sublist (List.take_sublist _ _)
    refine ⟨u, rv, ?_⟩
    rcases S.par y (List.mem_of_getElem? hp) with k | k
    · exact .inl ⟨k, md ndP hp hu k⟩
    · obtain ⟨c, e⟩ := pU (n := s.heap.objs.size + 1) k
      refine .inr ⟨.inl k, c, e, ?_⟩
      have q := x.cell y c e
      rw [mE ndP hp hu (by show scope.names.lookup y ≠ _; rw [k]; decide)] at q
      exact q
  · exact e0.hok.fresh (Nat.le_of_lt (x.above y c (PySem.mem_of_lookup h)))
  · unfold d8
    show _ = N.length
    rw [List.length_append, List.length_map, List.length_replicate]
    omega
theorem AO {CX : CXT} {P : Program} {w : World} {K : PySem.W.Frag} {mg : Str → Option Value} {base : Heap} {k : Nat} {f : Addr} {name qual : Str} {params : Arguments} {body : List Stmt} {scope : Scope} {dV kV doc pm cdv ct oc : Value} {an od : Option Addr}
    {osl : Array (Option Value)} {N ps : List Str} {sp : Sp} (lk : K.lookup f = some ⟨oc, od, .func (PySem.W.fnOf name qual params body scope dV kV doc pm an cdv ct), osl⟩) (hcd : PySem.W.codeIn K cdv qual = true) (S : aF N ps scope)
    (len : ∀ vs H Q E, sp vs H Q E → vs.length = ps.length)
    (hbody : ∀ (A : Around) (outer : List Env) (s : Shared) (H : Hp) (vs : List V) (Q : VK) (E : XK), Room k (A.deeper (envOfC qual scope s.heap.objs.size f cdv)) → sp vs H Q E →
      ∃ t, PSs (bZ CX P w K mg base N qual scope f cdv A outer s H E) body t ∧ t { nx := fun _ H' => Q .non H', rt := Q } (d8 N vs) H) :
    cz P w K mg base CX (k + 1) f (PySem.W.fnOf name qual params body scope dV kV doc pm an cdv ct) ps sp := by
  refine ⟨len, fun A outer s H args us vs Q E hr e0 hb r hsp => ?_⟩
  have hl := len _ _ _ _ hsp
  have KX : K.In s.heap := e0.mod.kin.keeps fun b o e => (e0.bs b o e).1
  have lim : s.heap.NoLimit := e0.mod.nolimit.keeps fun b o e => (e0.bs b o e).1
  have hkind : ∀ y ∈ ps.zip us, scope.names.lookup y.1 = some .local ∨ (scope.names.lookup y.1 = some .cell ∧ ((cellsFrom (s.heap.objs.size + 1) scope.names []).lookup y.1).isSome = true) := fun ⟨n, v⟩ hy => by
    rcases S.par n (List.of_mem_zip hy).1 with q | q
    · exact .inl q
    · exact .inr ⟨q, PySem.W.cellsFrom_some _ _ _ (.inl q)⟩
  refine codeAny_call_function hr.depth (KX _ _ lk) rfl S.co S.gen rfl (PySem.W.codeRec_of KX hcd) (hb _ _ _ _ ?_)
  refine wpAny_newFunctionEnv_cells S.kind hkind fun env he s1 x => ?_
  subst he
  refine ⟨lim.keeps x.toInCall.keep, codeAny_func ?_⟩
  obtain ⟨t, ht, hq⟩ := hbody A outer s H vs Q E (hr.deeper _) hsp
  have I : Inv (bZ CX P w K mg base N qual scope f cdv A outer s H E) [] (d8 N vs) H s1 := mj S hr.hd e0 hl r x
  refine wpAny_mono (ht [] s1 (d8 N vs) H _ I hq) (fun fl s' hs => ?_) fun e s' hs => hs
  have fin : ∀ {σ' : St} {H' : Hp} {v : V} {u : Value}, Inv (bZ CX P w K mg base N qual scope f cdv A outer s H E) [] σ' H' s' → RelV v u → Q v H' → CE outer P w H s Q u s' :=
    fun {σ' H' v u} J rv q => ⟨v, H', J.os, J.bare, J.base, J.hok, rv, q⟩
  cases fl with
  | ret u =>
    obtain ⟨v, σ', H', J, rv, q⟩ := hs
    exact fin J rv q
  | next =>
    obtain ⟨σ', H', J, q⟩ := hs
    exact fin (v := V.non) (u := Value.none) J rfl q
  | brk =>
    obtain ⟨_, _, _, q⟩ := hs
    exact False.elim q
  | cont =>
    obtain ⟨_, _, _, q⟩ := hs
    exact False.elim q
end L2
namespace L2
open PySem PySem.Spec PyProof.Rows
section
variable {X : Cx} {x : Str} {p pos : Pos} {e : Expr} {es : List Expr} {t : TA} {id T : String} {r : List V → Hp → VK → Prop}
def tCB (r : List V → Hp → VK → Prop) (t : TA) : TE := fun σ H Q => t σ H fun vs H1 => r vs H1 Q
theorem aA (hc : CallR X (.builtin id) r) (hg : Gl X x) (hm : X.mg x = none) (hv : bootBuiltins x = some (.builtin id)) (ha : PA X (e :: es) t) (hn : x ≠ "__name__" := by decide) (hdb : (x == ("__debug__" : Str)) = false := by decide)
    (he : starEach (e :: es) X.env = (false, eval e X.env) :: starEach es X.env := by rfl) (hpl : (backTo pos (starEach es X.env)).any (·.1) = false := by rfl) : PE X (.Call (.Name x p) (e :: es) [] pos) (tCB r t) := by
  intro pins s σ H Q I h
  refine wpAny_Call_Name_kw (lA I hg hm hv ?_ hn hdb)
  exact PyProof.Rows.callWith_builtin1 (thn (ha pos pins s σ H _ I h) fun us s1 ⟨vs, H1, I1, r1, q1⟩ => hc pins s1 σ H1 vs us Q I1 r1 q1) he hpl
theorem ji (hc : CallR X (.type T) r) (hg : Gl X x) (hm : X.mg x = none) (hv : bootBuiltins x = some (.type T)) (ha : PA X (e :: es) t) (hn : x ≠ "__name__" := by decide) (hdb : (x == ("__debug__" : Str)) = false := by decide)
    (he : starEach (e :: es) X.env = (false, eval e X.env) :: starEach es X.env := by rfl) (hpl : (backTo pos (starEach es X.env)).any (·.1) = false := by rfl) : PE X (.Call (.Name x p) (e :: es) [] pos) (tCB r t) := by
  intro pins s σ H Q I h
  refine wpAny_Call_Name_kw (lA I hg hm hv ?_ hn hdb)
  exact PyProof.Rows.callWith_type1 (thn (ha pos pins s σ H _ I h) fun us s1 ⟨vs, H1, I1, r1, q1⟩ => hc pins s1 σ H1 vs us Q I1 r1 q1) he hpl
end
end L2
namespace HT
open PySem PyProof.Rows
section
open PySem.SeqAt
open PySem.AutoSeq1 (wpAny_loadPart')
open PySem.MeetsSeq PySem.MeetsSeq2 PySem.MeetsSeq3
end
section
variable {prog : Program} {w : World} {A : Around} {E : Value → Shared → Prop} {s : Shared}
def sIx (n d : Nat) : Option Int → Nat
  | none => d
  | some v => if v < 0 then (v + (n : Int)).toNat else min v.toNat n
theorem sIx_none (n d : Nat) : sIx n d none = d := rfl
theorem sIx_nat (n d k : Nat) : sIx n d (some (k : Int)) = min k n := by
  show (if (k : Int) < 0 then ((k : Int) + (n : Int)).toNat else min (k : Int).toNat n) = min k n
  rw [if_neg (by omega), Int.toNat_natCast]
theorem yk (n d : Nat) (hd : d ≤ n) (o : Option Int) : sIx n d o ≤ n := by
  cases o with
  | none => exact hd
  | some v =>
    show (if v < 0 then (v + (n : Int)).toNat else min v.toNat n) ≤ n
    by_cases hv : v < 0
    · rw [if_pos hv]; omega
    · rw [if_neg hv]; exact Nat.min_le_right _ _
theorem sJ (v : Int) (n d : Nat) : (if v < 0 then max (v + (n : Int)) 0 else min v (n : Int)) = ((sIx n d (some v) : Nat) : Int) := by
  show (if v < 0 then max (v + (n : Int)) 0 else min v (n : Int)) = (((if v < 0 then (v + (n : Int)).toNat else min v.toNat n) : Nat) : Int)
  by_cases hv : v < 0
  · simp only [if_pos hv]; omega
  · simp only [if_neg hv]; omega
theorem qQ (lo hi : Option Int) (n : Nat) : Builtin.Slice.sliceAdjust lo hi 1 (n : Int) = (((sIx n 0 lo : Nat) : Int), ((sIx n n hi : Nat) : Int)) := by
  have h1 : ¬ ((1 : Int) < 0) := by omega
  unfold Builtin.Slice.sliceAdjust
  simp only [h1, if_false]
  refine Prod.ext ?_ ?_
  · cases lo with
    | none => rfl
    | some v => exact sJ v n 0
  · cases hi with
    | none => rfl
    | some v => exact sJ v n n
theorem qy (i j : Nat) : Builtin.Slice.slicePlaces (i : Int) (j : Int) 1 = j - i := by
  unfold Builtin.Slice.slicePlaces
  have h1 : (1 : Int) > 0 := by omega
  simp only [h1, if_true, Int.ediv_one]
  split <;> omega
theorem kF {v : Value} {o : Option Int} {Q : Option Int → Shared → Prop} (p : IsPart v o) (h : Q o s) : wpAny (model prog w) A (Builtin.Slice.slicePartIndex v) Q E s := by
  cases p with
  | none => exact slicePart_none h
  | int i t => exact slicePart_int h
theorem jh {sl : Addr} {vl vu : Value} {lo hi : Option Int} {n : Nat} {Q : Int × Int × Nat → Shared → Prop} (hs : s.heap.IsSliceOf sl vl vu .none) (pl : IsPart vl lo) (pu : IsPart vu hi)
    (h : Q (((sIx n 0 lo : Nat) : Int), 1, sIx n n hi - sIx n 0 lo) s) : wpAny (model prog w) A (Builtin.Slice.sliceApplied (.ref sl) (pure (n : Int))) Q E s := by
  obtain ⟨os, hos, hcs, hds⟩ := id hs
  unfold Builtin.Slice.sliceApplied Builtin.Slice.sliceFields
  refine wpAny_bind (wpAny_bind (wpAny_field hos hds (x := vl) rfl (wpAny_bind (wpAny_field hos hds (x := vu) rfl (wpAny_bind (wpAny_field hos hds (x := .none) rfl (wpAny_pure ?_)))))))
  refine wpAny_bind (slicePart_none ?_)
  show wpAny _ _ (if ((1 : Int) == 0) = true then _ else _) _ _ s
  rw [if_neg (by decide)]
  refine wpAny_bind (kF pl (wpAny_bind (kF pu (wpAny_bind (wpAny_pure ?_)))))
  show wpAny _ _ (match Builtin.Slice.sliceAdjust lo hi 1 (n : Int) with | (lo, hi) => pure (lo, (1 : Int), Builtin.Slice.slicePlaces lo hi 1)) _ _ s
  rw [qQ lo hi n]
  show wpAny _ _ (pure (((sIx n 0 lo : Nat) : Int), (1 : Int), Builtin.Slice.slicePlaces ((sIx n 0 lo : Nat) : Int) ((sIx n n hi : Nat) : Int) 1)) _ _ s
  rw [qy]
  exact wpAny_pure h
theorem vK (xs : Array Value) (i k : Nat) : ((List.range k).filterMap fun (m : Nat) => xs[((i : Int) + (m : Int) * 1).toNat]?).toArray = ((xs.toList.drop i).take k).toArray := by
  have e : (fun (m : Nat) => xs[((i : Int) + (m : Int) * 1).toNat]?) = fun m => xs[i + m]? := by
    funext m
    have : ((i : Int) + (m : Int) * 1).toNat = i + m := by omega
    rw [this]
  rw [e]
  have := pick_run xs i k
  rw [List.filterMap_map] at this
  have e2 : ((fun x => xs[x]?) ∘ fun x => i + x) = fun m => xs[i + m]? := rfl
  rw [e2] at this
  rw [this]
theorem getItem_tuple_cut {t sl : Addr} {items : Array Value} {vl vu : Value} {lo hi : Option Int} {Q : Value → Shared → Prop} (ht : IsTup s.heap t items) (hs : s.heap.IsSliceOf sl vl vu .none) (pl : IsPart vl lo) (pu : IsPart vu hi)
    (hw : ¬ (sIx items.size 0 lo = 0 ∧ sIx items.size items.size hi = items.size))
    (h : Q (.ref s.heap.objs.size) { s with heap := s.heap.push { cls := .type "tuple", data := .seq ((items.toList.drop (sIx items.size 0 lo)).take (sIx items.size items.size hi - sIx items.size 0 lo)).toArray } })
    (hsz : items.size ≤ sizeLine) : wpAny (model prog w) A (getItem (.ref t) (.ref sl)) Q E s := by
  have htake : sizeOk (.seq ((items.toList.drop (sIx items.size 0 lo)).take (sIx items.size items.size hi - sIx items.size 0 lo)).toArray) := by
    show ((items.toList.drop (sIx items.size 0 lo)).take (sIx items.size items.size hi - sIx items.size 0 lo)).toArray.size ≤ sizeLine
    rw [List.size_toArray, List.length_take, List.length_drop, Array.length_toList]
    omega
  have hj : sIx items.size items.size hi ≤ items.size := yk _ _ (Nat.le_refl _) hi
  obtain ⟨os, hos, hcs, hds⟩ := id hs
  have hTs : s.TypeIs (.ref sl) "slice" := ⟨os, hos, hcs⟩
  unfold getItem
  try with_reducible refine wpAny_holding ?_
  first | refine wpAny_bind (wpAny_pure ?_) | skip
  refine wpAny_bind (wpAny_sequenceKey ht.typeIs (by decide) ?_)
  refine wpAny_bind (wpAny_callSpecial?_slot (name := Str.ofString "__getitem__") ht.typeIs PyProof.Rows.slot_tuple_getitem
    (wpAny_call_entry PyProof.Rows.slot_tuple_getitem ht.typeIs entry_tuple_getitem ?_ (args_tuple_getitem _ _)))
  show wpAny _ _ (Builtin.Tuple.tupleItemsOf (.ref t) >>= _) _ _ s
  refine wpAny_bind (tupleItemsOf_ ht ?_)
  refine wpAny_bind (wpAny_typeOf hTs ?_)
  rw [if_pos (by decide)]
  refine wpAny_bind (jh hs pl pu ?_)
  have hno : ¬ ((((sIx items.size 0 lo : Nat) : Int) == 0 && (1 : Int) == 1 && (sIx items.size items.size hi - sIx items.size 0 lo) == items.size) = true) := by
    intro q
    rw [Bool.and_eq_true, Bool.and_eq_true] at q
    have q1 : ((sIx items.size 0 lo : Nat) : Int) = 0 := eq_of_beq q.1.1
    have q2 : sIx items.size items.size hi - sIx items.size 0 lo = items.size := eq_of_beq q.2
    exact hw ⟨by omega, by omega⟩
  show wpAny _ _ (if (((sIx items.size 0 lo : Nat) : Int) == 0 && (1 : Int) == 1 && (sIx items.size items.size hi - sIx items.size 0 lo) == items.size) = true then _ else _) _ _ s
  rw [if_neg hno, vK]
  first
    | exact wpAny_bind (m := Builtin.Tuple.tupleExact _) (wpAny_newObj_type (wpAny_pure ⟨_, rfl, wpAny_pure h⟩) htake)
    | exact wpAny_bind (m := Builtin.Tuple.tupleExact _) (wpAny_newObj_type (wpAny_bind (wpAny_pure (wpAny_pure ⟨_, rfl, wpAny_pure h⟩))) htake)
    | exact wpAny_bind (wpAny_bind (m := Builtin.Tuple.tupleExact _) (wpAny_newObj_type (wpAny_pure (wpAny_pure ⟨_, rfl, wpAny_pure h⟩)) htake))
    | exact wpAny_bind (wpAny_bind (m := Builtin.Tuple.tupleExact _) (wpAny_newObj_type (wpAny_pure ⟨_, rfl, wpAny_pure h⟩) htake))
end
end HT
namespace L2
open PySem PySem.Spec PyProof.Rows
abbrev TO := St → Hp → (Option Int → Hp → Prop) → Prop
def PO (X : Cx) (e : Option Expr) (t : TO) : Prop :=
  ∀ (pins : List (Addr × Obj)) (s : Shared) (σ : St) (H : Hp) (Q : Option Int → Hp → Prop), Inv X pins σ H s → t σ H Q →
    wpAny (model X.prog X.w) X.A (evalPart e X.env) (fun u s' => ∃ o H', Inv X pins σ H' s' ∧ IsPart u o ∧ Q o H') X.xe s
def si : TO := fun _ H Q => Q none H
def xF (t : TE) : TO := fun σ H Q => t σ H fun x H1 => ∃ i, x = .int i ∧ Q (some i) H1
theorem qH {ns : List Int} : ∀ {us : List Value}, Vals (ns.map V.int) us → IntsAre us ns := by
  induction ns with
  | nil => intro us r; rw [List.map_nil] at r; cases r; exact .nil
  | cons n ns ih =>
    intro us r
    rw [List.map_cons] at r
    cases r with
    | cons r1 r2 =>
      obtain ⟨t, e⟩ := r1
      subst e
      exact .cons n t (ih r2)
section
variable {X : Cx} {e : Expr} {te : TE} {lo hi : Option Expr} {tl th : TO} {pos p2 : Pos}
theorem rY : PO X none si := by
  intro pins s σ H Q I h
  rw [evalPart_none]
  exact wpAny_pure ⟨none, H, I, .none, h⟩
theorem r6 (h : PE X e te) : PO X (some e) (xF te) := by
  intro pins s σ H Q I hw
  rw [evalPart_some]
  refine thn (h pins s σ H _ I hw) fun u s1 ⟨x, H1, I1, r1, q1⟩ => ?_
  obtain ⟨i, rfl, q⟩ := q1
  obtain ⟨t, rfl⟩ := r1
  exact ⟨some i, H1, I1, .int i t, q⟩
def SlR (X : Cx) (r : V → Option Int → Option Int → Hp → VK → Prop) : Prop :=
  ∀ (pins : List (Addr × Obj)) (s : Shared) (σ : St) (H : Hp) (x : V) (v vl vu : Value) (lo hi : Option Int) (sl : Addr) (Q : VK), Inv X pins σ H s → RelV x v → s.heap.IsSliceOf sl vl vu .none → IsPart vl lo → IsPart vu hi → r x lo hi H Q →
    ∃ T id, typeLookup (.type T) "__getitem__" = pure (some (.builtin id)) ∧ s.TypeIs v T ∧ wpAny (model X.prog X.w) X.A (getItem v (.ref sl)) (EP X pins σ Q) X.xe s
def tSl (r : V → Option Int → Option Int → Hp → VK → Prop) (te : TE) (tl th : TO) : TE := fun σ H Q => te σ H fun x H1 => tl σ H1 fun l H2 => th σ H2 fun u H3 => r x l u H3 Q
theorem pI {r : V → Option Int → Option Int → Hp → VK → Prop} (hr : SlR X r) (he : PE X e te) (hl : PO X lo tl) (hu : PO X hi th) : PE X (.Subscript e (.Slice lo hi none p2) pos) (tSl r te tl th) := by
  intro pins s σ H Q I h
  refine Subscript_ (thn (he pins s σ H _ I h) fun v s1 ⟨x, H1, I1, r1, q1⟩ => ?_)
  refine wpAny_Slice (thn (hl pins s1 σ H1 _ I1 q1) fun vl s2 ⟨l, H2, I2, pl, q2⟩ => thn (hu pins s2 σ H2 _ I2 q2) fun vu s3 ⟨u, H3, I3, pu, q3⟩ => ?_)
  rw [evalPart_none]
  refine wpAny_pure ?_
  have I4 : Inv X pins σ H3 { s3 with heap := s3.heap.push { cls := .type "slice", data := .fields #[vl, vu, .none] } } := I3.kept (t' := s3.toks) fun b ob q => Heap.get?_push_of_some _ q
  obtain ⟨T, id, hT, ht, hg⟩ := hr pins { s3 with heap := s3.heap.push { cls := .type "slice", data := .fields #[vl, vu, .none] } } σ H3 x v vl vu l u s3.heap.objs.size Q I4 r1 (Heap.IsSliceOf.new ..) pl pu q3
  show wpAny (model X.prog X.w) X.A (subscriptTail e (.Slice lo hi none p2) v (.ref s3.heap.objs.size)) (EP X pins σ Q) X.xe { s3 with heap := s3.heap.push { cls := .type "slice", data := .fields #[vl, vu, .none] } }
  exact tail_any (ops := [.ref s3.heap.objs.size, v]) ht hT hg (by with_unfolding_all rfl)
def pR (xs : List V) (lo hi : Option Int) : List V := (xs.drop (HT.sIx xs.length 0 lo)).take (HT.sIx xs.length xs.length hi - HT.sIx xs.length 0 lo)
theorem jz (xs : List V) (lo hi : Option Int) : (pR xs lo hi).length ≤ xs.length := by
  unfold pR
  rw [List.length_take, List.length_drop]
  omega
def AQ (K : PySem.W.Frag) : V → Option Int → Option Int → Hp → VK → Prop := fun x lo hi H Q => ∃ a xs, x = .ref a ∧ SqT K H a xs ∧
  ¬ (HT.sIx xs.length 0 lo = 0 ∧ HT.sIx xs.length xs.length hi = xs.length) ∧ ∀ p, H p = none → Q (.ref p) (upd H p (.tup (pR xs lo hi)))
theorem yV : SlR X (AQ X.K) := by
  intro pins s σ H x v vl vu lo hi sl Q I rx hs pl pu h
  obtain ⟨a, xs, rfl, hx, hw, q⟩ := h
  cases rx
  obtain ⟨its, r, ht, hz⟩ := I.tuple hx
  have hlen : its.toArray.size = xs.length := by rw [List.size_toArray]; exact r.length.symm
  refine ⟨"tuple", _, PyProof.Rows.slot_tuple_getitem.lookup, ht.typeIs, ?_⟩
  refine HT.getItem_tuple_cut ht hs pl pu (by rw [hlen]; exact hw) ?_ (by rw [hlen]; exact hz)
  rw [hlen]
  refine ⟨.ref s.heap.objs.size, _, I.laid (t' := s.toks) (o := .tup (pR xs lo hi)) (fun b ob q => Heap.get?_push_of_some _ q) (Nat.le_refl _) ?_, rfl, q _ (I.hok.fresh (Nat.le_refl _))⟩
  exact ⟨Nat.le_trans (jz xs lo hi) hz, _, (r.drop (HT.sIx xs.length 0 lo)).take (HT.sIx xs.length xs.length hi - HT.sIx xs.length 0 lo), IsTup.new _ _⟩
end
end L2
namespace L2
open PySem PySem.Spec PyProof.Rows
def ixN (n : Nat) (i : Int) : Option Nat := if 0 ≤ i then (if i < n then some i.toNat else none) else if -(n : Int) ≤ i then some (i + n).toNat else none
def atI {α : Type} (xs : List α) (i : Int) : Option α := (ixN xs.length i).bind fun j => xs[j]?
theorem rC {n : Nat} {i : Int} {j : Nat} (h : ixN n i = some j) : seqIndex? i n = some j ∧ j < n ∧ -(n : Int) ≤ i ∧ i < n := by
  unfold ixN at h
  by_cases h0 : 0 ≤ i
  · rw [if_pos h0] at h
    by_cases h1 : i < n
    · rw [if_pos h1] at h
      have e : i.toNat = j := Option.some.inj h
      exact ⟨by rw [seqIndex_of h0 h1, e], by omega, by omega, h1⟩
    · rw [if_neg h1] at h; cases h
  · rw [if_neg h0] at h
    by_cases h1 : -(n : Int) ≤ i
    · rw [if_pos h1] at h
      have e : (i + n).toNat = j := Option.some.inj h
      exact ⟨by rw [seqIndex_neg (by omega) h1, e], by omega, h1, by omega⟩
    · rw [if_neg h1] at h; cases h
theorem nX {α : Type} {xs : List α} {i : Int} {v : α} (h : atI xs i = some v) : ∃ j, seqIndex? i xs.length = some j ∧ xs[j]? = some v ∧ j < xs.length ∧ -(xs.length : Int) ≤ i ∧ i < xs.length := by
  unfold atI at h
  cases e : ixN xs.length i with
  | none => rw [e] at h; cases h
  | some j =>
    rw [e] at h
    obtain ⟨h1, h2, h3, h4⟩ := rC e
    exact ⟨j, h1, h, h2, h3, h4⟩
theorem aB {α : Type} {xs : List α} {j : Nat} {v : α} (h : xs[j]? = some v) : atI xs (j : Int) = some v := by
  have hj : j < xs.length := (List.getElem?_eq_some_iff.mp h).1
  have e : ixN xs.length (j : Int) = some j := by
    unfold ixN
    rw [if_pos (by omega), if_pos (by omega)]; simp
  unfold atI; rw [e]; exact h
theorem uM {α : Type} (xs : List α) (v : α) : atI (xs ++ [v]) (-1) = some v := by
  have hl : (xs ++ [v]).length = xs.length + 1 := by simp
  have e : ixN (xs ++ [v]).length (-1) = some xs.length := by
    unfold ixN
    rw [hl, if_neg (by decide), if_pos (by omega)]
    congr 1
    omega
  unfold atI
  rw [e]
  show (xs ++ [v])[xs.length]? = some v
  simp
def wK (b : Expr) : Prop := ∀ o i, subscripted b false o i = operate [o, i] (getItem o i)
def IxR (X : Cx) (r : R2) : Prop :=
  ∀ (value slice : Expr) (pins : List (Addr × Obj)) (s : Shared) (σ : St) (H : Hp) (x y : V) (v u : Value) (Q : VK), Inv X pins σ H s → RelV x v → RelV y u → r x y H Q →
    subscripted slice false v u = operate [v, u] (getItem v u) → wpAny (model X.prog X.w) X.A (subscriptTail value slice v u) (EP X pins σ Q) X.xe s
def MtR (X : Cx) (id : String) (r : V → List V → Hp → VK → Prop) : Prop :=
  ∀ (pins : List (Addr × Obj)) (s : Shared) (σ : St) (H : Hp) (x : V) (xs : List V) (v : Value) (us : List Value) (Q : VK), Inv X pins σ H s → RelV x v → Vals xs us → r x xs H Q →
    wpAny (model X.prog X.w) X.A (call (.builtin id) (v :: us)) (EP X pins σ Q) X.xe s
section
variable {X : Cx} {a b : Expr} {ta tb : TE} {pos : Pos}
theorem IxR.or {r r' : R2} (h : IxR X r) (h' : IxR X r') : IxR X (fun x y H Q => r x y H Q ∨ r' x y H Q) := by
  intro value slice pins s σ H x y v u Q I rx ry q hs
  rcases q with q | q
  · exact h value slice pins s σ H x y v u Q I rx ry q hs
  · exact h' value slice pins s σ H x y v u Q I rx ry q hs
theorem ar {r : R2} (hr : IxR X r) (ha : PE X a ta) (hb : PE X b tb) (hs : wK b) : PE X (.Subscript a b pos) (tOp r ta tb) := by
  intro pins s σ H Q I h
  exact Subscript_ (yW ha hb I h fun v u s2 x y H2 I2 rx ry q => hr a b pins s2 σ H2 x y v u Q I2 rx ry q (hs _ _))
def zZ (K : PySem.W.Frag) : R2 := fun x y H Q => ∃ p xs i v, x = .ref p ∧ y = .int i ∧ SqL K H p xs ∧ atI xs i = some v ∧ Q v H
def Al (K : PySem.W.Frag) : R2 := fun x y H Q => ∃ p xs i v, x = .ref p ∧ y = .int i ∧ SqT K H p xs ∧ atI xs i = some v ∧ Q v H
def Ay : R2 := fun x y H Q => ∃ z i c, x = .str z ∧ y = .int i ∧ z.length ≤ sizeLine ∧ atI z.cps.toList i = some c ∧ Q (.str ⟨#[c]⟩) H
theorem xg : IxR X (zZ X.K) := by
  intro value slice pins s σ H x y v u Q I rx ry h hs
  obtain ⟨p, xs, i, z, rfl, rfl, hq, he, q⟩ := h
  cases rx
  obtain ⟨t, rfl⟩ := ry
  obtain ⟨its, r, pl, hz⟩ := I.list hq
  obtain ⟨j, h1, h2, h3, h4, h5⟩ := nX he
  obtain ⟨w, ew, rw'⟩ := r.get h2
  have hl := r.length
  have hn := i_
  have fin : EP X pins σ Q w s := ⟨z, H, I, rw', q⟩
  by_cases h0 : 0 ≤ i
  · have hj : i.toNat = j := by
      rw [seqIndex_of h0 h5] at h1
      exact Option.some.inj h1
    exact item_listR pl.isList h0 (by omega) (by rw [hj]; simpa using ew) fin hs
  · have hj : (i + (its.toArray.size : Int)).toNat = j := by
      rw [seqIndex_neg (by omega) h4] at h1
      rw [List.size_toArray, ← hl]
      exact Option.some.inj h1
    exact subscriptTail_builtinR (x := w) pl.isList.typeIs slot_list_getitem.lookup
      (wpAny_getItem_list_neg (Q := fun r s' => r = w ∧ EP X pins σ Q r s') pl.isList (by omega) (by rw [List.size_toArray] <;> omega) (by omega) (by rw [hj]; simpa using ew) ⟨rfl, fin⟩) hs
theorem zN : IxR X (Al X.K) := by
  intro value slice pins s σ H x y v u Q I rx ry h hs
  obtain ⟨p, xs, i, z, rfl, rfl, hq, he, q⟩ := h
  cases rx
  obtain ⟨t, rfl⟩ := ry
  obtain ⟨its, r, pl, hz⟩ := I.tuple hq
  obtain ⟨j, h1, h2, h3, h4, h5⟩ := nX he
  obtain ⟨w, ew, rw'⟩ := r.get h2
  have hl := r.length
  have hn := i_
  have fin : EP X pins σ Q w s := ⟨z, H, I, rw', q⟩
  exact subscriptTail_builtinR (x := w) pl.typeIs slot_tuple_getitem.lookup
    (getItem_tuple (j := j) (Q := fun r s' => r = w ∧ EP X pins σ Q r s') pl (by omega) (by omega) (by rw [List.size_toArray, ← hl]; exact h1) (by simpa using ew) ⟨rfl, fin⟩) hs
theorem zM : IxR X Ay := by
  intro value slice pins s σ H x y v u Q I rx ry h hs
  obtain ⟨z, i, c, rfl, rfl, hz, he, q⟩ := h
  obtain ⟨t, rfl⟩ := rx
  obtain ⟨t', rfl⟩ := ry
  obtain ⟨j, h1, h2, h3, h4, h5⟩ := nX he
  have hl : z.cps.toList.length = z.length := by simp [Str.length]
  rw [hl] at h1 h4 h5
  have hn := i_
  exact tail_any (typeIs_str s z t) slot_str_getitem.lookup (getItem_str (c := c) (by
    have e1 : decide (i < -(2 ^ 63 : Int)) = false := decide_eq_false (by omega)
    have e2 : decide (i ≥ 2 ^ 63) = false := decide_eq_false (by omega)
    rw [e1, e2, Bool.or_false]) (by rw [h1]; simpa using h2) ⟨.str ⟨#[c]⟩, H, I.tok _, ⟨_, rfl⟩, q⟩) hs
def rIx (K : PySem.W.Frag) : R2 := fun x y H Q => zZ K x y H Q ∨ Al K x y H Q ∨ Ay x y H Q
theorem zA : IxR X (rIx X.K) := xg.or (zN.or zM)
theorem qA (its : List Value) (n j : Nat) (u : Value) : Obj.mapSeq (·.setIfInBounds j u) { cls := .type "list", data := .seq its.toArray n } = { cls := .type "list", data := .seq (its.set j u).toArray n } := by
  simp [Obj.mapSeq]
theorem Inv.lst {pins : List (Addr × Obj)} {σ : St} {H : Hp} {s : Shared} {p : Addr} {xs : List V} (I : Inv X pins σ H s) (h : H p = some (.lst xs)) :
    ∃ (its : List Value) (n : Nat), Vals xs its ∧ s.heap.get? p = some { cls := .type "list", data := .seq its.toArray n } ∧ xs.length ≤ sizeLine := by
  obtain ⟨z, its, n, r, e⟩ := I.hok p _ h
  exact ⟨its, n, r, e, z⟩
theorem Inv.lstUpd {pins : List (Addr × Obj)} {σ : St} {H : Hp} {s : Shared} {p : Addr} {xs ys : List V} {its its' : List Value} {n n' : Nat} {f : Obj → Obj} (I : Inv X pins σ H s) (h : H p = some (.lst xs))
    (ho : s.heap.get? p = some { cls := .type "list", data := .seq its.toArray n }) (hf : f { cls := .type "list", data := .seq its.toArray n } = { cls := .type "list", data := .seq its'.toArray n' }) (r : Vals ys its') (hz : ys.length ≤ sizeLine) (t : Nat) :
    Inv X pins σ (upd H p (.lst ys)) { s with heap := s.heap.update p f, toks := t } := by
  have e : (s.heap.update p f).get? p = some { cls := .type "list", data := .seq its'.toArray n' } := by
    rw [Heap.get?_update_self f ho (by rw [hf] <;> rfl), hf]
  refine I.write (x := p) (e := p) (by rw [h]; trivial) (.inl rfl) (fun b u hb q => (Heap.get?_update_other _ _ (Ne.symm hb)).trans q) ⟨_, e⟩ ?_
  exact ⟨hz, its', n', r, e⟩
def xS : V → V → V → Hp → (Hp → Prop) → Prop := fun o i v H Q => ∃ p xs k j, o = .ref p ∧ i = .int k ∧ H p = some (.lst xs) ∧ ixN xs.length k = some j ∧ Q (upd H p (.lst (xs.set j v)))
theorem uf : Au X xS := by
  intro pins s σ H o i v ov iv u Q I ro ri rv h
  obtain ⟨p, xs, k, j, rfl, rfl, hp, hj, q⟩ := h
  cases ro
  obtain ⟨t, rfl⟩ := ri
  obtain ⟨its, n, r, ho, hz⟩ := I.lst hp
  obtain ⟨h1, h2, h3, h4⟩ := rC hj
  have hl := r.length
  have hn := i_
  have I' : Inv X pins σ (upd H p (.lst (xs.set j v))) { s with heap := s.heap.update p (Obj.mapSeq (·.setIfInBounds j u)) } :=
    I.lstUpd hp ho (qA its n j u) (r.set rv j) (by rw [List.length_set]; exact hz) s.toks
  by_cases h0 : 0 ≤ k
  · have hk : k.toNat = j := by
      rw [seqIndex_of h0 h4] at h1
      exact Option.some.inj h1
    exact PySem.W.ki_setAt ho h0 (by omega) (by rw [List.size_toArray, ← hl]; exact h4) (by rw [hk]; exact ⟨_, I', q⟩)
  · have hk : (k + (its.toArray.size : Int)).toNat = j := by
      rw [seqIndex_neg (by omega) h3] at h1
      rw [List.size_toArray, ← hl]
      exact Option.some.inj h1
    exact PySem.W.ki_setBack ho (by omega) (by rw [List.size_toArray, ← hl]; exact h3) (by omega) (by rw [hk]; exact ⟨_, I', q⟩)
theorem ou (lo hi : Option Int) (n : Nat) : (sliceBounds lo hi none n).1 = ((HT.sIx n 0 lo : Nat) : Int) ∧ (sliceBounds lo hi none n).2.1 = ((HT.sIx n n hi : Nat) : Int) ∧ (sliceBounds lo hi none n).2.2 = 1 := by
  refine ⟨?_, ?_, rfl⟩
  · cases lo with
    | none => simp [sliceBounds, HT.sIx]
    | some i =>
      simp only [sliceBounds, HT.sIx, Option.getD_none, show (1 : Int) > 0 by decide, if_true]
      by_cases h : i < 0
      · simp only [h, if_true] <;> omega
      · simp only [h, if_false] <;> omega
  · cases hi with
    | none => simp [sliceBounds, HT.sIx]
    | some i =>
      simp only [sliceBounds, HT.sIx, Option.getD_none, show (1 : Int) > 0 by decide, if_true]
      by_cases h : i < 0
      · simp only [h, if_true] <;> omega
      · simp only [h, if_false] <;> omega
theorem lS (its : List Value) (lo hi : Option Int) : slicePick its.toArray lo hi none = ((its.drop (HT.sIx its.length 0 lo)).take (HT.sIx its.length its.length hi - HT.sIx its.length 0 lo)).toArray := by
  obtain ⟨h1, h2, h3⟩ := ou lo hi its.toArray.size
  unfold slicePick
  rw [h1, h2, h3]
  simp only [sliceRange_one, pick_run, List.size_toArray] <;> rfl
def Av (K : PySem.W.Frag) : V → Option Int → Option Int → Hp → VK → Prop := fun x lo hi H Q => ∃ a xs, x = .ref a ∧ SqL K H a xs ∧ ∀ p, H p = none → Q (.ref p) (upd H p (.lst (pR xs lo hi)))
theorem wH : SlR X (Av X.K) := by
  intro pins s σ H x v vl vu lo hi sl Q I rx hs pl pu h
  obtain ⟨a, xs, rfl, hx, q⟩ := h
  cases rx
  obtain ⟨its, r, ht, hz⟩ := I.list hx
  have hlen := r.length
  refine ⟨"list", _, slot_list_getitem.lookup, ht.isList.typeIs, ?_⟩
  refine wpAny_getItem_list_slice ht.isList hs pl pu .none (by simp) ?_ (by rw [List.size_toArray] <;> omega)
  rw [lS, ← hlen]
  refine ⟨.ref s.heap.objs.size, _, I.laid (t' := s.toks) (o := .lst (pR xs lo hi)) (fun b ob q => Heap.get?_push_of_some _ q) (Nat.le_refl _) ?_, rfl, q _ (I.hok.fresh (Nat.le_refl _))⟩
  exact ⟨Nat.le_trans (jz xs lo hi) hz, _, 0, (r.drop (HT.sIx xs.length 0 lo)).take (HT.sIx xs.length xs.length hi - HT.sIx xs.length 0 lo), Heap.get?_push_size _ rfl⟩
def fP : V → Bool
  | .non => true
  | .bl _ => true
  | .int _ => true
  | .str _ => true
  | _ => false
def eqV : V → V → Bool
  | .non, .non => true
  | .bl a, .bl b => a == b
  | .bl a, .int b => (if a then 1 else 0) == b
  | .int a, .bl b => a == (if b then 1 else 0)
  | .int a, .int b => a == b
  | .str a, .str b => a == b
  | _, _ => false
theorem uX {A : Around} {s : Shared} {y x : V} {u v : Value} (ry : RelV y u) (rx : RelV x v) (fy : fP y = true) (fx : fP x = true) : SeqAt.EqAt A s u v (eqV y x) := by
  cases y with
  | non =>
    cases ry
    cases x with
    | non => cases rx; exact SeqAt.EqAt.same _
    | bl b => cases rx; exact SeqAt.EqAt.none_bool b
    | int b => obtain ⟨t, rfl⟩ := rx; exact SeqAt.EqAt.none_int b t
    | str b => obtain ⟨t, rfl⟩ := rx; exact SeqAt.EqAt.none_str b t
    | _ => exact absurd (show false = true from fx) Bool.false_ne_true
  | bl a =>
    cases ry
    cases x with
    | non => cases rx; exact SeqAt.EqAt.bool_none a
    | bl b => cases rx; exact SeqAt.EqAt.bool_bool a b
    | int b => obtain ⟨t, rfl⟩ := rx; exact SeqAt.EqAt.bool_int a b t
    | str b => obtain ⟨t, rfl⟩ := rx; exact SeqAt.EqAt.bool_str a b t
    | _ => exact absurd (show false = true from fx) Bool.false_ne_true
  | int a =>
    obtain ⟨t', rfl⟩ := ry
    cases x with
    | non => cases rx; exact SeqAt.EqAt.int_none a t'
    | bl b => cases rx; exact SeqAt.EqAt.int_bool a t' b
    | int b => obtain ⟨t, rfl⟩ := rx; exact SeqAt.EqAt.int_int a t' b t
    | str b => obtain ⟨t, rfl⟩ := rx; exact SeqAt.EqAt.int_str a t' b t
    | _ => exact absurd (show false = true from fx) Bool.false_ne_true
  | str a =>
    obtain ⟨t', rfl⟩ := ry
    cases x with
    | non => cases rx; exact SeqAt.EqAt.str_none a t'
    | bl b => cases rx; exact SeqAt.EqAt.str_bool a t' b
    | int b => obtain ⟨t, rfl⟩ := rx; exact SeqAt.EqAt.str_int a t' b t
    | str b => obtain ⟨t, rfl⟩ := rx; exact SeqAt.EqAt.str_str a t' b t
    | _ => exact absurd (show false = true from fx) Bool.false_ne_true
  | _ => exact absurd (show false = true from fy) Bool.false_ne_true
theorem CallR.or {f : Value} {r r' : List V → Hp → VK → Prop} (h : CallR X f r) (h' : CallR X f r') : CallR X f (fun xs H Q => r xs H Q ∨ r' xs H Q) := by
  intro pins s σ H xs us Q I rs q
  rcases q with q | q
  · exact h pins s σ H xs us Q I rs q
  · exact h' pins s σ H xs us Q I rs q
theorem oH : CallR X (.type "list") (fun xs H Q => ∃ p ys, xs = [.ref p] ∧ (SqL X.K H p ys ∨ SqT X.K H p ys) ∧ ∀ l, H l = none → Q (.ref l) (upd H l (.lst ys))) := by
  intro pins s σ H xs us Q I r h
  obtain ⟨p, ys, rfl, hq, q⟩ := h
  obtain ⟨u, rfl, rx⟩ := gg r
  cases rx
  have fin : ∀ (its : List Value), Vals ys its → ys.length ≤ sizeLine → ∀ (h' : Heap) (c' : Nat), (∀ b o', s.heap.get? b = some o' → h'.get? b = some o') →
      h'.get? s.heap.objs.size = some { cls := .type "list", dict := none, data := .seq its.toArray c', slots := #[] } → EP X pins σ Q (.ref s.heap.objs.size) { s with heap := h' } := fun its r' hz h' c' kp e =>
    ⟨.ref s.heap.objs.size, _, I.laid (t' := s.toks) kp (Nat.le_refl _) (show ObjOk X.prog X.w _ h' _ (.lst ys) from ⟨hz, its, c', r', e⟩), rfl, q _ (I.hok.fresh (Nat.le_refl _))⟩
  rcases hq with hq | hq
  · obtain ⟨its, r', pl, hz⟩ := I.list hq
    have hlen := r'.length
    obtain ⟨o, ho, hc, n, hd⟩ := pl.isList
    exact call_list_seq p (.inl rfl) ho hc hd (fun h' c' kp e => fin its r' hz h' c' kp e) (by simp only [List.size_toArray] <;> omega)
  · obtain ⟨its, r', pl, hz⟩ := I.tuple hq
    have hlen := r'.length
    obtain ⟨o, ho, hc, n, hd⟩ := pl
    exact call_list_seq p (.inr rfl) ho hc hd (fun h' c' kp e => fin its r' hz h' c' kp e) (by simp only [List.size_toArray] <;> omega)
def tyV (K : PySem.W.Frag) (T : String) (x : V) (H : Hp) : Prop := match x with
  | .str _ => T = "str"
  | .int _ => T = "int"
  | .ref p => (T = "list" ∧ ∃ xs, SqL K H p xs) ∨ (T = "tuple" ∧ ∃ o, K.lookup p = some o ∧ o.cls = .type "tuple" ∧ o.dict = none) ∨
      (T = "dict" ∧ ((∃ kvs, H p = some (.dK kvs)) ∨ ∃ kvs, H p = some (.dT kvs))) ∨ (T = "set" ∧ ∃ S n, H p = some (.set S n))
  | _ => False
theorem yl {pins : List (Addr × Obj)} {σ : St} {H : Hp} {s : Shared} {T : String} {x : V} {v : Value} (I : Inv X pins σ H s) (r : RelV x v) (ty : tyV X.K T x H) :
    s.TypeIs v T ∧ ∀ a, v = .ref a → ∃ ob, s.heap.get? a = some ob ∧ ob.dict = none := by
  cases x with
  | str z =>
    obtain ⟨t, rfl⟩ := r
    cases (show T = "str" from ty)
    exact ⟨typeIs_str s z t, fun _ e => nomatch e⟩
  | int i =>
    obtain ⟨t, rfl⟩ := r
    cases (show T = "int" from ty)
    exact ⟨typeIs_int s i t, fun _ e => nomatch e⟩
  | ref p =>
    cases r
    rcases ty with ⟨rfl, xs, hq⟩ | ⟨rfl, o, hk, hc, hd⟩ | ⟨rfl, hk⟩ | ⟨rfl, S, n, hk⟩
    · obtain ⟨its, _, pl, _⟩ := I.list hq
      refine ⟨pl.isList.typeIs, fun a e => ?_⟩
      cases e
      obtain ⟨o, n, e, c, hd, _⟩ := pl
      exact ⟨o, e, hd⟩
    · refine ⟨⟨o, I.kIn p o hk, hc⟩, fun a e => ?_⟩
      cases e
      exact ⟨o, I.kIn _ o hk, hd⟩
    · have z : ∃ o, s.heap.get? p = some o ∧ o.ExactDict := by
        rcases hk with ⟨kvs, hk⟩ | ⟨kvs, hk⟩
        · obtain ⟨_, _, _, _, o, _, _, e, ex, _⟩ := I.hok p _ hk
          exact ⟨o, e, ex⟩
        · obtain ⟨_, _, _, _, o, _, _, e, ex, _⟩ := I.hok p _ hk
          exact ⟨o, e, ex⟩
      obtain ⟨o, e, ex⟩ := z
      refine ⟨⟨o, e, ex.1⟩, fun a e2 => ?_⟩
      cases e2
      exact ⟨o, e, ex.2.1⟩
    · obtain ⟨o, _, _, _, e, ex, _⟩ := I.hok p _ hk
      refine ⟨⟨o, e, ex.1⟩, fun a e2 => ?_⟩
      cases e2
      exact ⟨o, e, ex.2.1⟩
  | _ => exact False.elim ty
def tBM (K : PySem.W.Frag) (T : String) (r : V → List V → Hp → VK → Prop) (to : TE) (t : TA) : TE := fun σ H Q => to σ H fun x H1 => tyV K T x H1 ∧ t σ H1 fun xs H2 => r x xs H2 Q
variable {o e : Expr} {es : List Expr} {to : TE} {t : TA} {name : Str} {apos cpos : Pos} {T id : String} {r : V → List V → Hp → VK → Prop}
theorem AC (pa : PlainAttrs T) (slot : Slot T name id) (hty : typeOf (.builtin id) = pure (.type "method_descriptor")) (hm : MtR X id r) (ho : PE X o to) (ha : PA X (e :: es) t)
    (hbase : attributeBase o name X.env (eval o X.env) = eval o X.env := by rfl)
    (hfew : ((backTo cpos (starEach (e :: es) X.env)).all (fun x => !x.1) && (backToKw cpos (keywordEach [] X.env)).all (fun x => x.1.isSome)
      && decide ((e :: es).length + ([] : List Keyword).length + (if ([] : List Keyword).isEmpty then 0 else 1) < 30)) = true := by rfl)
    (hline : (apos.endLine == cpos.line) = true := by rfl) (hs : starEach (e :: es) X.env = (false, eval e X.env) :: starEach es X.env := by rfl) (hplain : (backTo cpos (starEach es X.env)).any (·.1) = false := by rfl) :
    PE X (.Call (.Attribute o name apos) (e :: es) [] cpos) (tBM X.K T r to t) := by
  intro pins s σ H Q I h
  refine wpAny_Call_method_late hbase hfew hline rfl (thn (ho pins s σ H _ I h) fun v s1 ⟨x, H1, I1, r1, ty, q1⟩ => ?_)
  obtain ⟨h1, h2⟩ := yl I1 r1 ty
  refine ⟨T, id, pa, slot, hty, h1, h2, ?_⟩
  have hA := ha cpos pins s1 σ H1 _ I1 q1
  rw [hs] at hA ⊢
  refine Calls.callWith_builtin (by show (false || (backTo cpos (starEach es X.env)).any (·.1)) = false; rw [hplain] <;> rfl) (Calls.evalArgs_plain ?_)
  exact thn hA fun us s2 ⟨vs, H2, I2, r2, q2⟩ => hm pins s2 σ H2 x vs v us Q I2 r1 r2 q2
end
end L2
namespace L2
open PySem PySem.Spec PyProof.Rows
def MtM (X : Cx) (id : String) (r : V → List V → Hp → VK → Prop) : Prop :=
  ∀ (pins : List (Addr × Obj)) (s : Shared) (σ : St) (H : Hp) (x : V) (xs : List V) (v : Value) (us : List Value) (Q : VK), Inv X pins σ H s → RelV x v → Vals xs us → r x xs H Q →
    wpAny (model X.prog X.w) X.A (call (.builtin id) (v :: us)) (EP X pins σ Q) X.xe s
theorem Vals.one : ∀ {x : V} {us : List Value}, Vals [x] us → ∃ u, us = [u] ∧ RelV x u
  | _, _, .cons r .nil => ⟨_, rfl, r⟩
section
variable {X : Cx} {pins : List (Addr × Obj)} {σ : St} {H : Hp} {s : Shared} {l b : Addr} {xs ys zs : List V}
theorem Inv.lset {its its' : List Value} {n : Nat} {f : Array Value → Array Value} {t' : Nat} (I : Inv X pins σ H s) (hH : H l = some (.lst xs))
    (e : s.heap.get? l = some { cls := .type "list", data := .seq its.toArray n }) (hf : f its.toArray = its'.toArray) (hv : Vals ys its') (hz : ys.length ≤ sizeLine) :
    Inv X pins σ (upd H l (.lst ys)) { s with heap := s.heap.update l (Obj.mapSeq f), toks := t' } := by
  have q := PySem.IsL.update e f
  rw [hf] at q
  refine I.write (x := l) (e := l) (by rw [hH]; exact trivial) (.inl rfl) (fun b' u hb hu => (Heap.get?_update_other s.heap (Obj.mapSeq f) (Ne.symm hb)).trans hu) ⟨_, q⟩ ?_
  exact ⟨hz, its', _, hv, q⟩
theorem Inv.lnew {its : List Value} {t' : Nat} (I : Inv X pins σ H s) (hv : Vals ys its) (hz : ys.length ≤ sizeLine) :
    Inv X pins σ (upd H s.heap.objs.size (.lst ys)) { s with heap := s.heap.push { cls := .type "list", data := .seq its.toArray }, toks := t' } :=
  I.laid (fun _ _ q => Heap.get?_push_of_some _ q) (Nat.le_refl _) ⟨hz, its, 0, hv, Heap.get?_push_size _ rfl⟩
theorem Inv.fresh (I : Inv X pins σ H s) : H s.heap.objs.size = none := I.hok.fresh (Nat.le_refl _)
theorem Inv.lstM (I : Inv X pins σ H s) (hH : H l = some (.lst xs)) : xs.length ≤ sizeLine ∧ ∃ (its : List Value) (n : Nat), Vals xs its ∧ xs.length = its.length ∧ s.heap.get? l = some { cls := .type "list", data := .seq its.toArray n } := by
  obtain ⟨z, its, n, r, e⟩ := I.hok l _ hH
  exact ⟨z, its, n, r, r.length, e⟩
theorem uW {n : Nat} (h : n ≤ sizeLine) : Builtin.List.listTooLong n = false := by
  unfold Builtin.List.listTooLong
  exact decide_eq_false (by omega)
end
section
variable {X : Cx}
def rG : V → List V → Hp → VK → Prop := fun x vs H Q => ∃ l xs y, x = .ref l ∧ vs = [y] ∧ H l = some (.lst xs) ∧ xs.length < sizeLine ∧ Q .non (upd H l (.lst (xs ++ [y])))
theorem fH : MtM X "list.append" rG := by
  intro pins s σ H x vs v us Q I rx rv h
  obtain ⟨l, xs, y, rfl, rfl, hH, hz, q⟩ := h
  cases rx
  obtain ⟨u, rfl, ru⟩ := rv.one
  obtain ⟨z, its, n, r, hl, e⟩ := I.lstM hH
  refine call_meets F.slot_list_append ⟨_, e, rfl⟩ F.entry_list_append (F.args_list_append_2 _ _) (PySem.list_append l its.toArray n u (by rw [List.size_toArray]; omega)) ⟨e, ?_⟩
  refine ⟨.non, _, I.lset (its' := its ++ [u]) hH e (by simp) (r.append (.cons ru .nil)) ?_, rfl, q⟩
  rw [List.length_append, List.length_singleton]
  omega
def wE : V → List V → Hp → VK → Prop := fun x vs H Q => ∃ l b xs zs, x = .ref l ∧ vs = [.ref b] ∧ H l = some (.lst xs) ∧ H b = some (.lst zs) ∧ xs.length + zs.length ≤ sizeLine ∧ Q .non (upd H l (.lst (xs ++ zs)))
theorem zS : MtM X "list.extend" wE := by
  intro pins s σ H x vs v us Q I rx rv h
  obtain ⟨l, b, xs, zs, rfl, rfl, hH, hB, hz, q⟩ := h
  cases rx
  obtain ⟨u, rfl, ru⟩ := rv.one
  cases ru
  obtain ⟨z, its, n, r, hl, e⟩ := I.lstM hH
  obtain ⟨z2, its2, n2, r2, hl2, e2⟩ := I.lstM hB
  have hsz : its.toArray.size + its2.toArray.size ≤ sizeLine := by rw [List.size_toArray, List.size_toArray]; omega
  have hlong : ¬ (!its.toArray.isEmpty && Builtin.List.listTooLong (its.toArray.size + its2.toArray.size)) = true := by
    rw [uW hsz, Bool.and_false]
    exact Bool.false_ne_true
  refine call_meets F.slot_list_extend ⟨_, e, rfl⟩ F.entry_list_extend (F.args_list_extend_2 _ _)
    (AutoSeq1.list_extend_list_list_0 l its.toArray n b its2.toArray n2 hlong (by rw [List.size_toArray]; omega) (by omega)) ⟨e, e2, ?_⟩
  refine ⟨.non, _, I.lset (its' := its ++ its2) hH e (by simp) (r.append r2) ?_, rfl, q⟩
  rw [List.length_append]
  omega
def A8 : R2 := fun x y H Q => ∃ l b xs zs, x = .ref l ∧ y = .ref b ∧ H l = some (.lst xs) ∧ H b = some (.lst zs) ∧ xs.length + zs.length ≤ sizeLine ∧ ∀ p, H p = none → Q (.ref p) (upd H p (.lst (xs ++ zs)))
theorem yA : OpR X (binaryOp .Add) A8 := by
  intro pins s σ H x y v u Q I rx ry h
  obtain ⟨l, b, xs, zs, rfl, rfl, hH, hB, hz, q⟩ := h
  cases rx
  cases ry
  obtain ⟨z, its, n, r, hl, e⟩ := I.lstM hH
  obtain ⟨z2, its2, n2, r2, hl2, e2⟩ := I.lstM hB
  refine PySem.P.add_list e e2 ?_ (by rw [List.size_toArray, List.size_toArray]; omega)
  have ea : its.toArray ++ its2.toArray = (its ++ its2).toArray := by simp
  rw [ea]
  exact ⟨.ref _, _, I.lnew (t' := s.toks) (r.append r2) (by rw [List.length_append]; omega), rfl, q _ I.fresh⟩
end
section
variable {prog : Program} {w : World} {A : Around} {E : Value → Shared → Prop} {s : Shared}
end
section
variable {X : Cx}
end
end L2
namespace Att
open PySem PySem.W PySem.Calls PyProof.Rows
theorem jO {P : Params} {h : Heap} : ∀ (ns : List Int) (vs : List Value), WellAll P h vs (ns.map WData.int) → IntsAre vs ns := by
  intro ns
  induction ns with
  | nil =>
    intro vs w
    rw [List.map_nil] at w
    cases w
    exact .nil
  | cons n ns ih =>
    intro vs w
    rw [List.map_cons] at w
    cases w with
    | cons a b =>
      cases a
      exact .cons _ _ (ih _ b)
theorem sZ {l : OpenLaw} {n : Nat} (hn : l.most = some n) {P : Params} {h : Heap} {args : List WData} {vals : List Value}
    (hpre : l.row.toRowW.claim.pre args = true) (hwl : WellAll P h vals args) :
    ∃ a vs ns, vals = [Value.ref a] ∧ args = [WData.list (ns.map WData.int)] ∧ h.get? a = some { cls := .type "list", data := .seq vs.toArray } ∧ IntsAre vs ns ∧ ns.length ≤ n := by
  have hsh : WShape.hasAll [] args [.list .int] = true := (pre_splitW hpre).1
  have hc : l.pre.holds [] { args := args } = true := (pre_splitW hpre).2
  obtain ⟨d, r, rfl, h1, h2⟩ := hasAllW_cons hsh
  obtain rfl := hasAllW_nil h2
  obtain ⟨xs, rfl, h3⟩ := hasW_list h1
  obtain ⟨ns, rfl⟩ := items_int h3
  have hlen : ns.length ≤ n := by
    unfold OpenLaw.pre at hc
    have h4 : (WTm.not (.lt (.lit (.int (n : Int))) (.len (.arg 0)))).holds [] { args := [.list (ns.map .int)] } = true := by
      have h4 := (holds_andW hc).1
      rw [hn] at h4
      exact h4
    have h5 := condW_of h4 (w_not (w_lt w_lit (w_len_list (w_arg rfl))))
    rw [List.length_map] at h5
    refine Nat.le_of_not_lt fun q => ?_
    have q' : (n : Int) < ((ns.length : Nat) : Int) := by omega
    first
      | (rw [decide_eq_true q'] at h5; exact absurd h5 (by decide))
      | (simp at h5; omega)
  cases hwl with
  | cons w1 w2 =>
    cases w2
    cases w1 with
    | list ho hall => exact ⟨_, _, ns, rfl, rfl, ho, jO ns _ hall, hlen⟩
theorem tF (l : OpenLaw) (args : List WData) : l.row.toRowW.claim.post args (.bool true) args = true :=
  postW_of (r := l.row.toRowW) (X := (true == true))
    (show WShape.has [] (.bool true) .bool = true by first | rfl | decide | simp [WShape.has, WShape.arms, WShape.armsAll])
    (show (WTm.eq .res (.lit (.bool true))).value [] { args := args, res := some (.bool true), after := args } = some (.bool (true == true)) from w_eq_bool (w_res rfl) w_lit) rfl
theorem attach_call {l : OpenLaw} {n : Nat} {q : Program} {loose : List Str} {XP : (Str → Option Value) → Heap → Prop} {YP : World → Heap → Prop} {d : DefRec}
    (hn : l.most = some n) (hdf : d.params.defaults = [])
    (call : ∀ (w : World) (s₀ s₁ : Shared) (mg mb : Str → Option Value) (fa : Addr) (o : Obj) (pm cd doc : Value) (a : Addr) (vs : List Value) (ns : List Int),
      Ground q loose [] XP w s₀ mg mb s₁.heap → YP w s₁.heap →
      s₁.heap.get? fa = some o → o.data = .func (docDef d.name d.params d.body d.scope pm cd doc) → s₁.heap.CodeRec cd d.name → mg d.name = some (.ref fa) →
      s₁.heap.get? a = some { cls := .type "list", data := .seq vs.toArray } → IntsAre vs ns → ns.length ≤ n → s₁.gens = #[] →
      codeAny (model l.prog w) callerA (.call (.ref fa) ⟨[.ref a], []⟩) (fun r s' => r = .ok (.ret (.bool true)) ∧ OldK s₁.heap s'.heap ∧ s'.os = s₁.os ∧ AllBare s'.gens) s₁) :
    WalkO q loose XP YP l.row.toRowW d [] (fun f vs => PySem.call f vs) := by
  intro w s₀ s₁ mg mb G Y fa o pm cd doc dV kV ho hd hcd hD hmg hg args vals as hpre hlay hrd hwl hlo
  obtain rfl : dV = .none := Dflts.none hD hdf
  obtain rfl : kV = .none := Dflts.noKw hD
  obtain ⟨a, vs, ns, rfl, rfl, hobj, hints, hlen⟩ := sZ hn hpre hwl
  refine enter_call (codeAny_mono (call w s₀ s₁ mg mb fa o pm cd doc a vs ns G Y ho (fd_plain hd) hcd hmg hobj hints hlen hg) fun r s' hq => ?_)
  obtain ⟨rfl, h2, h3, h4⟩ := hq
  exact ⟨.inl ⟨.bool true, .bool true, [], rfl, fun _ => rfl, .bool true, tF l _, fun _ => ⟨List.Pairwise.nil, fun _ hm => (nomatch hm)⟩⟩, h2, h3, h4⟩
section
variable {prog : Program} {w : World} {A : Around} {E : Value → Shared → Prop} {s : Shared} {K : Frag}
end
end Att
namespace L2
open PySem PySem.Spec PyProof.Rows
theorem mL : ∀ {vs : List Value} {ns : List Int}, IntsAre vs ns → Vals (ns.map V.int) vs
  | _, _, .nil => .nil
  | _, _, .cons n t h => .cons ⟨t, rfl⟩ (mL h)
def uv (H : Hp) : Prop := ∀ b, H b = none ∨ ∃ o xs, H b = some (.frz o (.lst xs))
theorem uy {P : Program} {w : World} {K : PySem.W.Frag} {mg mb : Str → Option Value} {CX : CXT} {k : Nat} {fa a : Addr} {fd : FuncData} {x : Str} {sp : Sp} {s₁ : Shared} {vs : List Value} {ns : List Int}
    (KX : K.In s₁.heap) (hns : s₁.heap.Ns mainGlobals mg) (hb : s₁.heap.Ns builtinsNs mb) (hbb : ∀ x : Str, x ≠ "__name__" → mb x = bootBuiltins x) (hlim : s₁.heap.NoLimit) (hg : s₁.gens = #[])
    (ha : s₁.heap.get? a = some { cls := .type "list", data := .seq vs.toArray }) (hi : IntsAre vs ns) (hl : ns.length ≤ sizeLine) (hr : Room k callerA)
    (F : ∀ base : Heap, K.In base → base.Ns mainGlobals mg → cz P w K mg base CX k fa fd [x] sp) (hbind : ∀ (s : Shared) (u : Value), BindsTo s fd ⟨[u], []⟩ [(x, u)])
    (hsp : ∀ H : Hp, uv H → SqL K H a (ns.map V.int) → sp [.ref a] H (fun v _ => v = .bl true) fun _ _ _ => False)
    (hCX : ∀ H e s', CX [] H s₁ (fun _ _ _ => False) e s' → False) :
    codeAny (model P w) callerA (.call (.ref fa) ⟨[.ref a], []⟩) (fun r s' => r = .ok (.ret (.bool true)) ∧ OldK s₁.heap s'.heap ∧ s'.os = s₁.os ∧ AllBare s'.gens) s₁ := by
  have rv := mL hi
  have lenV := hi.length
  have core : ∀ H : Hp, uv H → SqL K H a (ns.map V.int) → HOk P w H s₁.heap → (∀ b, H b ≠ none → b = a) → (H a ≠ none → K.lookup a = none) →
      codeAny (model P w) callerA (.call (.ref fa) ⟨[.ref a], []⟩) (fun r s' => r = .ok (.ret (.bool true)) ∧ OldK s₁.heap s'.heap ∧ s'.os = s₁.os ∧ AllBare s'.gens) s₁ := by
    intro H hO hS hok hA hK
    have base_of : ∀ {b : Addr} {o : Obj}, s₁.heap.get? b = some o → H b = none → (oK s₁.heap H).get? b = some o := fun e n => vO e n
    have noA : ∀ {b : Addr} {o : Obj} {es : Array DictEntry} {ep : Nat}, s₁.heap.get? b = some o → o.data = .dict es ep → H b = none := fun {b o es ep} e d => by
      cases q : H b with
      | none => rfl
      | some u =>
        have e' : b = a := hA b (by rw [q]; simp)
        subst e'
        rw [ha] at e; cases e
        have d' : Data.seq vs.toArray _ = Data.dict es ep := d
        cases d'
    have nsK : ∀ {b : Addr} {m : Str → Option Value}, s₁.heap.Ns b m → (oK s₁.heap H).Ns b m := fun {b m} ⟨o, es, ep, e, d, r⟩ => ⟨o, es, ep, base_of e (noA e d), d, r⟩
    have hKb : K.In (oK s₁.heap H) := fun b o e => base_of (KX b o e) (by
      cases q : H b with
      | none => rfl
      | some u =>
        have e' : b = a := hA b (by rw [q]; simp)
        subst e'
        rw [hK (by rw [q]; simp)] at e; cases e)
    have hM : Mod K mg (oK s₁.heap H) := ⟨hKb, nsK hns, ⟨mb, nsK hb, hbb⟩, let ⟨mc, h1, h2⟩ := hlim; ⟨mc, nsK h1, h2⟩⟩
    have e0 : Env0 P w K mg (oK s₁.heap H) callerA [] s₁ H := ⟨rfl, hM, fun b o e => wQ e, Nat.le_of_eq (tB _ _), trivial, fun b hb => absurd (show b ∈ ([] : List Addr) from hb) (by simp), hok, .of_eq hg⟩
    refine codeAny_mono ((F _ hKb (nsK hns)).run callerA [] s₁ H ⟨[.ref a], []⟩ [.ref a] [.ref a] _ _ hr e0 (hbind s₁ (.ref a)) (.cons rfl .nil) (hsp H hO hS)) fun r s' h => ?_
    cases r with
    | error e => exact (hCX H e s' h).elim
    | ok fl =>
      cases fl with
      | next => exact False.elim h
      | brk => exact False.elim h
      | cont => exact False.elim h
      | ret u =>
        obtain ⟨v, H', os, bare, un, hok', r', q⟩ := h
        have q' : v = .bl true := q
        subst q'
        obtain rfl : u = Value.bool true := r'
        refine ⟨rfl, OldK.of_keep fun b o e => ?_, os, bare⟩
        cases q : H b with
        | none => exact un.keep b o e q (by intro z; exact absurd (show b ∈ ([] : List Addr) from z) (by simp)) (by simp)
        | some u =>
          rcases hO b with z | ⟨ob, xs, z⟩
          · rw [q] at z; cases z
          · have z2 := un.frzs b ob _ z
            obtain ⟨e1, _⟩ := hok b _ z
            obtain ⟨e2, _⟩ := hok' b _ z2
            rw [e] at e1; cases e1
            exact e2
  cases hk : K.lookup a with
  | some o =>
    have e := KX a o hk
    rw [ha] at e
    cases e
    refine core (fun _ => none) (fun _ => .inl rfl) (.inr ⟨_, vs.toArray, _, hk, rfl, rfl, rfl, by rw [List.size_toArray, lenV]; exact hl, by simpa using rv⟩) (fun b u z => by have z' : (none : Option HO) = some u := z; cases z') (fun b z => absurd rfl z) fun z => absurd rfl z
  | none =>
    refine core (fun b => if b = a then some (.frz { cls := .type "list", data := .seq vs.toArray } (.lst (ns.map V.int))) else none) (fun b => ?_) (.inl (.inr ⟨{ cls := .type "list", data := .seq vs.toArray }, if_pos rfl⟩)) (fun b u z => ?_) (fun b z => ?_) fun _ => hk
    · by_cases hb : b = a
      · exact .inr ⟨_, _, if_pos hb⟩
      · exact .inl (if_neg hb)
    · by_cases hb : b = a
      · have z' := (if_pos hb).symm.trans z
        cases z'
        subst hb
        exact ⟨ha, by rw [List.length_map]; exact hl, vs, _, rv, ha⟩
      · have z' := (if_neg hb).symm.trans z
        cases z'
    · by_cases hb : b = a
      · exact hb
      · exact absurd (if_neg hb) z
end L2
namespace L2
open PySem PySem.Spec PyProof.Rows
theorem wx {l : PySem.W.OpenLaw} {n k : Nat} {q : Program} {loose : List Str} {XP : (Str → Option Value) → Heap → Prop} {YP : World → Heap → Prop} {d : DefRec} {K : Params → PySem.W.Frag} {CX : World → CXT} {sp : World → Sp} {x : Str}
    (hn : l.most = some n) (hn2 : n ≤ sizeLine) (hdf : d.params.defaults = []) (hr : Room k callerA)
    (hY : ∀ (w : World) (h : Heap), YP w h → (K w.params).In h)
    (F : ∀ (w : World) (mg : Str → Option Value) (fa : Addr) (h : Heap), (K w.params).In h → h.Ns mainGlobals mg → mg d.name = some (.ref fa) →
      ∃ fd : FuncData, (∀ (s : Shared) (u : Value), BindsTo s fd ⟨[u], []⟩ [(x, u)]) ∧
        ∀ base : Heap, (K w.params).In base → base.Ns mainGlobals mg → cz l.prog w (K w.params) mg base (CX w) k fa fd [x] (sp w))
    (hsp : ∀ (w : World) (H : Hp) (a : Addr) (ns : List Int), ns.length ≤ n → uv H → SqL (K w.params) H a (ns.map V.int) → sp w [.ref a] H (fun v _ => v = .bl true) fun _ _ _ => False)
    (hCX : ∀ (w : World) (H : Hp) (s : Shared) (e : Value) (s' : Shared), CX w [] H s (fun _ _ _ => False) e s' → False) :
    PySem.W.WalkO q loose XP YP l.row.toRowW d [] (fun f vs => PySem.call f vs) := by
  refine Att.attach_call hn hdf fun w s₀ s₁ mg mb fa o pm cd doc a vs ns G Y ho hd hcd hmg hobj hints hlen hg => ?_
  have KX := hY w _ Y
  obtain ⟨fd, hb, hF⟩ := F w mg fa _ KX G.T.g hmg
  exact uy KX G.T.g G.T.b G.T.builtins G.T.nolimit hg hobj hints (Nat.le_trans hlen hn2) hr hF hb (fun H hO hS => hsp w H a ns hlen hO hS) fun H e s' => hCX w H s₁ e s'
end L2
namespace L2
open PySem PySem.Spec PyProof.Rows
abbrev CX0 : CXT := fun _ _ _ _ _ _ => False
structure Fun (K : PySem.W.Frag) (x qual : Str) (st : Stmt) (f : Addr) (fd : FuncData) : Prop where
  ex : ∃ (oc : Value) (od : Option Addr) (kV doc pm : Value) (an : Option Addr) (cdv ct : Value) (osl : Array (Option Value)),
    fd = PySem.W.fnOf x qual (aH st) (aw st) (ad st) .none kV doc pm an cdv ct ∧ K.lookup f = some ⟨oc, od, .func fd, osl⟩ ∧ PySem.W.codeIn K cdv qual = true
  kp : PySem.W.keepIn K (.ref f) = true
section
variable {P : Program} {w : World} {K : PySem.W.Frag} {mg : Str → Option Value} {base : Heap}
theorem Fun.binds {x qual : Str} {st : Stmt} {f : Addr} {fd : FuncData} {ps : List Str} (F : Fun K x qual st f fd)
    (h : ∀ (kV doc pm : Value) (an : Option Addr) (cdv ct : Value) (us : List Value), us.length = ps.length → bindArgs (PySem.W.fnOf x qual (aH st) (aw st) (ad st) .none kV doc pm an cdv ct) ⟨us, []⟩ = pure (ps.zip us)) : Binds K fd ps [] := by
  obtain ⟨oc, od, kV, doc, pm, an, cdv, ct, osl, rfl, lk, hcd⟩ := F.ex
  exact .all (h kV doc pm an cdv ct)
theorem bC {x qual : Str} {st : Stmt} {f : Addr} {oc : Value} {od an : Option Addr} {osl : Array (Option Value)} {kV doc pm cdv ct : Value} (l : K.lookup f = some ⟨oc, od, .func (PySem.W.fnOf x qual (aH st) (aw st) (ad st) .none kV doc pm an cdv ct), osl⟩)
    (c : PySem.W.codeIn K cdv qual = true) (k : PySem.W.keepIn K (.ref f) = true) : Fun K x qual st f (PySem.W.fnOf x qual (aH st) (aw st) (ad st) .none kV doc pm an cdv ct) := ⟨⟨oc, od, kV, doc, pm, an, cdv, ct, osl, rfl, l, c⟩, k⟩
end
section
variable {X : Cx}
end
theorem ur {A B : Prop} (h : B) : if false = true then A else B := by
  rw [if_neg Bool.false_ne_true]
  exact h
theorem y_ {A B : Prop} (h : A) : if true = true then A else B := by
  rw [if_pos rfl]
  exact h
def Same (H H' : Hp) : Prop := ∀ b o, H b = some o → H' b = some o
theorem Same.refl (H : Hp) : Same H H := fun _ _ h => h
theorem Same.trans {H H1 H2 : Hp} (a : Same H H1) (b : Same H1 H2) : Same H H2 := fun c o h => b c o (a c o h)
theorem Same.free {H H' : Hp} (e : Same H H') {l : Addr} (h : H' l = Option.none) : H l = Option.none := by
  cases q : H l with
  | none => rfl
  | some o =>
    rw [e l o q] at h
    cases h
end L2
set_option Elab.async false
set_option linter.all false
set_option maxRecDepth 100000
namespace L2
open PySem PySem.Spec PyProof.Rows
def vP : HO → Bool
  | .dT _ => false
  | .frz _ u => vP u
  | _ => true
def NoT (H : Hp) : Prop := ∀ a o, H a = some o → vP o = true
def vq : HO → Bool
  | .lst _ => true
  | .tup _ => true
  | .dK _ => true
  | .rng _ _ => true
  | _ => false
structure Gc (H G H' : Hp) : Prop where
  a : Same H G
  b : Same G H'
  c : ∀ p o, G p = some o → H p = some o ∨ vq o = true
section
variable {P : Program} {w : World} {H G H' : Hp} {h h' : Heap} {a : Addr} {o : HO}
theorem Gc.refl : Gc H H H := ⟨Same.refl H, Same.refl H, fun _ _ e => .inl e⟩
theorem aj {p : Addr} (o : HO) (hp : H p = Option.none) : Same H (upd H p o) := fun b u e => by rw [af (ak e hp)]; exact e
end
end L2
set_option Elab.async false
set_option linter.all false
set_option maxRecDepth 100000
namespace L2
open PySem PySem.Spec PyProof.Rows
theorem ObjOk.at_ {P : Program} {w : World} {H : Hp} {h : Heap} {a : Addr} {o : HO} (x : ObjOk P w H h a o) : ∃ ob, h.get? a = some ob := by
  cases o with
  | lst xs => obtain ⟨_, _, _, _, e⟩ := x; exact ⟨_, e⟩
  | tup xs => obtain ⟨_, _, _, ob, e, _⟩ := x; exact ⟨_, e⟩
  | dK kvs => obtain ⟨_, _, _, _, o, _, _, e, _⟩ := x; exact ⟨_, e⟩
  | dT kvs => obtain ⟨_, _, _, _, o, _, _, e, _⟩ := x; exact ⟨_, e⟩
  | set S n => obtain ⟨o, _, _, _, e, _⟩ := x; exact ⟨_, e⟩
  | ins C dx fs => obtain ⟨_, _, _, e, _⟩ := x; exact ⟨_, e⟩
  | own y => obtain ⟨_, e⟩ := x; exact ⟨_, e⟩
  | xd fs => obtain ⟨_, ⟨_, _, _, e, _⟩, _⟩ := x; exact ⟨_, e⟩
  | rng lo hi => obtain ⟨_, _, _, e⟩ := x; exact ⟨_, e⟩
  | frz ob u => obtain ⟨e, _⟩ := x; exact ⟨_, e⟩
  | tbl ps => exact ⟨_, (show h.get? a = some _ from x)⟩
  | met f y => exact ⟨_, (show h.get? a = some _ from x)⟩
  | ext φ => obtain ⟨_, ⟨_, e⟩, _⟩ := x; exact ⟨_, e⟩
theorem HOk.none_of {P : Program} {w : World} {H : Hp} {h : Heap} {a : Addr} (x : HOk P w H h) (e : h.get? a = none) : H a = none := by
  cases q : H a with
  | none => rfl
  | some u =>
    obtain ⟨ob, z⟩ := (x a u q).at_
    rw [e] at z; cases z
def hid (h : Heap) (l : List Env) (rs : List Addr) : Heap := PySem.W.hideAll h (frs l ++ rs)
theorem iR {h : Heap} {l : List Env} {rs : List Addr} {b : Addr} {o : Obj} (e : h.get? b = some o) (h1 : b ∉ frs l) (h2 : b ∉ rs) : (hid h l rs).get? b = some o :=
  PySem.W.hideAll_get _ e fun z => (List.mem_append.mp z).elim h1 h2
theorem qB {h : Heap} {l : List Env} {rs : List Addr} {b : Addr} {o : Obj} (e : (hid h l rs).get? b = some o) : h.get? b = some o := PySem.W.of_hideAll _ e
theorem oq {h : Heap} {l : List Env} {rs : List Addr} {b : Addr} (e : b ∈ rs) : (hid h l rs).get? b = none := PySem.W.hideAll_none _ (List.mem_append_right _ e)
theorem ii {h base : Heap} {l : List Env} {rs : List Addr} (e : h.FunFrames base l) : h.FunFrames (hid h l rs) l :=
  PySem.W.funFrames_hide e fun _ he _ ha => List.mem_append_left _ (List.mem_filterMap.mpr ⟨_, he, ha⟩)
def Fly (l : List Env) (rs : List Addr) (e : Addr) (cls : Value) (h : Heap) : Prop := e ∈ rs ∧ ∃ a0, Heap.FlyingW (hid h l rs) l e cls a0 h
def XE (P : Program) (w : World) : CXT := fun outer H s E ev s' => ∃ (e : Addr) (C : Value) (rs : List Addr) (H' : Hp), ev = .ref e ∧ s'.os = s.os ∧ AllBare s'.gens ∧ Un (frs outer) [] H H' s.heap s'.heap ∧
  HOk P w H' s'.heap ∧ (∀ b ∈ rs, s.heap.get? b = none ∧ H' b = none) ∧ Fly outer rs e C s'.heap ∧ E C none H'
section
variable {X : Cx} {pins : List (Addr × Obj)} {σ : St} {H : Hp} {s : Shared} {h' : Heap} {rs : List Addr}
theorem Inv.s0_none (I : Inv X pins σ H s) (hex : X.ex = []) {b : Addr} (e : s.heap.get? b = none) : X.s₀.heap.get? b = none := by
  cases q : X.s₀.heap.get? b with
  | none => rfl
  | some o =>
    obtain ⟨o', z⟩ := I.base.there b o q (by rw [hex]; simp)
    rw [e] at z; cases z
theorem Inv.noteUn (I : Inv X pins σ H s) (hex : X.ex = []) (hrs : ∀ b ∈ rs, X.s₀.heap.get? b = none)
    (stay : ∀ b o, s.heap.get? b = some o → b ∉ frs X.stack → b ∉ rs → h'.get? b = some o) (up : s.heap.UpToSlots h') : Un X.fs [] X.H₀ H X.s₀.heap h' := by
  have B := I.base
  rw [hex] at B
  have nrs : ∀ b o, X.s₀.heap.get? b = some o → b ∉ rs := fun b o e z => by rw [hrs b z] at e; cases e
  have nst : ∀ b o, X.s₀.heap.get? b = some o → b ∉ X.fs → b ∉ frs X.stack := fun b o e hb z => by
    rcases List.mem_cons.mp (I.stkSub b z) with q | q
    · exact absurd (Nat.lt_of_lt_of_le (Heap.lt_size e) I.ok.above) (by rw [q]; exact Nat.lt_irrefl _)
    · exact hb q
  refine ⟨fun b o q n hb hx => stay b o (B.keep b o q n hb hx) (nst b o q hb) (nrs b o q), fun b o q n hb hx => ?_, fun b o q n hx => B.free b o q n hx, fun b o q hx => ?_, B.tups, B.frzs, B.tbls⟩
  · obtain ⟨sl, e1⟩ := B.slot b o q n hb hx
    obtain ⟨_, o', ho', hd⟩ := I.funs.mem hb
    rw [e1] at ho'; cases ho'
    obtain ⟨sl', e2⟩ := up b _ e1 hd
    exact ⟨sl', e2⟩
  · obtain ⟨o', e1⟩ := B.there b o q hx
    by_cases hb : b ∈ frs X.stack
    · obtain ⟨_, o2, ho2, hd⟩ := I.stack.mem hb
      obtain ⟨sl', e2⟩ := up b _ ho2 hd
      exact ⟨_, e2⟩
    · exact ⟨o', stay b o' e1 hb (nrs b o q)⟩
theorem Inv.noteOk (I : Inv X pins σ H s) (hrs : ∀ b ∈ rs, H b = none) (stay : ∀ b o, s.heap.get? b = some o → b ∉ frs X.stack → b ∉ rs → h'.get? b = some o) : HOk X.prog X.w H h' := fun a o e =>
  (I.hok a o e).stay (fun b u hb q => stay b u q (fun z => by
      have n := I.stkFree b z
      rcases hb with r | r
      · rw [r, e] at n; cases n
      · rw [r] at n; cases n) fun z => by
      have n := hrs b z
      rcases hb with r | r
      · rw [r, e] at n; cases n
      · rw [r] at n; cases n) (fun _ q => q) fun _ _ q => q
theorem rH {base : Heap} {l : List Env} {h h1 : Heap} {T : Addr} {oT : Obj} {ts : Array Value} (hl : h.FunFrames base l) (up : h.UpToSlots h1) (e : (hid h l rs).get? T = none) (hT : h1.get? T = some oT) (hd : oT.data = .fields ts) : h.get? T = none ∨ T ∈ rs := by
  by_cases hr : T ∈ rs
  · exact .inr hr
  · refine .inl ?_
    cases q : h.get? T with
    | none => rfl
    | some o =>
      by_cases hf : T ∈ frs l
      · obtain ⟨_, o2, ho2, hnf⟩ := hl.mem hf
        rw [q] at ho2; cases ho2
        obtain ⟨sl, e2⟩ := up T o q hnf
        rw [hT] at e2; cases e2
        exact absurd hd (hnf ts)
      · rw [iR q hf hr] at e; cases e
end
section
variable {P : Program} {w : World} {K : PySem.W.Frag} {mg : Str → Option Value} {base : Heap} {N : List Str} {qual : Str} {scope : Scope} {f : Addr} {cd : Value} {A : Around} {outer : List Env} {s₀ : Shared} {H₀ : Hp} {E : XK}
theorem qF {pins : List (Addr × Obj)} {σ : St} {H : Hp} {s : Shared} {h' : Heap} {e : Addr} {cls : Value} {args : List Value}
    (I : Inv (bZ (XE P w) P w K mg base N qual scope f cd A outer s₀ H₀ E) pins σ H s) (hx : Heap.MadeExcOf s.heap h' e cls args) (q : E cls none H) :
    (bZ (XE P w) P w K mg base N qual scope f cd A outer s₀ H₀ E).xe (.ref e) { s with heap := h' } := by
  show wpAny (model P w) (A.deeper (envOfC qual scope s₀.heap.objs.size f cd)) (leaving (envOfC qual scope s₀.heap.objs.size f cd) (.ref e)) (fun _ s'' => XE P w outer H₀ s₀ E (.ref e) s'') (fun e' s'' => XE P w outer H₀ s₀ E e' s'') { s with heap := h' }
  have hst : s.heap.FunFrames base (envOfC qual scope s₀.heap.objs.size f cd :: outer) := I.stack
  refine wpAny_leaves_madeW (base := hid s.heap (envOfC qual scope s₀.heap.objs.size f cd :: outer) []) (h := s.heap) I.ok.frames rfl (fun b o z => qB z) (ii hst) hx fun h'' t fl tup tn up => ?_
  obtain ⟨f1, f2, f3, oe, vs, T, oT, ts, he, hc, hd, h1, hnT, hTe, hT, hdT, h3⟩ := fl
  have up' : s.heap.UpToSlots h'' := (Heap.UpToSlots.of_keeps hx.keeps).trans up
  have nT : s.heap.get? T = none := (rH hst up' hnT hT hdT).elim id fun z => nomatch z
  have stay : ∀ b o, s.heap.get? b = some o → b ∉ frs (envOfC qual scope s₀.heap.objs.size f cd :: outer) → b ∉ [e, T] → h''.get? b = some o := fun b o z hb _ => f1 b o (iR z hb fun y => nomatch y)
  have n0 : ∀ b ∈ [e, T], s.heap.get? b = none := fun b hb => by
    rcases List.mem_cons.mp hb with r | r
    · rw [r]; exact hx.new
    · rw [List.mem_singleton.mp r]; exact nT
  have n1 : ∀ b ∈ [e, T], s₀.heap.get? b = none := fun b hb => I.s0_none rfl (n0 b hb)
  have n2 : ∀ b ∈ [e, T], H b = none := fun b hb => I.hok.none_of (n0 b hb)
  refine ⟨e, cls, [e, T], H, rfl, I.os, I.bare, I.noteUn rfl n1 stay up', I.noteOk n2 stay, fun b hb => ⟨n1 b hb, n2 b hb⟩, ⟨.head _, .ref t, ?_⟩, q⟩
  exact ⟨fun b o z => qB z, oq (.head _), ii f3, oe, vs, T, oT, ts, he, hc, hd, h1, oq (.tail _ (.head _)), hTe, hT, hdT, h3⟩
abbrev XKs := St → XK
def dE (CX : CXT) (X : Cx) (E : XKs) : Prop := ∀ (pins : List (Addr × Obj)) (σ : St) (H : Hp) (s : Shared) (e : Value) (s' : Shared), Inv X pins σ H s → CX X.stack H s (E σ) e s' → X.xe e s'
def vZ (X : Cx) (E : XKs) : Prop := ∀ (pins : List (Addr × Obj)) (σ : St) (H : Hp) (s : Shared) (h' : Heap) (e : Addr) (cls : Value) (args : List Value), Inv X pins σ H s → Heap.MadeExcOf s.heap h' e cls args → E σ cls none H → X.xe (.ref e) { s with heap := h' }
theorem ox : vZ (bZ (XE P w) P w K mg base N qual scope f cd A outer s₀ H₀ E) (fun _ => E) := fun _ _ _ _ _ _ _ _ I hx q => qF I hx q
theorem bw : dE (XE P w) (bZ (XE P w) P w K mg base N qual scope f cd A outer s₀ H₀ E) (fun _ => E) := by
  intro pins σ H s ev s' I hq
  obtain ⟨e, C, rs, H', rfl, os, bare, un, hok, hrs, ⟨her, a0, fl⟩, q⟩ := hq
  have J : Inv (bZ (XE P w) P w K mg base N qual scope f cd A outer s₀ H₀ E) pins σ H' s' := I.call' os un hok bare (fun b z => nomatch z)
  show wpAny (model P w) (A.deeper (envOfC qual scope s₀.heap.objs.size f cd)) (leaving (envOfC qual scope s₀.heap.objs.size f cd) (.ref e)) (fun _ s'' => XE P w outer H₀ s₀ E (.ref e) s'') (fun e' s'' => XE P w outer H₀ s₀ E e' s'') s'
  have hst : s'.heap.FunFrames base (envOfC qual scope s₀.heap.objs.size f cd :: outer) := J.stack
  refine wpAny_leaves_onW (base := hid s'.heap (envOfC qual scope s₀.heap.objs.size f cd :: outer) rs) I.ok.frames rfl fl fun h'' fl' up => ?_
  obtain ⟨f1, f2, f3, oe, vs, T, oT, ts, he, hc, hd, h1, hnT, hTe, hT, hdT, h3⟩ := fl'
  have nT := rH hst up hnT hT hdT
  have stay : ∀ b o, s'.heap.get? b = some o → b ∉ frs (envOfC qual scope s₀.heap.objs.size f cd :: outer) → b ∉ T :: rs → h''.get? b = some o := fun b o z hb hr => f1 b o (iR z hb fun y => hr (.tail _ y))
  have n1 : ∀ b ∈ T :: rs, s₀.heap.get? b = none := fun b hb => by
    rcases List.mem_cons.mp hb with r | r
    · rw [r]
      rcases nT with z | z
      · exact J.s0_none rfl z
      · exact I.s0_none rfl (hrs T z).1
    · exact I.s0_none rfl (hrs b r).1
  have n2 : ∀ b ∈ T :: rs, H' b = none := fun b hb => by
    rcases List.mem_cons.mp hb with r | r
    · rw [r]
      rcases nT with z | z
      · exact hok.none_of z
      · exact (hrs T z).2
    · exact (hrs b r).2
  refine ⟨e, C, T :: rs, H', rfl, J.os, J.bare, J.noteUn rfl n1 stay up, J.noteOk n2 stay, fun b hb => ⟨n1 b hb, n2 b hb⟩, ⟨.tail _ her, a0, ?_⟩, q⟩
  exact ⟨fun b o z => qB z, oq (.tail _ her), ii f3, oe, vs, T, oT, ts, he, hc, hd, h1, oq (.head _), hTe, hT, hdT, h3⟩
end
def qf (sp : Sp) (dvs : List V) (E : XKs) (t : TA) : TE := fun σ H Q => t σ H fun vs H1 => sp (vs ++ dvs) H1 Q (E σ)
section
variable {X : Cx} {CX : CXT} {k : Nat} {f C : Addr} {fd : FuncData} {ps : List Str} {sp : Sp} {dvs : List V} {ds : List Value} {E : XKs} {x m : Str} {p pos apos : Pos} {e o : Expr} {es : List Expr} {ta : TE} {t : TA}
theorem ni {pins : List (Addr × Obj)} {σ : St} {H : Hp} {s : Shared} {Q : VK} {us : List Value} {vs : List V} (F : cz X.prog X.w X.K X.mg X.base CX k f fd ps sp) (hr : Room k X.A) (hb : Binds X.K fd ps ds) (hd : Vals dvs ds) (hx : dE CX X E)
    (I : Inv X pins σ H s) (r : Vals vs us) (h : sp (vs ++ dvs) H Q (E σ)) : wpAny (model X.prog X.w) X.A (call (.ref f) us) (EP X pins σ Q) X.xe s := by
  have r2 : Vals (vs ++ dvs) (us ++ ds) := r.append hd
  have hl : (us ++ ds).length = ps.length := by rw [← r2.length]; exact F.len _ _ _ _ h
  refine wpAny_call (codeAny_mono (F.run X.A X.stack s H ⟨us, []⟩ (us ++ ds) (vs ++ dvs) Q (E σ) hr I.env0 (hb s us I.kIn hl) r2 h) fun r s' hq => ?_)
  cases r with
  | error e => exact hx pins σ H s e s' I hq
  | ok fl =>
    cases fl with
    | ret u => exact I.after hq
    | next => exact False.elim hq
    | brk => exact False.elim hq
    | cont => exact False.elim hq
theorem az (F : cz X.prog X.w X.K X.mg X.base CX k f fd ps sp) (hr : Room k X.A) (hg : Gl X x) (hm : X.mg x = some (.ref f)) (hk : PySem.W.keepIn X.K (.ref f) = true) (hb : Binds X.K fd ps ds) (hd : Vals dvs ds) (hx : dE CX X E)
    (ha : PA X (e :: es) t) (hdb : (x == ("__debug__" : Str)) = false := by decide) (he : starEach (e :: es) X.env = (false, eval e X.env) :: starEach es X.env := by rfl) (hpl : (backTo pos (starEach es X.env)).any (·.1) = false := by rfl) :
    PE X (.Call (.Name x p) (e :: es) [] pos) (qf sp dvs E t) := by
  intro pins s σ H Q I h
  refine wpAny_Call_Name_kw (gL I hg hm ?_ hdb)
  refine PySem.W.callWith_K (h₀ := X.base) I.ok.mod.kin hk (thn (ha pos pins s σ H _ I h) fun us s1 ⟨vs, H1, I1, r, q⟩ => ⟨I1.kIn, ?_⟩) he hpl
  exact ni F hr hb hd hx I1 r q
end
section
variable {P : Program} {w : World} {K : PySem.W.Frag} {mg : Str → Option Value} {base : Heap}
theorem Fun.okX {x qual : Str} {st : Stmt} {f : Addr} {fd : FuncData} {N ps : List Str} {k : Nat} {sp : Sp} (F : Fun K x qual st f fd) (S : aF N ps (ad st)) (len : ∀ vs H Q E, sp vs H Q E → vs.length = ps.length)
    (hbody : ∀ (cdv : Value) (A : Around) (outer : List Env) (s : Shared) (H : Hp) (vs : List V) (Q : VK) (E : XK), Room k (A.deeper (envOfC qual (ad st) s.heap.objs.size f cdv)) → sp vs H Q E →
      ∃ t, PSs (bZ (XE P w) P w K mg base N qual (ad st) f cdv A outer s H E) (aw st) t ∧ t { nx := fun _ H' => Q .non H', rt := Q } (d8 N vs) H) : cz P w K mg base (XE P w) (k + 1) f fd ps sp := by
  obtain ⟨oc, od, kV, doc, pm, an, cdv, ct, osl, rfl, lk, hcd⟩ := F.ex
  exact AO lk hcd S len fun A outer s H vs Q E hr hsp => hbody cdv A outer s H vs Q E hr hsp
end
theorem xb {K : PySem.W.Frag} {h : Heap} {C : Addr} {bmB : List Value} {newId : String} (X : K.In h) (q : PySem.W.excIn K C bmB newId = true) :
    ∃ bm N nm qn bs hdct sn sub ab col dd k0 k1 k2 k3 k5 mN, h.get? C = some (excClassObj nm qn C N bs bm hdct sn sub ab col dd k0 k1 k2 k3 k5 newId) ∧ h.Ns N mN ∧ mN "__init__" = none ∧ OwnTail h bmB bm := by
  unfold PySem.W.excIn at q
  split at q
  · rename_i dd cd sl ho
    split at q
    · rename_i C' bm k0 k1 k2 k3 n k5 hm hs
      simp only [Bool.and_eq_true, beq_iff_eq, Bool.not_eq_true'] at q
      obtain ⟨⟨⟨⟨⟨rfl, rfl⟩, hdel⟩, ht⟩, hok⟩, hni⟩ := q
      obtain ⟨nm, bs, mro, ns, qn, hd, sn, sub, ab, col, del⟩ := cd
      dsimp only at hm hdel hok hni
      subst hm hdel
      have hsl : sl = #[k0, k1, k2, k3, some (.builtin n), k5] := by
        obtain ⟨l⟩ := sl
        simp only at hs
        rw [hs]
      subst hsl
      exact ⟨bm, ns, nm, qn, bs, hd, sn, sub, ab, col, dd, k0, k1, k2, k3, k5, _, X _ _ ho, .of_isNs (PySem.W.isNs_of_in X hok), PySem.W.nsMap_none_of_in X hok hni, PySem.W.tail_of_in X ht⟩
    · cases q
  · cases q
def uP (C : Addr) (E : XKs) (t : TA) : TS := fun _ σ H => t σ H fun vs H1 => vs.length ≤ sizeLine ∧ E σ (.ref C) none H1
theorem kj {X : Cx} {x : Str} {C : Addr} {bmB : List Value} {B newId initId : String} {E : XKs} {e : Expr} {es : List Expr} {t : TA} {np cpos pos : Pos} (O : PySem.W.excIn X.K C bmB newId = true) (FB : ExcBaseFacts B newId initId bmB)
    (hc : X.calm = true) (hg : Gl X x) (hm : X.mg x = some (.ref C)) (hx : vZ X E) (ha : PA X (e :: es) t) (hdb : (x == ("__debug__" : Str)) = false := by decide)
    (he : starEach (e :: es) X.env = (false, eval e X.env) :: starEach es X.env := by rfl) (hpl : (backTo cpos (starEach es X.env)).any (·.1) = false := by rfl) :
    PS X (.Raise (some (.Call (.Name x np) (e :: es) [] cpos)) none pos) (uP C E t) := by
  intro pins s σ H D I h
  obtain ⟨tl, N, nm, q, bs, hdct, sn, sub, ab, col, dd, k0, k1, k2, k3, k5, mN, hC, hN, hni, T⟩ := xb I.mod.kin O
  refine wpAny_Raise_call_subT (C := C) (nm := nm) (q := q) (N := N) (bs := bs) (bm := tl) (hdct := hdct) (sn := sn) (sub := sub) (ab := ab) (col := col) (dd := dd) (k0 := k0) (k1 := k1) (k2 := k2) (k3 := k3) (k5 := k5)
    FB (mN := mN) (T.hasType FB.hasBase) (I.ok.hd hc) (by rw [he]; show (false || (backTo cpos (starEach es X.env)).any (·.1)) = false; rw [hpl]; rfl) hni (gL I hg hm ⟨rfl, ?_⟩ hdb)
  have hA := ha cpos pins s σ H _ I h
  rw [he] at hA ⊢
  refine Calls.evalArgs_plain (thn hA fun us s1 ⟨vs, H1, I1, r, hz, q1⟩ => ⟨rfl, by rw [← r.length]; exact hz, I1.bk _ _ hC, hN.keeps I1.bk, T.keeps I1.bk, fun h' e' hm' => ?_⟩)
  exact hx pins σ H1 s1 h' e' (.ref C) us I1 hm' q1
end L2
set_option Elab.async false
set_option linter.all false
set_option maxRecDepth 100000
namespace L2
open PySem PySem.Spec PyProof.Rows
section
variable {X : Cx} {pins : List (Addr × Obj)} {σ : St} {H : Hp} {s : Shared} {h' : Heap} {rs : List Addr}
theorem Inv.noted {t' : Nat} (I : Inv X pins σ H s) (hrs : ∀ b ∈ rs, X.s₀.heap.get? b = none ∧ H b = none) (hpin : ∀ p ∈ X.pn ++ pins, p.1 ∉ rs)
    (stay : ∀ b o, s.heap.get? b = some o → b ∉ frs X.stack → b ∉ rs → h'.get? b = some o) (up : s.heap.UpToSlots h') : Inv X pins σ H { s with heap := h', toks := t' } := by
  have B := I.base
  have cellK : ∀ c v, s.heap.IsCell c v → h'.IsCell c v := fun c v ⟨o, ho, hd⟩ => by
    obtain ⟨sl, e⟩ := up c o ho fun vs q => by rw [hd] at q; cases q
    exact ⟨_, e, hd⟩
  have nrs : ∀ b o, X.s₀.heap.get? b = some o → b ∉ rs := fun b o e z => by rw [(hrs b z).1] at e; cases e
  have nst : ∀ b o, X.s₀.heap.get? b = some o → b ∉ X.fs → b ∉ frs X.stack := fun b o e hb z => by
    rcases List.mem_cons.mp (I.stkSub b z) with q | q
    · exact absurd (Nat.lt_of_lt_of_le (Heap.lt_size e) I.ok.above) (by rw [q]; exact Nat.lt_irrefl _)
    · exact hb q
  refine ⟨I.ok, I.os, I.bare, ⟨fun b o q n hb hx => stay b o (B.keep b o q n hb hx) (nst b o q hb) (nrs b o q), fun b o q n hb hx => ?_, fun b o q n hx => B.free b o q n hx, fun b o q hx => ?_, B.tups, B.frzs, B.tbls⟩, ?_, fun x c e => ?_, I.free, I.freeC, fun p hp => ?_, I.noteOk (fun b hb => (hrs b hb).2) stay, I.len⟩
  · obtain ⟨sl, e1⟩ := B.slot b o q n hb hx
    obtain ⟨_, o', ho', hd⟩ := I.funs.mem hb
    rw [e1] at ho'; cases ho'
    obtain ⟨sl', e2⟩ := up b _ e1 hd
    exact ⟨sl', e2⟩
  · obtain ⟨o', e1⟩ := B.there b o q hx
    by_cases hb : b ∈ frs X.stack
    · obtain ⟨_, o2, ho2, hd⟩ := I.stack.mem hb
      obtain ⟨sl', e2⟩ := up b _ ho2 hd
      exact ⟨_, e2⟩
    · exact ⟨o', stay b o' e1 hb (nrs b o q)⟩
  · obtain ⟨m, hn, hl⟩ := I.loc
    refine ⟨m, up.ns hn, fun i x v e1 e2 e3 => ?_⟩
    obtain ⟨u, r, l⟩ := hl i x v e1 e2 e3
    refine ⟨u, r, ?_⟩
    rcases l with l | ⟨k, c, e, z⟩
    · exact .inl l
    · exact .inr ⟨k, c, e, cellK c _ z⟩
  · obtain ⟨v, z⟩ := I.cell x c e
    exact ⟨v, cellK c v z⟩
  · obtain ⟨e, n, ne, nf, d⟩ := I.pin p hp
    exact ⟨stay p.1 p.2 e (fun z => (List.mem_cons.mp (I.stkSub _ z)).elim ne nf) (hpin p hp), n, ne, nf, d⟩
theorem Inv.track {a : Addr} {o : HO} (I : Inv X pins σ H s) (hn : H a = none) (h0 : X.s₀.heap.get? a = none) (hL : a ≠ X.env.locals) (hc : ∀ x c, X.env.cells.lookup x = some c → c ≠ a) (hp : ∀ p ∈ X.pn ++ pins, p.1 ≠ a)
    (new : ObjOk X.prog X.w (upd H a o) s.heap a o) : Inv X pins σ (upd H a o) s := by
  have B := I.base
  refine ⟨I.ok, I.os, I.bare, ⟨B.keep, B.slot, fun b ob q n hx => ?_, B.there, fun b xs q => ?_, fun b ob xs q => ?_, fun b ps q => ?_⟩, I.loc, I.cell, ?_, fun x c e => ?_, fun p hp' => ?_, fun b u e => ?_, I.len⟩
  · have : b ≠ a := fun z => by rw [z, h0] at q; cases q
    rw [af this]; exact B.free b ob q n hx
  · have e := B.tups b xs q
    rw [af (ak e hn)]; exact e
  · have e := B.frzs b ob xs q
    rw [af (ak e hn)]; exact e
  · obtain ⟨m, e⟩ := B.tbls b ps q
    exact ⟨m, by rw [af (ak e hn)]; exact e⟩
  · rw [af (Ne.symm hL)]; exact I.free
  · rw [af (hc x c e)]; exact I.freeC x c e
  · obtain ⟨e, n, ne, nf, d⟩ := I.pin p hp'
    exact ⟨e, by rw [af (hp p hp')]; exact n, ne, nf, d⟩
  · by_cases hb : b = a
    · subst hb
      rw [ac] at e
      cases e
      exact new
    · rw [af hb] at e
      refine (I.hok b u e).stay (fun c v _ q => q) (fun c q => ?_) fun c xs q => ?_
      · rw [af (ak q hn)]; exact q
      · rw [af (ak q hn)]; exact q
theorem Cx.Ok.re (ok : X.Ok) (A' : Around) (hf : A'.frames = X.A.frames) (cm : Bool) (hh : cm = true → A'.handled = none) (pn : List (Addr × Obj)) (xe : Value → Shared → Prop) : ({ X with A := A', calm := cm, pn := pn, xe := xe } : Cx).Ok :=
  ⟨ok.mod, ok.kind, ok.glob, ok.blt, ok.above, ok.inj, ok.has, ok.cab, hh, hf.trans ok.frames, ok.stk, ok.exf, ok.bs, ok.bsz, ok.noex, ok.exfs, ok.funs, ok.frf⟩
theorem Inv.toPn (I : Inv X pins σ H s) (xe : Value → Shared → Prop) : Inv { X with pn := X.pn ++ pins, xe := xe } [] σ H s :=
  ⟨I.ok.re X.A rfl X.calm I.ok.hd _ _, I.os, I.bare, I.base, I.loc, I.cell, I.free, I.freeC, fun p hp => I.pin p (by rw [List.append_nil] at hp; exact hp), I.hok, I.len⟩
theorem Inv.ofPn {xe : Value → Shared → Prop} {pins' : List (Addr × Obj)} (ok : X.Ok) (I : Inv { X with pn := X.pn ++ pins, xe := xe } pins' σ H s) : Inv X pins σ H s :=
  ⟨ok, I.os, I.bare, I.base, I.loc, I.cell, I.free, I.freeC, fun p hp => I.pin p (List.mem_append_left _ hp), I.hok, I.len⟩
abbrev Cx.caught (X : Cx) (e : Addr) : Cx := { X with A := X.A.mark (some (.ref e)), calm := false, pn := X.pn, xe := fun _ _ => False }
theorem Inv.toCaught (I : Inv X pins σ H s) (e : Addr) : Inv (X.caught e) pins σ H s :=
  ⟨I.ok.re (X.A.mark (some (.ref e))) rfl false (fun z => nomatch z) _ _, I.os, I.bare, I.base, I.loc, I.cell, I.free, I.freeC, I.pin, I.hok, I.len⟩
theorem Inv.ofCaught {e : Addr} (ok : X.Ok) (I : Inv (X.caught e) pins σ H s) : Inv X pins σ H s :=
  ⟨ok, I.os, I.bare, I.base, I.loc, I.cell, I.free, I.freeC, I.pin, I.hok, I.len⟩
theorem gM {M : Model} {A : Around} {E : Value → Shared → Prop} {i : Nat} {n : Str} {pos : Pos} {Q : Unit → Shared → Prop} (I : Inv X pins σ H s) (hN : X.N.Nodup) (hi : X.N[i]? = some n) (hk : X.env.kindOf n = some .local)
    (h : ∀ s', Inv X pins (σ.set i none) H s' → Q () s') : wpAny M A (do bindName X.env n .none; unbindBehindTheSuite X.env n pos) Q E s := by
  obtain ⟨m, hn, hl⟩ := id I.loc
  have hcls : (X.env.scope.kind == .class || (X.env.scope.kind == .module && X.env.locals != X.env.globals)) = false := by rw [I.ok.kind]; rfl
  have cne := I.cne
  refine wpAny_nameGoes_keeps hk hn hcls fun h' v hn' hs => ?_
  obtain ⟨oL, _, _, hoL, _⟩ := id hn
  refine h _ ⟨I.ok, I.os, I.bare, ⟨fun b o e n hb hx => ?_, fun b o e n hb hx => ?_, I.base.free, fun b o e hx => ?_, I.base.tups, I.base.frzs, I.base.tbls⟩, ⟨_, hn', fun j y v' e1 e2 e3 => ?_⟩, fun y c e => ?_, I.free, I.freeC, fun p hp => ?_, fun b ob e => ?_, by simpa using I.len⟩
  · exact (hs.2 b (Nat.ne_of_lt (Nat.lt_of_lt_of_le (Heap.lt_size e) I.ok.above))).trans (I.base.keep b o e n hb hx)
  · obtain ⟨sl, e1⟩ := I.base.slot b o e n hb hx
    exact ⟨sl, (hs.2 b (Nat.ne_of_lt (Nat.lt_of_lt_of_le (Heap.lt_size e) I.ok.above))).trans e1⟩
  · obtain ⟨o', e1⟩ := I.base.there b o e hx
    exact ⟨o', (hs.2 b (Nat.ne_of_lt (Nat.lt_of_lt_of_le (Heap.lt_size e) I.ok.above))).trans e1⟩
  · by_cases hj : j = i
    · subst hj
      rw [List.getElem?_set] at e2
      simp at e2
    · rw [List.getElem?_set_ne (Ne.symm hj)] at e2
      obtain ⟨u', r', q⟩ := hl j y v' e1 e2 e3
      refine ⟨u', r', ?_⟩
      rcases q with ⟨k, e⟩ | ⟨k, c, e, z⟩
      · refine .inl ⟨k, ?_⟩
        have : y ≠ n := fun e => hj (kH hN e1 (e ▸ hi))
        simp [this, e]
      · exact .inr ⟨k, c, e, z.sameBut hs (cne y c e)⟩
  · obtain ⟨w', z⟩ := I.cell y c e
    exact ⟨w', z.sameBut hs (cne y c e)⟩
  · obtain ⟨e, n, ne, nf, d⟩ := I.pin p hp
    exact ⟨(hs.2 p.1 ne).trans e, n, ne, nf, d⟩
  · refine (I.hok b ob e).stay (fun c w' hc q => (hs.2 c ?_).trans q) (fun _ q => q) fun _ _ q => q
    rintro rfl
    rcases hc with rfl | hc
    · rw [I.free] at e; cases e
    · rw [I.free] at hc; cases hc
end
theorem nF {M : Model} {A : Around} {E : Value → Shared → Prop} {s : Shared} {K : PySem.W.Frag} {e C D : Addr} {oe : Obj} {Q : Bool → Shared → Prop} (X : K.In s.heap) (he : s.heap.get? e = some oe) (hcls : oe.cls = .ref C)
    (hx : PySem.W.exmOne K (.ref C) (.ref D) = some true) (h : Q true s) : wpAny M A (excMatches (.ref e) (.ref D)) Q E s :=
  (PySem.W.exm_one (M := M) X (hcls ▸ (PySem.W.Looks.ld he).andThen .now) hx).here h
def gv (C : Value) (e : Addr) : HO := HO.ext fun h => ∃ o vs, h.get? e = some o ∧ o.cls = C ∧ o.data = .fields vs
def z_ (K : PySem.W.Frag) (CH : Addr) (i : Nat) (tb : XKs → TS) (th : TS) : TS := fun D σ H =>
  tb (fun σ' C _ H' => ∃ Ce, C = .ref Ce ∧ PySem.W.exmOne K (.ref Ce) (.ref CH) = some true ∧ ∀ e, H' e = none →
    th { nx := fun σ2 H2 => D.nx (σ2.set i none) H2, rt := D.rt, bk := fun σ2 H2 => D.bk (σ2.set i none) H2, ct := fun σ2 H2 => D.ct (σ2.set i none) H2 } (σ'.set i (some (.ref e))) (upd H' e (gv (.ref Ce) e))) D σ H
theorem yY {X : Cx} {CH : Addr} {i : Nat} {n x : Str} {np hpos pos : Pos} {body suite : List Stmt} {b₀ : Stmt} {tb : XKs → TS} {th : TS} (hN : X.N.Nodup) (hi : X.N[i]? = some n) (hk : X.env.kindOf n = some .local)
    (hg : Gl X x) (hm : X.mg x = some (.ref CH))
    (hex : X.ex = []) (hst : X.stack = X.env :: X.outer) (hfr : X.env.frame = some X.env.locals)
    (hb : ∀ (pn : List (Addr × Obj)) (Ee : Value → Shared → Prop) (Ex : XKs), dE (XE X.prog X.w) { X with pn := pn, xe := Ee } Ex → PSs { X with pn := pn, xe := Ee } body (tb Ex))
    (hh : ∀ e : Addr, PSs (X.caught e) (b₀ :: suite) th) (hdb : (x == ("__debug__" : Str)) = false := by decide) :
    PS X (.Try body [.ExceptHandler (some (.Name x np)) (some n) (b₀ :: suite) hpos] [] [] pos) (z_ X.K CH i tb th) := by
  intro pins s σ H D I h
  refine wpAny_Try_except ?_
  have ok := I.ok
  refine wpAny_mono (hb (X.pn ++ pins) _ _ ?hP [] s σ H D (I.toPn _) h) (fun f s1 hf => ?_) (fun _ _ z => z)
  case hP =>
    intro pins' σ' H1 s1 ev s1' I1 hq
    obtain ⟨e, C, rs, H', rfl, os, bare, un, hok, hrs, ⟨her, a0, fl⟩, ⟨Ce, rfl, hmro, hth⟩⟩ := hq
    have J1 := I1.call' os un hok bare (fun b z => nomatch z)
    have J : Inv X pins σ' H' s1' := J1.ofPn ok
    have I0 : Inv X pins σ' H1 s1 := I1.ofPn ok
    have hn0 : ∀ b ∈ rs, X.s₀.heap.get? b = none ∧ H' b = none := fun b hb => by
      refine ⟨?_, (hrs b hb).2⟩
      cases q : X.s₀.heap.get? b with
      | none => rfl
      | some o =>
        obtain ⟨o', z⟩ := I0.base.there b o q (by rw [hex]; simp)
        rw [(hrs b hb).1] at z; cases z
    have hpin : ∀ p ∈ X.pn ++ pins, p.1 ∉ rs := fun p hp z => by
      have := (I0.pin p hp).1
      rw [(hrs _ z).1] at this; cases this
    have hstk : s1'.heap.FunFrames X.base (X.env :: X.outer) := by rw [← hst]; exact J.stack
    rw [show X.stack = X.env :: X.outer from hst] at fl
    have hfrm : X.A.frames = some (X.env :: X.outer) := by rw [← hst]; exact ok.frames
    show wpAny (model X.prog X.w) X.A (noteFrame (.ref e) X.env) _ _ s1'
    refine wpAny_looks_onW (base := hid s1'.heap (X.env :: X.outer) rs) hfrm hfr fl fun h₄ held up4 => ?_
    refine wpAny_landsW held fun h₅ fl5 up5 => ?_
    have nin : ∀ b, b ∉ frs X.stack → b ∉ frs (X.env :: X.outer) := fun b hb => by rw [← hst]; exact hb
    have stay5 : ∀ b o, s1'.heap.get? b = some o → b ∉ frs X.stack → b ∉ rs → h₅.get? b = some o := fun b o z hb hr => fl5.1 b o (iR z (nin b hb) hr)
    have I5 : Inv X pins σ' H' { s1' with heap := h₅, toks := s1'.toks } := J.noted hn0 hpin stay5 (up4.trans up5)
    obtain ⟨ob, hob, hobc⟩ := fl5.there
    refine wpAny_handleBy_cons (codeAny_handlers_test (gL (X := X.caught e) (I5.toCaught e) hg hm (nF I5.kIn hob hobc hmro ?_) hdb)) (by intro q; cases q)
    refine codeAny_handlers_suite_as (lands_againW fl5 fun h₆ fl6 up6 => ?_)
    have stay6 : ∀ b o, s1'.heap.get? b = some o → b ∉ frs X.stack → b ∉ rs → h₆.get? b = some o := fun b o z hb hr => fl6.1 b o (iR z (nin b hb) hr)
    have I6 : Inv X pins σ' H' { s1' with heap := h₆, toks := s1'.toks } := J.noted hn0 hpin stay6 ((up4.trans up5).trans up6)
    have e1 : s1.heap.get? e = none := (hrs e her).1
    obtain ⟨oe, vs, hoe, hoec, hoed, _⟩ := fl6.first
    have I6' : Inv X pins σ' (upd H' e (gv (.ref Ce) e)) { s1' with heap := h₆, toks := s1'.toks } := by
      refine I6.track (hrs e her).2 (hn0 e her).1 ?_ ?_ (fun p hp z => hpin p hp (by rw [z]; exact her)) ?_
      · intro z
        obtain ⟨m, ⟨oL, _, _, hoL, _⟩, _⟩ := I0.loc
        rw [← z, e1] at hoL; cases hoL
      · intro x c hc z
        obtain ⟨v, o, ho, _⟩ := I0.cell x c hc
        rw [z, e1] at ho; cases ho
      · exact ⟨⟨oe, vs, hoe, hoec, hoed⟩, ⟨oe, hoe⟩, fun h1 h2 ⟨o, ws, a1, a2, a3⟩ k => ⟨o, ws, k o a1, a2, a3⟩⟩
    refine kL (X := X.caught e) (I6'.toCaught e) hN hi (Or.inl hk) (v := .ref e) rfl (fun s7 I7 => ?_) (.inr hk)
    refine wpAny_mono (hh e pins s7 _ _ _ I7 (hth e (hrs e her).2)) (fun f s8 hf => ?_) (fun _ _ z => z.elim)
    show wpAny (model X.prog X.w) X.A (do bindName X.env n .none; unbindBehindTheSuite X.env n hpos) (fun _ s₃ => SP X pins D f s₃) X.xe s8
    cases f with
    | next =>
      obtain ⟨σ2, H2, J2, q⟩ := hf
      exact gM (J2.ofCaught ok) hN hi hk fun s9 I9 => ⟨_, _, I9, q⟩
    | brk =>
      obtain ⟨σ2, H2, J2, q⟩ := hf
      exact gM (J2.ofCaught ok) hN hi hk fun s9 I9 => ⟨_, _, I9, q⟩
    | cont =>
      obtain ⟨σ2, H2, J2, q⟩ := hf
      exact gM (J2.ofCaught ok) hN hi hk fun s9 I9 => ⟨_, _, I9, q⟩
    | ret u =>
      obtain ⟨v, σ2, H2, J2, r, q⟩ := hf
      exact gM (J2.ofCaught ok) hN hi hk fun s9 I9 => ⟨v, _, _, I9, r, q⟩
  cases f with
  | next =>
    obtain ⟨σ', H', J, q⟩ := hf
    exact wpAny_execs_nil ⟨σ', H', J.ofPn ok, q⟩
  | brk =>
    obtain ⟨σ', H', J, q⟩ := hf
    exact ⟨σ', H', J.ofPn ok, q⟩
  | cont =>
    obtain ⟨σ', H', J, q⟩ := hf
    exact ⟨σ', H', J.ofPn ok, q⟩
  | ret u =>
    obtain ⟨v, σ', H', J, r, q⟩ := hf
    exact ⟨v, σ', H', J.ofPn ok, r, q⟩
end L2
set_option Elab.async false
set_option linter.all false
set_option maxRecDepth 100000
namespace L2
open PySem PySem.Spec PyProof.Rows PySem.W
inductive tU : V → Value → Prop where
  | ty (n : String) : tU (.ty n) (.type n)
  | own (a : Addr) : tU (.ref a) (.ref a)
section
variable {X : Cx}
theorem oY : CallR X (.builtin "isinstance") (fun xs H Q => ∃ x c t u b, xs = [x, c] ∧ tU c u ∧ iw X.K H x t ∧ PySem.W.kitOne X.K t u = some b ∧ Q (.bl b) H) := by
  intro pins s σ H xs us Q I r h
  obtain ⟨x, c, t, u, b, rfl, rc, ty, e, q⟩ := h
  obtain ⟨ux, uc, rfl, rx, rc'⟩ := m6 r
  have ec : uc = u := by
    cases rc with
    | ty n => exact rc'
    | own a => exact rc'
  subst ec
  exact tQ I rx ty e fun tk => ⟨.bl b, H, I.tok _, rfl, q⟩
end
structure dX (K : Frag) (C : Addr) : Prop where
  l1 : findIn K (.ref C) "__getattribute__" = some (some (.builtin "BaseException.__getattribute__"))
  l2 : findIn K (.ref C) "__getattr__" = some none
  l3 : findIn K (.ref C) "__class__" = some (some (.builtin "object.__class__"))
  c1 : (clsIn K C).isSome = true
  m1 : mroIn K C (.type "object") = some true
  m2 : mroIn K C (.type "BaseException") = some true
section
variable {prog : Program} {w : World} {A : Around} {E : Value → Shared → Prop} {K : Frag} {e C : Addr} {o : Obj} {s : Shared}
open Builtin Builtin.ObjectAttr Builtin.Getset_descriptor PySem.Calls in
theorem lO {R : Result → Shared → Prop} {tp : Value} (X : K.In s.heap) (Z : dX K C) (hx : s.heap.get? e = some o) (hc : o.cls = .ref C)
    (h : R (.ok (.ret (.ref C))) s) : codeAny (model prog w) A (.call (.builtin "getset_descriptor.__get__") ⟨[.builtin "object.__class__", .ref e, tp], []⟩) R s := by
  obtain ⟨hh, g, dr, t, os⟩ := s
  have L0 : Looks (model prog w) hh (typeOf (.ref e)) (.ref C) := hc ▸ (Looks.ld hx).andThen .now
  have L1 := looks_mroIn (M := model prog w) X Z.m1
  refine codeAny_call_builtin KF.slot_gs.plain KF.entry_gs (KF.slot_gs.check _ _ _ _ _ _ _ _ KF.type_class (KF.args_gs _ _ _) ?_)
  unfold Builtin.«getset_descriptor.__get__» descrGet
  rw [dga_obj]
  refine wpAny_bind (wpAny_pure ?_)
  unfold descrGetter descrCheckInstance descrNameAndClass isInstance
  simp only [KF.owner_class]
  repeat lk
  refine ⟨Code.quiet_builtin _ (by decide +kernel), codeAny_builtin KF.entry_class ?_⟩
  unfold Builtin.«object.__class__» shownTypeOf
  repeat lk
  exact h
theorem nC {M : Model} {nameV : Value} {Q : Unit → Shared → Prop} (X : K.In s.heap) (Z : dX K C) (hx : s.heap.get? e = some o) (hc : o.cls = .ref C) (hq : Q () s) :
    wpAny M A (checkBuiltinCall "BaseException.__getattribute__" ⟨[.ref e, nameV], []⟩) Q E s := by
  have hk : builtinKind "BaseException.__getattribute__" = some .slot := by decide +kernel
  have hsplit : splitId "BaseException.__getattribute__" = some ("BaseException", "__getattribute__") := by decide +kernel
  have ha := F.args_bexc_ga (.ref e) nameV
  obtain ⟨hh, g, dr, t, os⟩ := s
  have L0 : Looks M hh (typeOf (.ref e)) (.ref C) := hc ▸ (Looks.ld hx).andThen .now
  have L1 := looks_mroIn (M := M) X Z.m2
  have LI : Looks M hh (isInstance (.ref e) (.type "BaseException")) true := L0.andThen L1
  simp only [checkBuiltinCall, hk, hsplit]
  refine wpAny_bind (LI.at ?_)
  repeat (first | assumption | wp_step)
theorem on {tk : Tok} {Q : Fin → Shared → Prop} (X : K.In s.heap) (Z : dX K C) (hx : s.heap.get? e = some o) (hc : o.cls = .ref C) (hq : Q (.done (.ret (.ref C))) s) :
    wpAny (model prog w) A (Builtin.«object.__getattribute__» ⟨[.ref e, .str "__class__" tk], []⟩) Q E s := by
  obtain ⟨hh, g, dr, t, os⟩ := s
  have L0 : Looks (model prog w) hh (typeOf (.ref e)) (.ref C) := hc ▸ (Looks.ld hx).andThen .now
  have L3 := looks_findIn (M := model prog w) X Z.l3
  have f5 := KF.type_class
  have f6 := F.slot_gs_get.lookup
  have f7 := F.slot_gs_set.lookup
  repeat (any_goals (first | assumption | with_reducible refine L0.at ?_ | with_reducible refine L3.at ?_ | wp_step))
  refine lO X Z hx hc ?_
  repeat (any_goals (first | assumption | wp_step))
theorem j6 {Q : Option Value → Shared → Prop} (X : K.In s.heap) (Z : dX K C) (hx : s.heap.get? e = some o) (hc : o.cls = .ref C) (h : Q (some (.ref C)) { s with toks := s.toks + 1 }) :
    wpAny (model prog w) A (getAttr? (.ref e) "__class__") Q E s := by
  obtain ⟨hh, g, dr, t, os⟩ := s
  have L0 : Looks (model prog w) hh (typeOf (.ref e)) (.ref C) := hc ▸ (Looks.ld hx).andThen .now
  have L1 := looks_findIn (M := model prog w) X Z.l1
  have L2 := looks_findIn (M := model prog w) X Z.l2
  have f3 := F.excAttr_ValueError.ga.bind (.ref e)
  have hx2 : (Value.builtin "BaseException.__getattribute__" == Value.builtin "object.__getattribute__") = false := by decide +kernel
  have hx0 : ∀ ex : Bool, (ex && onTheHeap (Value.builtin "BaseException.__getattribute__")) = false := fun ex => by cases ex <;> rfl
  have hx1 : (onTheHeap (Value.ref C) && Value.builtin "BaseException.__getattribute__" == Value.builtin "object.__getattribute__") = false := by rw [hx2]; rfl
  unfold getAttr?
  repeat (any_goals (first | assumption | with_reducible refine L0.at ?_ | with_reducible refine L1.at ?_ | with_reducible refine L2.at ?_ | wp_step))
  refine codeAny_call_builtin F.excAttr_ValueError.ga.plain F.entry_bexc_ga (nC X Z hx hc (on X Z hx hc ?_))
  repeat (any_goals (first | assumption | wp_step))
theorem vH (Z : dX K C) : KitX K (.ref e) (.ref C) (fun h => ∃ o, h.get? e = some o ∧ o.cls = .ref C) where
  ty := fun M h _ ⟨o, h1, h2⟩ => h2 ▸ (Looks.ld h1).andThen .now
  it := fun M h X _ => by
    have c1 := Z.c1
    unfold clsIn at c1
    split at c1
    · rename_i c' d' cd' sl' ho
      intro A' Q' E' s' k q
      unfold isType loadHead
      exact wpAny_bind (wpAny_loadPart (k _ _ (X _ _ ho)) (wpAny_pure q))
    · cases c1
  ne := fun h tp dd its n sl X htp => by
    refine Bool.eq_false_iff.mpr fun q => ?_
    have e' : C = tp := Value.ref.inj (beq_iff_eq.mp q)
    subst e'
    have c1 := Z.c1
    unfold clsIn at c1
    split at c1
    · rename_i c' d' cd' sl' ho
      have z := (X _ _ ho).symm.trans htp
      cases z
    · cases c1
  ca := fun X ⟨o, h1, h2⟩ k => j6 X Z h1 h2 k
end
section
variable {X : Cx}
theorem nY : CallR X (.builtin "isinstance") (fun xs H Q => ∃ e c C u b, xs = [.ref e, c] ∧ tU c u ∧ H e = some (gv (.ref C) e) ∧ dX X.K C ∧ PySem.W.kitOne X.K (.ref C) u = some b ∧ Q (.bl b) H) := by
  intro pins s σ H xs us Q I r h
  obtain ⟨e, c, C, u, b, rfl, rc, he, Z, k, q⟩ := h
  obtain ⟨ux, uc, rfl, rx, rc'⟩ := m6 r
  have ec : uc = u := by
    cases rc with
    | ty n => exact rc'
    | own a => exact rc'
  subst ec
  cases (show ux = Value.ref e from rx)
  obtain ⟨⟨o, vs, h1, h2, _⟩, _, _⟩ := (show ObjOk X.prog X.w H s.heap e (gv (.ref C) e) from I.hok e _ he)
  exact kia_one (vH Z) I.kIn ⟨o, h1, h2⟩ k (fun z => nomatch z) fun tk => ⟨.bl b, H, I.tok _, rfl, q⟩
end
end L2
namespace L2
open PySem PySem.Spec PyProof.Rows
section
variable {X : Cx} {a b : Expr} {ta : TE}
def yD (xs ys : List V) : Bool := (List.range (min xs.length ys.length)).all (fun j => eqV (xs.getD j .non) (ys.getD j .non)) && xs.length == ys.length
def wA (K : PySem.W.Frag) (neg : Bool) : R2 := fun x y H Q => ∃ p p' xs ys, x = .ref p ∧ y = .ref p' ∧ SqT K H p xs ∧ SqT K H p' ys ∧ xs.all fP = true ∧ ys.all fP = true ∧ Q (.bl (neg ^^ yD xs ys)) H
theorem ki {A : Around} {s : Shared} {xs ys : List V} {us vs : List Value} (r : Vals xs us) (r' : Vals ys vs) (fx : xs.all fP = true) (fy : ys.all fP = true) (j : Nat) (h1 : j < us.toArray.size) (h2 : j < vs.toArray.size) :
    SeqAt.EqAt A s us.toArray[j] vs.toArray[j] (eqV (xs.getD j .non) (ys.getD j .non)) := by
  have e1 : us[j]? = some us.toArray[j] := by simp at h1; simp [h1]
  have e2 : vs[j]? = some vs.toArray[j] := by simp at h2; simp [h2]
  have l1 : j < xs.length := by rw [r.length]; simpa using h1
  have l2 : j < ys.length := by rw [r'.length]; simpa using h2
  have g1 : xs[j]? = some (xs.getD j .non) := by simp [List.getD, l1]
  have g2 : ys[j]? = some (ys.getD j .non) := by simp [List.getD, l2]
  obtain ⟨u, hu, ru⟩ := r.get g1
  obtain ⟨v, hv, rv⟩ := r'.get g2
  rw [e1] at hu
  rw [e2] at hv
  rw [Option.some.inj hu, Option.some.inj hv]
  exact uX ru rv (List.all_eq_true.mp fx _ (List.mem_of_getElem? g1)) (List.all_eq_true.mp fy _ (List.mem_of_getElem? g2))
theorem yr (hu : X.A.units < cLine) : OpR X (compareOp .Eq) (wA X.K false) := by
  intro pins s σ H x y v u Q I rx ry h
  obtain ⟨p, p', xs, ys, rfl, rfl, hx, hy, fx, fy, q⟩ := h
  cases (show v = Value.ref p from rx)
  cases (show u = Value.ref p' from ry)
  obtain ⟨its, r, pl, hz⟩ := I.tuple hx
  obtain ⟨its', r', pl', hz'⟩ := I.tuple hy
  refine SeqAt.eq_tupleAt pl pl' hu (fun j h1 h2 => ki r r' fx fy j h1 h2) ⟨.bl _, H, I, rfl, ?_⟩
  rw [List.size_toArray, List.size_toArray, ← r.length, ← r'.length]
  simpa [yD] using q
theorem zm (hu : X.A.units < cLine) : OpR X (compareOp .NotEq) (wA X.K true) := by
  intro pins s σ H x y v u Q I rx ry h
  obtain ⟨p, p', xs, ys, rfl, rfl, hx, hy, fx, fy, q⟩ := h
  cases (show v = Value.ref p from rx)
  cases (show u = Value.ref p' from ry)
  obtain ⟨its, r, pl, hz⟩ := I.tuple hx
  obtain ⟨its', r', pl', hz'⟩ := I.tuple hy
  refine SeqAt.RcNeAt.tuples pl pl' hu (fun j h1 h2 => ki r r' fx fy j h1 h2) X.prog X.w X.xe _ ⟨.bl _, H, I, rfl, ?_⟩
  rw [List.size_toArray, List.size_toArray, ← r.length, ← r'.length]
  simpa [yD] using q
theorem za (hu : X.A.units < cLine) : OpR X (compareOp .Eq) (fun x y H Q => rEq x y H Q ∨ wA X.K false x y H Q) := zX.or (yr hu)
theorem yX (hu : X.A.units < cLine) : OpR X (compareOp .NotEq) (fun x y H Q => rNe x y H Q ∨ wA X.K true x y H Q) := AB.or (zm hu)
theorem sX : CallR X (.builtin "isinstance") (fun xs H Q => (∃ x c t u b, xs = [x, c] ∧ tU c u ∧ iw X.K H x t ∧ PySem.W.kitOne X.K t u = some b ∧ Q (.bl b) H) ∨
    ∃ e c C u b, xs = [.ref e, c] ∧ tU c u ∧ H e = some (gv (.ref C) e) ∧ dX X.K C ∧ PySem.W.kitOne X.K (.ref C) u = some b ∧ Q (.bl b) H) := oY.or nY
end
end L2
set_option Elab.async false
set_option linter.all false
set_option maxRecDepth 100000
namespace L2
open PySem PySem.Spec PyProof.Rows
abbrev T (l : List Nat) : V := .str ⟨⟨l⟩⟩
def cs (x : Str) : List Nat := x.cps.toList
theorem yh (x : Str) : V.str x = T (cs x) := rfl
section
variable {X : Cx} {e a b c : Expr} {pos : Pos}
theorem PE.imp {t t' : TE} (h : PE X e t) (i : ∀ σ H Q, t' σ H Q → t σ H Q) : PE X e t' := fun pins s σ H Q I q => h pins s σ H Q I (i σ H Q q)
theorem OpR.imp {f : Value → Value → Sem Value} {r r' : R2} (h : OpR X f r) (i : ∀ x y H Q, r' x y H Q → r x y H Q) : OpR X f r' := fun pins s σ H x y v u Q I rx ry q => h pins s σ H x y v u Q I rx ry (i _ _ _ _ q)
theorem UnR.imp {f : Value → Sem Value} {r r' : V → Hp → VK → Prop} (h : UnR X f r) (i : ∀ x H Q, r' x H Q → r x H Q) : UnR X f r' := fun pins s σ H x v Q I rx q => h pins s σ H x v Q I rx (i _ _ _ q)
theorem CallR.imp {f : Value} {r r' : List V → Hp → VK → Prop} (h : CallR X f r) (i : ∀ x H Q, r' x H Q → r x H Q) : CallR X f r' := fun pins s σ H x v Q I rx q => h pins s σ H x v Q I rx (i _ _ _ q)
theorem IxR.imp {r r' : R2} (h : IxR X r) (i : ∀ x y H Q, r' x y H Q → r x y H Q) : IxR X r' := fun va sl pins s σ H x y v u Q I rx ry q hs => h va sl pins s σ H x y v u Q I rx ry (i _ _ _ _ q) hs
def zp (i : Nat) : TE := fun σ H Q => match σ[i]? with
  | some (some v) => Q v H
  | _ => False
theorem fv (i : Nat) {x : Str} (hN : X.N[i]? = some x := by rfl) (hv : Vis X.env.scope x := by first | exact Or.inl rfl | exact Or.inr (Or.inl rfl) | exact Or.inr (Or.inr rfl)) (hd : (x == ("__debug__" : Str)) = false := by decide)
    (hcd : (x == ("__classdict__" : Str)) = false := by decide) : PE X (.Name x pos) (zp i) := (zb hN hv hd hcd).imp fun σ H Q h => by
  unfold zp at h
  split at h
  · exact ⟨_, by assumption, h⟩
  · exact h.elim
theorem be {x : Str} {j} (l : List Nat) (h : x = ⟨⟨l⟩⟩ := by decide +kernel) : PE X (.Constant (.str x) j pos) (tC (T l)) := h ▸ yb
def yJ : R2
  | .int i, .int j, H, Q => Q (.int (i + j)) H
  | .str i, .str j, H, Q => (cs i).length + (cs j).length ≤ sizeLine ∧ Q (T (cs i ++ cs j)) H
  | _, _, _, _ => False
theorem zw (i j : Str) : V.str (i ++ j) = T (cs i ++ cs j) := by
  show V.str ⟨i.cps ++ j.cps⟩ = V.str ⟨⟨i.cps.toList ++ j.cps.toList⟩⟩
  congr 1
  congr 1
  exact (Array.ext' (by simp))
theorem cq : OpR X (binaryOp .Add) yJ := (zO.or qZ).imp fun x y H Q h => by
  unfold yJ at h
  split at h
  · exact .inl ⟨_, _, rfl, rfl, h⟩
  · refine .inr ⟨_, _, rfl, rfl, by simpa [cs, Str.length] using h.1, ?_⟩
    rw [zw]; exact h.2
  · exact h.elim
def gI (g : Int → Int → V) : R2
  | .int i, .int j, H, Q => Q (g i j) H
  | _, _, _, _ => False
def gIC (C : Int → Int → Prop) (g : Int → Int → V) : R2
  | .int i, .int j, H, Q => C i j ∧ Q (g i j) H
  | _, _, _, _ => False
theorem uV {g : Int → Int → V} : ∀ x y H Q, gI g x y H Q → rI0 g x y H Q := fun x y H Q h => by
  unfold gI at h; split at h
  · exact ⟨_, _, rfl, rfl, h⟩
  · exact h.elim
theorem nA {C : Int → Int → Prop} {g : Int → Int → V} : ∀ x y H Q, gIC C g x y H Q → rI C g x y H Q := fun x y H Q h => by
  unfold gIC at h; split at h
  · exact ⟨_, _, rfl, rfl, h.1, h.2⟩
  · exact h.elim
theorem uq : OpR X (binaryOp .Sub) (gI fun i j => .int (i - j)) := zD.imp uV
theorem vp : OpR X (binaryOp .Mult) (gIC CMul fun i j => .int (i * j)) := zj.imp nA
theorem ce : OpR X (binaryOp .Mod) (gIC (fun _ j => 0 < j) fun i j => .int (i % j)) := zk.imp nA
theorem eB : OpR X (binaryOp .FloorDiv) (gIC zB fun i j => .int (i / j)) := wD.imp nA
theorem im : OpR X (binaryOp .Pow) (gIC zv fun i j => .int (i ^ j.toNat)) := zx.imp nA
def yp : V → Hp → VK → Prop
  | .int i, H, Q => Q (.int (-i)) H
  | _, _, _ => False
theorem qE : UnR X (unaryOp .USub) yp := yU.imp fun x H Q h => by
  unfold yp at h; split at h
  · exact ⟨_, rfl, h⟩
  · exact h.elim
def leN (a b : List Nat) : Bool := !decide (b < a)
theorem sR : OpR X (compareOp .LtE) (fun x y H Q => ∃ i j, x = .str i ∧ y = .str j ∧ Q (.bl (leN (cs i) (cs j))) H) := by
  intro pins s σ H x y v u Q I rx ry h
  obtain ⟨i, j, rfl, rfl, q⟩ := h
  obtain ⟨t, rfl⟩ := rx
  obtain ⟨t', rfl⟩ := ry
  exact PySem.P.le_str ⟨.bl _, H, I, rfl, q⟩
def gLe : R2
  | .int i, .int j, H, Q => Q (.bl (decide (i ≤ j))) H
  | .str i, .str j, H, Q => Q (.bl (leN (cs i) (cs j))) H
  | _, _, _, _ => False
theorem iZ : OpR X (compareOp .LtE) gLe := (AG.or sR).imp fun x y H Q h => by
  unfold gLe at h; split at h
  · exact .inl ⟨_, _, rfl, rfl, h⟩
  · exact .inr ⟨_, _, rfl, rfl, h⟩
  · exact h.elim
def gLt : R2
  | .int i, .int j, H, Q => Q (.bl (decide (i < j))) H
  | .str i, .str j, H, Q => Q (.bl (decide (cs i < cs j))) H
  | _, _, _, _ => False
theorem pk : OpR X (compareOp .Lt) gLt := (AT.or tJ).imp fun x y H Q h => by
  unfold gLt at h; split at h
  · exact .inl ⟨_, _, rfl, rfl, h⟩
  · exact .inr ⟨_, _, rfl, rfl, h⟩
  · exact h.elim
theorem Ad : OpR X (compareOp .Gt) (gI fun i j => .bl (decide (j < i))) := As.imp uV
theorem AF : OpR X (compareOp .GtE) (gI fun i j => .bl (decide (j ≤ i))) := Am.imp uV
def eqS : V → V → Option Bool
  | .int i, .int j => some (decide (i = j))
  | .bl i, .bl j => some (decide (i = j))
  | .str i, .str j => some (decide (cs i = cs j))
  | .non, .non => some true
  | .non, .int _ => some false | .int _, .non => some false | .non, .bl _ => some false | .bl _, .non => some false | .non, .str _ => some false | .str _, .non => some false
  | .int _, .str _ => some false | .str _, .int _ => some false | .bl _, .str _ => some false | .str _, .bl _ => some false
  | _, _ => none
theorem qg (i j : Str) : V.str i = V.str j ↔ cs i = cs j := by
  constructor
  · intro h; injection h with h; rw [h]
  · intro h
    congr 1
    obtain ⟨⟨a⟩⟩ := i
    obtain ⟨⟨b⟩⟩ := j
    have h' : a = b := h
    rw [h']
theorem oW {x y : V} {k : Bool} (h : eqS x y = some k) : yx x y = true ∧ decide (x = y) = k := by
  unfold eqS at h
  split at h <;> (first | cases h) <;> refine ⟨rfl, ?_⟩
  case h_1 i j => exact decide_eq_decide.mpr (by simp)
  case h_2 i j => exact decide_eq_decide.mpr (by simp)
  case h_3 i j => exact decide_eq_decide.mpr (qg i j)
  all_goals simp
variable {ta tb tc : TE} {rest : List Expr}
def kB (Q : Bool → Hp → Prop) : VK := fun x H => match x with
  | .bl k => Q k H
  | _ => False
def rR (t : TE) : TT := fun σ H Q => t σ H (kB Q)
theorem kc {Q : Bool → Hp → Prop} {x : V} {H : Hp} (h : kB Q x H) : ∃ k, x = .bl k ∧ Q k H := by
  unfold kB at h
  split at h
  · exact ⟨_, rfl, h⟩
  · exact h.elim
theorem bB {op : CmpOp} {r : R2} (ho : OpR X (compareOp op) r) (ha : PE X a ta) (hb : PE X b tb) (hm : behindInMarks op b = false) : PT X (.Compare a [op] [b] pos) (rR (tOp r ta tb)) := by
  intro pins s σ H Q I h
  refine wpAny_isTrue_Compare1 (thn (ha pins s σ H _ I h) fun v s1 ⟨x, H1, I1, r1, q1⟩ => thn (hb pins s1 σ H1 _ I1 q1) fun u s2 ⟨y, H2, I2, r2, q2⟩ =>
    thn (ho pins s2 σ H2 x y v u _ I2 r1 r2 q2) fun c s3 ⟨z, H3, I3, r3, q3⟩ => ?_) hm
  obtain ⟨k, e, q3⟩ := kc q3
  subst e
  cases r3
  exact wpAny_truthy_bool ⟨H3, I3, q3⟩
theorem mQ {op : CmpOp} {t : TE} (h : PC X op a b t) (h1 : behindInMarks op b = false := by first | exact oZ _ (by decide) (by decide) | rfl) : PT X (.Compare a [op] [b] pos) (rR t) := by
  intro pins s σ H Q I hw
  refine wpAny_isTrue_Compare1 (thn (h pins s σ H _ I hw) fun v s1 h1 => thn h1 fun u s2 h2 => thn h2 fun c s3 ⟨x, H1, I1, r1, q1⟩ => ?_) h1
  obtain ⟨d, rfl, q⟩ := kc q1
  cases r1
  exact wpAny_truthy_bool ⟨H1, I1, q⟩
theorem ck {t : TE} (h : PE X e t) (he : ∀ whole, isTrue e X.env whole = (do let v ← whole; standAt e.pos; holding [v] (truthy v)) := by intro _; rfl) : PT X e (rR t) := by
  intro pins s σ H Q I hw
  refine isTrue_plain (thn (h pins s σ H _ I hw) fun v s1 ⟨x, H1, I1, r1, q1⟩ => ?_) (he _)
  obtain ⟨d, rfl, q⟩ := kc q1
  cases r1
  exact wpAny_truthy_bool ⟨H1, I1, q⟩
def vf (r r' : R2) (ta tb tc : TE) : TE := fun σ H Q => ta σ H fun x H1 => tb σ H1 fun y H2 => r x y H2 (kB fun k H3 => if k = true then tc σ H3 fun w' H4 => r' y w' H4 Q else Q (.bl false) H3)
theorem kt {op op' : CmpOp} {r r' : R2} (ho : OpR X (compareOp op) r) (ho' : OpR X (compareOp op') r') (ha : PE X a ta) (hb : PE X b tb) (hc : PE X c tc)
    (hm : lastMarks [op, op'] [b, c] = false := by with_unfolding_all rfl) : PE X (.Compare a [op, op'] [b, c] pos) (vf r r' ta tb tc) := by
  intro pins s σ H Q I h
  refine Compare_chain (thn (ha pins s σ H _ I h) fun v s1 ⟨x, H1, I1, r1, q1⟩ => chain_link (thn (hb pins s1 σ H1 _ I1 q1) fun u s2 ⟨y, H2, I2, r2, q2⟩ =>
    thn (ho pins s2 σ H2 x y v u _ I2 r1 r2 q2) fun d s3 ⟨z, H3, I3, r3, q3⟩ => ?_)) hm
  obtain ⟨k, e, q3⟩ := kc q3
  subst e
  cases r3
  refine wpAny_truthy_bool ?_
  cases k with
  | false => exact ite_ff ⟨.bl false, H3, I3, rfl, q3⟩
  | true => exact ite_tt (chain_last (thn (hc pins s3 σ H3 _ I3 q3) fun w' s4 ⟨z', H4, I4, r4, q4⟩ => ho' pins s4 σ H4 y z' u w' Q I4 r2 r4 q4))
def At (ta tb : TE) : TE := fun σ H Q => ta σ H (kB fun c H1 => if c = true then tb σ H1 Q else Q (.bl false) H1)
def fOr (ta tb : TE) : TE := fun σ H Q => ta σ H (kB fun c H1 => if c = true then Q (.bl true) H1 else tb σ H1 Q)
def zU (ta : TE) : TE := fun σ H Q => ta σ H (kB fun c H1 => Q (.bl (!c)) H1)
theorem gr (ha : PE X a ta) (hb : PE X (.BoolOp .And (b :: rest) pos) tb) : PE X (.BoolOp .And (a :: b :: rest) pos) (At ta tb) := by
  intro pins s σ H Q I h
  refine BoolOp_and (thn (ha pins s σ H _ I h) fun v s1 ⟨x, H1, I1, r1, q1⟩ => ?_)
  obtain ⟨c, rfl, q1⟩ := kc q1
  cases r1
  refine wpAny_truthy_bool ?_
  cases c with
  | true => exact hb pins s1 σ H1 Q I1 q1
  | false => exact ⟨.bl false, H1, I1, rfl, q1⟩
theorem xL (ha : PE X a ta) (hb : PE X (.BoolOp .Or (b :: rest) pos) tb) : PE X (.BoolOp .Or (a :: b :: rest) pos) (fOr ta tb) := by
  intro pins s σ H Q I h
  refine BoolOp_or (thn (ha pins s σ H _ I h) fun v s1 ⟨x, H1, I1, r1, q1⟩ => ?_)
  obtain ⟨c, rfl, q1⟩ := kc q1
  cases r1
  refine wpAny_truthy_bool ?_
  cases c with
  | false => exact hb pins s1 σ H1 Q I1 q1
  | true => exact ⟨.bl true, H1, I1, rfl, q1⟩
theorem nO (ha : PE X a ta) : PE X (.UnaryOp .Not a pos) (zU ta) := by
  intro pins s σ H Q I h
  refine UnaryOp_ (thn (ha pins s σ H _ I h) fun v s1 ⟨x, H1, I1, r1, q1⟩ => ?_)
  obtain ⟨c, rfl, q1⟩ := kc q1
  cases r1
  exact not_of (wpAny_truthy_bool ⟨.bl (!c), H1, I1, rfl, q1⟩)
def yM : List V → Hp → VK → Prop
  | [.int i], H, Q => Q (.int (if i < 0 then -i else i)) H
  | _, _, _ => False
theorem yT : CallR X (.builtin "abs") yM := uC.imp fun x H Q h => by
  unfold yM at h; split at h
  · exact ⟨_, rfl, h⟩
  · exact h.elim
def zc : List V → Hp → VK → Prop
  | [.int i, .int j], H, Q => Q (.int (if j < i then j else i)) H
  | _, _, _ => False
theorem vd (hc : X.calm = true) : CallR X (.builtin "min") zc := (tq hc).imp fun x H Q h => by
  unfold zc at h; split at h
  · exact ⟨_, _, rfl, h⟩
  · exact h.elim
def zt : List V → Hp → VK → Prop
  | [.int i, .int j], H, Q => Q (.int (if j > i then j else i)) H
  | _, _, _ => False
theorem yq (hc : X.calm = true) : CallR X (.builtin "max") zt := (s_ hc).imp fun x H Q h => by
  unfold zt at h; split at h
  · exact ⟨_, _, rfl, h⟩
  · exact h.elim
def v4 (K : PySem.W.Frag) : List V → Hp → VK → Prop
  | [.str y], H, Q => (cs y).length ≤ sizeLine ∧ Q (.int (cs y).length) H
  | [.ref p], H, Q => ∃ xs, (SqL K H p xs ∨ SqT K H p xs) ∧ Q (.int xs.length) H
  | _, _, _ => False
theorem yy : CallR X (.builtin "len") (v4 X.K) := ve.imp fun x H Q h => by
  unfold v4 at h; split at h
  · exact ⟨_, _, rfl, ⟨by simpa [cs, Str.length] using h.1, rfl⟩, by simpa [cs, Str.length] using h.2⟩
  · obtain ⟨xs, hx, q⟩ := h
    rcases hx with hx | hx
    · exact ⟨_, _, rfl, .inl ⟨xs, hx, rfl⟩, q⟩
    · exact ⟨_, _, rfl, .inr ⟨xs, hx, rfl⟩, q⟩
  · exact h.elim
def cw (H : Hp) : V → Option String
  | .non => some "NoneType"
  | .bl _ => some "bool"
  | .int _ => some "int"
  | .str _ => some "str"
  | .ref p => match H p with
    | some (.lst _) => some "list"
    | some (.frz _ (.lst _)) => some "list"
    | some (.tup _) => some "tuple"
    | some (.dK _) => some "dict"
    | _ => none
  | _ => none
def cp (t n : String) : Bool := t == n || (t == "bool" && n == "int")
def gF (t : String) : Prop := t = "NoneType" ∨ t = "bool" ∨ t = "int" ∨ t = "str" ∨ t = "list" ∨ t = "tuple" ∨ t = "dict"
theorem Aq {K : PySem.W.Frag} {t n : String} (h : gF t) (hn : n = "int" ∨ n = "bool" ∨ n = "str" ∨ n = "list" ∨ n = "tuple" ∨ n = "dict") : PySem.W.kitOne K (.type t) (.type n) = some (cp t n) := by
  rcases h with rfl | rfl | rfl | rfl | rfl | rfl | rfl <;> rcases hn with rfl | rfl | rfl | rfl | rfl | rfl <;> kernel_rfl
theorem oS {K : PySem.W.Frag} {H : Hp} {x : V} {t : String} (h : cw H x = some t) : iw K H x (.type t) ∧ gF t := by
  unfold cw at h
  split at h
  · cases h; exact ⟨.non, by simp [gF]⟩
  · cases h; exact ⟨.bl _, by simp [gF]⟩
  · cases h; exact ⟨.int _, by simp [gF]⟩
  · cases h; exact ⟨.str _, by simp [gF]⟩
  · split at h
    · rename_i e; cases h; exact ⟨.lst e, by simp [gF]⟩
    · rename_i e; cases h; exact ⟨.frz e, by simp [gF]⟩
    · rename_i e; cases h; exact ⟨.tup e, by simp [gF]⟩
    · rename_i e; cases h; exact ⟨.dK e, by simp [gF]⟩
    · cases h
  · cases h
def pC (n : String) : Bool := n == "int" || n == "bool" || n == "str" || n == "list" || n == "tuple" || n == "dict"
def we (K : PySem.W.Frag) : List V → Hp → VK → Prop
  | [x, .ty n], H, Q => (match cw H x with
    | some t => pC n = true ∧ Q (.bl (cp t n)) H
    | none => ∃ e C b, x = .ref e ∧ H e = some (gv (.ref C) e) ∧ dX K C ∧ PySem.W.kitOne K (.ref C) (.type n) = some b ∧ Q (.bl b) H)
  | [.ref e, .ref D], H, Q => ∃ C b, H e = some (gv (.ref C) e) ∧ dX K C ∧ PySem.W.kitOne K (.ref C) (.ref D) = some b ∧ Q (.bl b) H
  | _, _, _ => False
theorem zK : CallR X (.builtin "isinstance") (we X.K) := sX.imp fun xs H Q h => by
  unfold we at h
  split at h
  · rename_i x n
    split at h
    · rename_i t ht
      obtain ⟨ty, hb⟩ := oS (K := X.K) ht
      obtain ⟨hn, q⟩ := h
      refine .inl ⟨x, _, _, _, _, rfl, .ty n, ty, Aq hb ?_, q⟩
      simpa [pC, or_assoc] using hn
    · obtain ⟨e, C, b, rfl, he, Z, k, q⟩ := h
      exact .inr ⟨e, _, C, _, b, rfl, .ty n, he, Z, k, q⟩
  · rename_i e D
    obtain ⟨C, b, he, Z, k, q⟩ := h
    exact .inr ⟨e, _, C, _, b, rfl, .own D, he, Z, k, q⟩
  · exact h.elim
end
section
variable {X : Cx} {a b : Expr} {ta tb : TE} {pos pos' : Pos}
def gIx (K : PySem.W.Frag) : R2
  | .str z, .int i, H, Q => (cs z).length ≤ sizeLine ∧ (match atI (cs z) i with
    | some c => Q (T [c]) H
    | none => False)
  | .ref p, .int i, H, Q => ∃ xs v, (SqL K H p xs ∨ SqT K H p xs) ∧ atI xs i = some v ∧ Q v H
  | _, _, _, _ => False
theorem y0 : IxR X (gIx X.K) := zA.imp fun x y H Q h => by
  unfold gIx at h
  split at h
  · obtain ⟨hz, h⟩ := h
    split at h
    · rename_i c hc
      exact .inr (.inr ⟨_, _, c, rfl, rfl, by simpa [cs, Str.length] using hz, hc, h⟩)
    · exact h.elim
  · obtain ⟨xs, v, hs | hs, hv, q⟩ := h
    · exact .inl ⟨_, xs, _, v, rfl, rfl, hs, hv, q⟩
    · exact .inr (.inl ⟨_, xs, _, v, rfl, rfl, hs, hv, q⟩)
  · exact h.elim
def Bc (xs : List V) (H H1 : Hp) (Q : VK) : V → Prop
  | .int i => (match atI xs i with
    | some (.ref q) => H q = none ∧ (match H1 q with
      | some o => vq o = true ∧ Q (.ref q) (upd H q o)
      | none => False)
    | some v => Q v H
    | none => False)
  | _ => False
end
def sp0 (f : Hp → VK → XK → Prop) : Sp := fun vs H Q E => match vs with
  | [] => f H Q E
  | _ => False
def sp1 (f : V → Hp → VK → XK → Prop) : Sp := fun vs H Q E => match vs with
  | [x] => f x H Q E
  | _ => False
def sp2 (f : V → V → Hp → VK → XK → Prop) : Sp := fun vs H Q E => match vs with
  | [x, y] => f x y H Q E
  | _ => False
def sp3 (f : V → V → V → Hp → VK → XK → Prop) : Sp := fun vs H Q E => match vs with
  | [x, y, z] => f x y z H Q E
  | _ => False
def sp4 (f : V → V → V → V → Hp → VK → XK → Prop) : Sp := fun vs H Q E => match vs with
  | [x, y, z, u] => f x y z u H Q E
  | _ => False
section
variable {vs : List V} {H : Hp} {Q : VK} {E : XK}
theorem sp1.inv {f} (h : sp1 f vs H Q E) : ∃ x, vs = [x] ∧ f x H Q E := by
  unfold sp1 at h; split at h
  · exact ⟨_, rfl, h⟩
  · exact h.elim
theorem sp2.inv {f} (h : sp2 f vs H Q E) : ∃ x y, vs = [x, y] ∧ f x y H Q E := by
  unfold sp2 at h; split at h
  · exact ⟨_, _, rfl, h⟩
  · exact h.elim
theorem sp3.inv {f} (h : sp3 f vs H Q E) : ∃ x y z, vs = [x, y, z] ∧ f x y z H Q E := by
  unfold sp3 at h; split at h
  · exact ⟨_, _, _, rfl, h⟩
  · exact h.elim
theorem sp4.inv {f} (h : sp4 f vs H Q E) : ∃ x y z u, vs = [x, y, z, u] ∧ f x y z u H Q E := by
  unfold sp4 at h; split at h
  · exact ⟨_, _, _, _, rfl, h⟩
  · exact h.elim
theorem sp1.len {f} (h : sp1 f vs H Q E) : vs.length = 1 := by obtain ⟨_, rfl, _⟩ := sp1.inv h; rfl
theorem sp2.len {f} (h : sp2 f vs H Q E) : vs.length = 2 := by obtain ⟨_, _, rfl, _⟩ := sp2.inv h; rfl
theorem sp3.len {f} (h : sp3 f vs H Q E) : vs.length = 3 := by obtain ⟨_, _, _, rfl, _⟩ := sp3.inv h; rfl
theorem sp4.len {f} (h : sp4 f vs H Q E) : vs.length = 4 := by obtain ⟨_, _, _, _, rfl, _⟩ := sp4.inv h; rfl
end
def asI (x : V) (f : Int → Prop) : Prop := match x with
  | .int i => f i
  | _ => False
def asT (x : V) (f : List Nat → Prop) : Prop := match x with
  | .str y => f (cs y)
  | _ => False
def asB (x : V) (f : Bool → Prop) : Prop := match x with
  | .bl y => f y
  | _ => False
def asR (x : V) (f : Addr → Prop) : Prop := match x with
  | .ref y => f y
  | _ => False
theorem asI.inv {x : V} {f : Int → Prop} (h : asI x f) : ∃ i, x = .int i ∧ f i := by
  unfold asI at h; split at h
  · exact ⟨_, rfl, h⟩
  · exact h.elim
theorem asT.inv {x : V} {f : List Nat → Prop} (h : asT x f) : ∃ l, x = T l ∧ f l := by
  unfold asT at h; split at h
  · exact ⟨_, rfl, h⟩
  · exact h.elim
theorem asR.inv {x : V} {f : Addr → Prop} (h : asR x f) : ∃ i, x = .ref i ∧ f i := by
  unfold asR at h; split at h
  · exact ⟨_, rfl, h⟩
  · exact h.elim
def asK (H : Hp) (x : V) (f : String → Prop) : Prop := match cw H x with
  | some t => f t
  | none => False
theorem asK.inv {H : Hp} {x : V} {f : String → Prop} (h : asK H x f) : ∃ t, cw H x = some t ∧ gF t ∧ f t := by
  unfold asK at h; split at h
  · rename_i t ht
    exact ⟨t, ht, (oS (K := default) ht).2, h⟩
  · exact h.elim
theorem asK.of {H : Hp} {x : V} {f : String → Prop} {t : String} (e : cw H x = some t) (h : f t) : asK H x f := by unfold asK; rw [e]; exact h
section
variable {X : Cx} (K : PySem.W.Frag)
theorem cW (h : X.K = K := by rfl) : CallR X (.builtin "isinstance") (we K) := h ▸ zK
theorem fO (h : X.K = K := by rfl) : CallR X (.builtin "len") (v4 K) := h ▸ yy
theorem ao (h : X.K = K := by rfl) : IxR X (gIx K) := h ▸ y0
theorem v7 (h : X.K = K := by rfl) : SlR X (AQ K) := h ▸ yV
theorem sL {tg l : Expr} {tl : TE} (hl : PE X l tl) (h : X.K = K := by rfl) : PI X tg l (tN K tl) := h ▸ yt hl
theorem fw {tg l : Expr} {tl : TE} (hl : PE X l tl) (h : X.K = K := by rfl) : PI X tg l (mK K tl) := h ▸ xa hl
end
theorem Ah {H : Hp} {b : Bool} : cw H (.bl b) = some "bool" := rfl
theorem ye {H : Hp} {i : Int} : cw H (.int i) = some "int" := rfl
theorem zJ {H : Hp} {s : Str} : cw H (.str s) = some "str" := rfl
theorem yi {H : Hp} : cw H .non = some "NoneType" := rfl
theorem y8 : pC "int" = true := by decide
theorem jH : cp "NoneType" "int" = false := by decide
theorem pF : cp "bool" "int" = true := by decide
theorem qp : cp "int" "int" = true := by decide
theorem qG : cp "str" "int" = false := by decide
theorem pb : cp "list" "int" = false := by decide
theorem nR : cp "tuple" "int" = false := by decide
theorem pZ : cp "dict" "int" = false := by decide
theorem xq : pC "bool" = true := by decide
theorem jo : cp "NoneType" "bool" = false := by decide
theorem nU : cp "bool" "bool" = true := by decide
theorem oP : cp "int" "bool" = false := by decide
theorem pY : cp "str" "bool" = false := by decide
theorem oB : cp "list" "bool" = false := by decide
theorem lT : cp "tuple" "bool" = false := by decide
theorem nv : cp "dict" "bool" = false := by decide
theorem yj : pC "str" = true := by decide
theorem jI : cp "NoneType" "str" = false := by decide
theorem pD : cp "bool" "str" = false := by decide
theorem qP : cp "int" "str" = false := by decide
theorem qR : cp "str" "str" = true := by decide
theorem pW : cp "list" "str" = false := by decide
theorem nL : cp "tuple" "str" = false := by decide
theorem oX : cp "dict" "str" = false := by decide
theorem wO : pC "list" = true := by decide
theorem jb : cp "NoneType" "list" = false := by decide
theorem nE : cp "bool" "list" = false := by decide
theorem pQ : cp "int" "list" = false := by decide
theorem pz : cp "str" "list" = false := by decide
theorem oM : cp "list" "list" = true := by decide
theorem lJ : cp "tuple" "list" = false := by decide
theorem m9 : cp "dict" "list" = false := by decide
theorem uH : pC "tuple" = true := by decide
theorem iO : cp "NoneType" "tuple" = false := by decide
theorem lV : cp "bool" "tuple" = false := by decide
theorem oJ : cp "int" "tuple" = false := by decide
theorem nN : cp "str" "tuple" = false := by decide
theorem lG : cp "list" "tuple" = false := by decide
theorem kQ : cp "tuple" "tuple" = true := by decide
theorem lF : cp "dict" "tuple" = false := by decide
theorem wR : pC "dict" = true := by decide
theorem jr : cp "NoneType" "dict" = false := by decide
theorem oC : cp "bool" "dict" = false := by decide
theorem pA : cp "int" "dict" = false := by decide
theorem oU : cp "str" "dict" = false := by decide
theorem oh : cp "list" "dict" = false := by decide
theorem lP : cp "tuple" "dict" = false := by decide
theorem m_ : cp "dict" "dict" = true := by decide
theorem AR {H : Hp} {b : Bool} {f : String → Prop} : asK H (.bl b) f = f "bool" := rfl
theorem zC {H : Hp} {i : Int} {f : String → Prop} : asK H (.int i) f = f "int" := rfl
theorem zd {H : Hp} {i : Str} {f : String → Prop} : asK H (.str i) f = f "str" := rfl
theorem zq {H : Hp} {f : String → Prop} : asK H .non f = f "NoneType" := rfl
def vV : Expr → Bool
  | .Starred _ _ => false
  | _ => true
theorem tO {e : Expr} {es : List Expr} {env : Env} (h : vV e = true) : starEach (e :: es) env = (false, eval e env) :: starEach es env := by
  cases e <;> first | rfl | cases h
structure FA (X : Cx) (es : List Expr) (t : TA) : Prop where
  pa : PA X es t
theorem ae {X : Cx} : FA X [] tZ := ⟨zL⟩
theorem aa {X : Cx} {e : Expr} {es : List Expr} {te : TE} {t : TA} (ha : PE X e te) (hr : FA X es t) (h : vV e = true := by rfl) : FA X (e :: es) (vQ te t) := ⟨wW ha hr.pa (tO h)⟩
theorem wJ {H : Hp} {P : Hp → Prop} : (∃ G, Gc H G H ∧ P G) ↔ P H := by
  constructor
  · rintro ⟨G, g, p⟩
    have e : G = H := by
      funext b
      cases h : H b with
      | none => exact g.b.free h
      | some o => exact g.a b o h
    rw [← e]; exact p
  · exact fun p => ⟨H, Gc.refl, p⟩
theorem A6 {CX : CXT} {P : Program} {w : World} {K : PySem.W.Frag} {mg : Str → Option Value} {base : Heap} {N : List Str} {qual : Str} {scope : Scope} {f : Addr} {cd : Value} {A : Around} {outer : List Env} {s : Shared} {H : Hp} {E : XK} :
    (bZ CX P w K mg base N qual scope f cd A outer s H E).K = K := rfl
def isI : V → Bool
  | .int _ => true
  | _ => false
def isS : V → Bool
  | .str _ => true
  | _ => false
theorem pS {H : Hp} {x : V} {t : String} (h : cw H x = some t) : (t == "int") = isI x := by
  unfold cw at h
  split at h
  case h_5 => split at h <;> cases h <;> simp [isI]
  all_goals (cases h <;> simp [isI])
theorem tM {H : Hp} : Same H H ↔ True := ⟨fun _ => trivial, fun _ => Same.refl H⟩
theorem wg {i : Int} : isI (.int i) = true := rfl
theorem yB {i : Bool} : isI (.bl i) = false := rfl
theorem xc {i : Str} : isI (.str i) = false := rfl
theorem wG {i : Addr} : isI (.ref i) = false := rfl
theorem xl  : isI (.non) = false := rfl
theorem w8 {i : Int} : isS (.int i) = false := rfl
theorem zy {i : Bool} : isS (.bl i) = false := rfl
theorem wv {i : Str} : isS (.str i) = true := rfl
theorem wV {i : Addr} : isS (.ref i) = false := rfl
theorem wu  : isS (.non) = false := rfl
section
variable {K : PySem.W.Frag} {C D : Addr} {b : Bool} {cl : ClassData}
theorem mX (o : PySem.W.clsIn K D = some cl) (t : PySem.W.typeIn K (.ref D) = some (.type "type")) (m : PySem.W.mroIn K C (.ref D) = some b) : PySem.W.kitCls K (.ref C) (.ref D) = some b := by
  unfold PySem.W.kitCls
  simp only [o, t, Option.isSome_some, beq_self_eq_true, Bool.and_self, if_true]
  exact m
theorem i7 (o : PySem.W.clsIn K D = some cl) (t : PySem.W.typeIn K (.ref D) = some (.type "type")) (s : PySem.W.mroIn K D (.type "BaseException") = some true) (m : PySem.W.mroIn K C (.ref D) = some b) : PySem.W.exmOne K (.ref C) (.ref D) = some b := by
  unfold PySem.W.exmOne
  have e : PySem.W.subIn K (.ref D) (.type "BaseException") = some true := s
  rw [e, if_pos (by rfl)]
  exact mX o t m
theorem cr (o : PySem.W.clsIn K D = some cl) (t : PySem.W.typeIn K (.ref D) = some (.type "type")) (s : PySem.W.mroIn K C (.ref C) = some true) (m : PySem.W.mroIn K C (.ref D) = some b) : PySem.W.kitOne K (.ref C) (.ref D) = some b := by
  unfold PySem.W.kitOne
  by_cases e : ((Value.ref C == Value.ref D) = true)
  · rw [if_pos e]
    have e' : C = D := Value.ref.inj (beq_iff_eq.mp e)
    subst e'
    rw [s] at m; exact m
  · rw [if_neg e]; exact mX o t m
theorem qe : PySem.W.kitMeta "ValueError" = true := by kernel_rfl
theorem jm (m : PySem.W.mroIn K C (.type "ValueError") = some b) : PySem.W.kitOne K (.ref C) (.type "ValueError") = some b := by
  unfold PySem.W.kitOne
  rw [if_neg (by intro z; cases (beq_iff_eq.mp z))]
  unfold PySem.W.kitCls
  simp only [qe, if_true]
  exact m
end
theorem u8 {l : PySem.W.OpenLaw} {n k : Nat} {q : Program} {loose : List Str} {XP : (Str → Option Value) → Heap → Prop} {YP : World → Heap → Prop} {d : DefRec} {K : Params → PySem.W.Frag} {sp : PySem.W.Frag → Sp} {x : Str}
    (hn : l.most = some n) (hn2 : n ≤ sizeLine) (hdf : d.params.defaults = []) (hr : Room k callerA)
    (hY : ∀ (w : World) (h : Heap), YP w h → (K w.params).In h)
    (F : ∀ (w : World) (mg : Str → Option Value) (fa : Addr) (h : Heap), (K w.params).In h → h.Ns mainGlobals mg → mg d.name = some (.ref fa) →
      ∃ fd : FuncData, (∀ (s : Shared) (u : Value), BindsTo s fd ⟨[u], []⟩ [(x, u)]) ∧
        ∀ base : Heap, (K w.params).In base → base.Ns mainGlobals mg → cz l.prog w (K w.params) mg base (XE l.prog w) k fa fd [x] (sp (K w.params)))
    (hsp : ∀ (K : PySem.W.Frag) (H : Hp) (a : Addr) (ns : List Int), ns.length ≤ n → uv H → SqL K H a (ns.map V.int) → sp K [.ref a] H (fun v _ => v = .bl true) fun _ _ _ => False) :
    PySem.W.WalkO q loose XP YP l.row.toRowW d [] (fun f vs => PySem.call f vs) :=
  wx (K := K) (CX := fun w => XE l.prog w) (sp := fun w => sp (K w.params)) hn hn2 hdf hr hY F (fun w H a ns h1 h2 h3 => hsp (K w.params) H a ns h1 h2 h3) fun w H s e s' ⟨_, _, _, _, _, _, _, _, _, _, _, z⟩ => z
end L2
set_option Elab.async false
set_option linter.all false
set_option maxRecDepth 100000
namespace L2
open PySem PySem.Spec PyProof.Rows
section
variable {prog : Program} {w : World} {A : Around} {R : Result → Shared → Prop} {s : Shared}
theorem oy {elt target iter : Expr} {ifs : List Expr} {scope : Scope} {pos : Pos} {it acc : Value} {env : Env} (I : Nat → Shared → Prop)
    (turn : ∀ n s, I n s → wpAny (model prog w) A (pyNext it) (fun r s₁ => match r with
      | none => R (.ok .next) s₁
      | some v => wpAny (model prog w) A (letOwnedTupleGo target it v) (fun _ s₁' => wpAny (model prog w) A (assign target env v) (fun _ s₂ =>
          wpAny (model prog w) A (forIn ifs true fun c r => if r = true then do let ok ← isTrue c env (eval c env); pure (ForInStep.yield ok) else pure (ForInStep.yield r)) (fun ok s₃ =>
            if ok = true then wpAny (model prog w) A (eval elt env) (fun x s₄ =>
              wpAny (model prog w) A (call (.builtin "list.append") [acc, x]) (fun _ s₅ => ∃ m, m < n ∧ I m s₅) (notedBy (model prog w) A env fun e s' => R (.error e) s') s₄) (notedBy (model prog w) A env fun e s' => R (.error e) s') s₃
            else ∃ m, m < n ∧ I m s₃) (notedBy (model prog w) A env fun e s' => R (.error e) s') s₂) (notedBy (model prog w) A env fun e s' => R (.error e) s') s₁') (notedBy (model prog w) A env fun e s' => R (.error e) s') s₁) (notedBy (model prog w) A env fun e s' => R (.error e) s') s)
    (n : Nat) (h : I n s) :
    codeAny (model prog w) A (.compLoop (.ListComp elt [⟨target, iter, ifs, 0⟩] scope pos) 0 it acc env) R s := by
  refine codeAny_loop rfl I (fun n s hI => ?_) n h
  show wpAny _ A ((compTurn (.ListComp elt [⟨target, iter, ifs, 0⟩] scope pos) 0 it acc env).onRaise (fun x => do noteFrame x env; theTreesLotGoes x)) _ _ s
  refine wpAny_noted ?_
  rw [compTurn_list]
  refine wpAny_bind (wpAny_standAt (wpAny_bind (wpAny_mono (turn n s hI) (fun r s₁ h₁ => ?_) fun _ _ h' => h')))
  cases r with
  | none => exact wpAny_pure h₁
  | some v =>
    refine wpAny_bind (wpAny_mono h₁ (fun _ s₁' h₁' => ?_) fun _ _ h' => h')
    refine wpAny_bind (wpAny_mono h₁' (fun _ s₂ h₂ => wpAny_bind (wpAny_mono h₂ (fun ok s₃ h₃ => ?_) fun _ _ h' => h')) fun _ _ h' => h')
    cases ok with
    | false => exact wpAny_pure ⟨rfl, h₃⟩
    | true =>
      exact wpAny_bind (wpAny_bind (wpAny_mono h₃ (fun x s₄ h₄ => wpAny_bind (wpAny_mono h₄ (fun _ s₅ h₅ => wpAny_pure (wpAny_pure ⟨rfl, h₅⟩)) fun _ _ h' => h')) fun _ _ h' => h'))
end
def cM (X : Cx) (N : List Str) (scope : Scope) (cl : List (Str × Addr)) (C : Addr) (s₂ : Shared) (H₂ : Hp) (ex : List Addr) (pn : List (Addr × Obj)) : Cx :=
  { X with N := N, s₀ := s₂, H₀ := H₂, env := compEnvC scope cl C X.env, outer := X.stack, stack := X.stack, ex := ex, fn := fun _ => false, pn := pn, xe := fun _ _ => False }
structure CompScope (X : Cx) (scope : Scope) (cl : List (Str × Addr)) (x : Str) (fr : List Str) : Prop where
  clos : closureFor scope X.env = pure cl
  nocell : ∀ y ∈ scope.names, y.2 ≠ .cell
  kind : scope.kind = .function
  names : ∀ y ∈ scope.names, y.2 = .local → scope.names.lookup y.1 = some .local
  own : scope.names.lookup x = some .local
  keys : ∀ y ∈ cl, y.1 ∈ fr
  cells : fr.map (fun y => cl.lookup y) = fr.map (fun y => X.env.cells.lookup y)
  kinds : ∀ y ∈ fr, X.env.kindOf y = some .cell ∨ X.env.kindOf y = some .free
  kin : ∀ y ∈ fr, (relabel scope X.env).names.lookup y = some .cell ∨ (relabel scope X.env).names.lookup y = some .free
  only : ∀ y, ((relabel scope X.env).names.lookup y = some .cell ∨ (relabel scope X.env).names.lookup y = some .free) → y ∈ fr
theorem qN {α : Type} {l : List (Str × α)} {y : Str} {c : α} (h : l.lookup y = some c) : (y, c) ∈ l := PySem.mem_of_lookup h
theorem CompScope.cell {X : Cx} {scope : Scope} {cl : List (Str × Addr)} {x : Str} {fr : List Str} (S : CompScope X scope cl x fr) {y : Str} (h : y ∈ fr) : cl.lookup y = X.env.cells.lookup y := by
  have e := S.cells
  obtain ⟨i, hi, rfl⟩ := List.getElem_of_mem h
  have := congrArg (fun l => l[i]?) e
  simpa [hi] using this
theorem CompScope.sub {X : Cx} {scope : Scope} {cl : List (Str × Addr)} {x : Str} {fr : List Str} (S : CompScope X scope cl x fr) {y : Str} {c : Addr} (h : cl.lookup y = some c) : X.env.cells.lookup y = some c := by
  rw [← S.cell (S.keys _ (qN h))]; exact h
def PTs (X : Cx) (ifs : List Expr) (t : TT) : Prop :=
  ∀ (pins : List (Addr × Obj)) (s : Shared) (σ : St) (H : Hp) (Q : Bool → Hp → Prop), Inv X pins σ H s → t σ H Q →
    wpAny (model X.prog X.w) X.A (forIn ifs true fun c r => if r = true then do let ok ← isTrue c X.env (eval c X.env); pure (ForInStep.yield ok) else pure (ForInStep.yield r)) (TP X pins σ Q) X.xe s
theorem iM {X : Cx} : PTs X [] (fun _ H Q => Q true H) := fun pins s σ H Q I h => wpAny_tests_nil ⟨H, I, h⟩
theorem iT {X : Cx} {c : Expr} {t : TT} (h : PT X c t) : PTs X [c] t := fun pins s σ H Q I hw => wpAny_tests_one (h pins s σ H Q I hw)
end L2
set_option Elab.async false
set_option maxHeartbeats 4000000
namespace MT
def dg (n : Nat) : List Nat := (Nat.toDigits 10 n).map Char.toNat
def isD (c : Nat) : Bool := decide (48 ≤ c) && decide (c ≤ 57)
def vl (t : List Nat) : Nat := t.foldl (fun n c => 10 * n + (c - 48)) 0
def nin (t : List Nat) : Nat := t.foldl (fun n c => if isD c then 10 * n + (c - 48) else n) 0
def fg (t : List Nat) : List Nat := if t.take 1 = [45] then t.drop 1 else t
def good (t : List Nat) : Prop := fg t ≠ [] ∧ (∀ c ∈ fg t, isD c = true) ∧ ((fg t).head? = some 48 → t = [48])
end MT
set_option Elab.async false
set_option linter.all false
set_option maxRecDepth 100000
namespace L2
open PySem PySem.Spec PyProof.Rows Builtin Builtin.Str
section
variable {X : Cx} {e a b c : Expr} {pos : Pos}
def gIn (neg : Bool) : R2
  | .str i, .str j, H, Q => (match cs i with
    | [c] => Q (.bl (neg ^^ decide (c ∈ cs j))) H
    | _ => False)
  | _, _, _, _ => False
theorem zu {i : Str} {c : Nat} (h : cs i = [c]) : i = ⟨#[c]⟩ := by
  obtain ⟨⟨l⟩⟩ := i
  have h' : l = [c] := h
  rw [h']
theorem vJ : OpR X (compareOp .NotIn) (gIn true) := nQ.imp fun x y H Q h => by
  unfold gIn at h; split at h
  · split at h
    · rename_i i j c hc
      refine ⟨_, _, rfl, rfl, ?_⟩
      rw [zu hc, PySem.StrLaws.found_one]
      simpa [cs] using h
    · exact h.elim
  · exact h.elim
def A7 : V → List V → Hp → VK → Prop
  | .str x, [.str y], H, Q => (match cs y with
    | [c] => c ∈ cs x ∧ ∀ i : Nat, (cs x)[i]? = some c → Q (.int i) H
    | _ => False)
  | _, _, _, _ => False
def v0 : List V → Hp → VK → Prop
  | [.int i], H, Q => Q (.int i) H
  | [.bl k], H, Q => Q (.int (if k then 1 else 0)) H
  | [.str x], H, Q => ((cs x) ≠ [] ∧ (∀ c ∈ cs x, MT.isD c = true) ∧ (cs x).length ≤ 640) ∧ Q (.int (MT.vl (cs x))) H
  | _, _, _ => False
theorem lW : CallR X (.type "int") (fun xs H Q => ∃ x, xs = [.str x] ∧ ((cs x) ≠ [] ∧ (∀ c ∈ cs x, MT.isD c = true) ∧ (cs x).length ≤ 640) ∧ Q (.int (MT.vl (cs x))) H) := by
  intro pins s σ H xs us Q I r h
  obtain ⟨x, rfl, ⟨h0, hd, hl⟩, q⟩ := h
  obtain ⟨u, rfl, t, rfl⟩ := gg r
  have hl' : x.length ≤ 640 := by simpa [cs, Str.length] using hl
  have e : PySem.NumText.digitsVal x.cps.toList = MT.vl (cs x) := by
    unfold PySem.NumText.digitsVal MT.vl cs
    congr 1
    funext a c; omega
  have hn : intText? x = some ((MT.vl (cs x) : Nat) : Int) := by
    rw [PySem.intText_digits (fun c hc => by have := hd c hc; simpa [MT.isD] using this) h0 (by omega), e]
  exact PySem.W.KIN.call_text hn hl' ⟨.int _, H, I.tok _, ⟨_, rfl⟩, q⟩
theorem rK : CallR X (.type "int") v0 := (tj.or lW).imp fun xs H Q h => by
  unfold v0 at h; split at h
  · exact .inl (.inl ⟨_, rfl, h⟩)
  · exact .inl (.inr ⟨_, rfl, h⟩)
  · exact .inr ⟨_, rfl, h.1, h.2⟩
  · exact h.elim
end
end L2
set_option Elab.async false
set_option linter.all false
set_option maxRecDepth 100000
namespace L2
open PySem PySem.Spec PyProof.Rows
def Its (x : Str) : It := ⟨fun i _ => i < x.cps.size, fun i H v H' => H' = H ∧ ∃ c, x.cps[i]? = some c ∧ v = .str ⟨#[c]⟩, fun i _ => x.cps.size ≤ i⟩
theorem u9 {P : Program} {w : World} {K : PySem.W.Frag} {tg : Expr} (x : Str) (t : Tok) (it : Addr) : ph P w K tg (Its x) [it] it (fun i h => h.IsStrIter it "str_ascii_iterator" x t i) where
  mem := by simp
  obj := fun i h st b hb => by
    have e : b = it := by simpa using hb
    subst e
    obtain ⟨o, e, c, d⟩ := st
    exact ⟨o, e, fun v z => by rw [d] at z; cases z⟩
  keep := fun i h h' st k => by
    obtain ⟨o, e, c, d⟩ := st
    exact ⟨o, k it (by simp) o e, c, d⟩
  item := by
    intro X hP hw hK hc i pins s σ H E I hf st hg
    subst hP hw hK
    have hg' : i < x.cps.size := hg
    obtain ⟨f0, f1, f2, f3, f4, f5⟩ := hf it (by simp)
    have hx : x.cps[i]? = some x.cps[i] := by simp [hg']
    refine wpAny_pyNext_ascii_item st hx fun h' st' sb => ?_
    have I1 : Inv X pins σ H { s with heap := h', toks := s.toks + 1 } := I.turned (fun b o hb e => (sb.2 b hb).trans e) f0 f1 f3 f4 f5
    obtain ⟨o, e, c, d⟩ := id st'
    exact ⟨_, rfl, jx (s := { s with heap := h', toks := s.toks + 1 }) e c d (by decide) ⟨.str ⟨#[x.cps[i]]⟩, H, I1, ⟨_, rfl⟩, ⟨rfl, _, hx, rfl⟩, st', fun b hb => (hf b hb).1⟩⟩
  done := by
    intro X hP hw hK hc i pins s σ H E I hf st hg
    subst hP hw hK
    have hg' : x.cps.size ≤ i := hg
    obtain ⟨f0, f1, f2, f3, f4, f5⟩ := hf it (by simp)
    have hx : x.cps[i]? = none := by simp [hg']
    exact wpAny_pyNext_ascii_end (I.ok.hd hc) st hx fun h' eb => ⟨rfl, I.turned (fun b o hb e => eb b o hb e) f0 f1 f3 f4 f5⟩
  self := fun _ _ _ _ _ st h => wpAny_pyIter_striter_ascii st h
def Ap (tl : TE) : TI := fun σ H R => tl σ H fun v H1 => match v with
  | .str x => (∀ c ∈ cs x, c < 128) ∧ R (Its x) H1
  | _ => False
theorem uN {X : Cx} {tg l : Expr} {tl : TE} (hl : PE X l tl) : PI X tg l (Ap tl) := by
  intro pins s σ H R I h
  refine thn (hl pins s σ H _ I h) fun v s1 ⟨y, H1, I1, r1, q⟩ => ?_
  dsimp only at q
  split at q
  · rename_i x
    obtain ⟨ha, q⟩ := q
    obtain ⟨t, rfl⟩ := r1
    have ha' : x.cps.all (· < 128) = true := by
      rw [Array.all_eq_true]
      intro i hi
      exact decide_eq_true (ha _ (by unfold cs; rw [Array.mem_toList_iff]; exact Array.getElem_mem hi))
    refine wpAny_pyIter_ascii ha' ?_
    refine ⟨s1.heap.objs.size, [s1.heap.objs.size], _, _, H1, rfl, I1.kept (t' := s1.toks) fun b o e => Heap.get?_push_of_some _ e, u9 x t _, ⟨_, Heap.get?_push_size _ rfl, rfl, rfl⟩, fun b hb => ?_, q⟩
    have e : b = s1.heap.objs.size := by simpa using hb
    subst e
    exact I1.fpOk (Nat.le_refl _) (I1.hok.fresh (Nat.le_refl _))
  · exact q.elim
section
variable {X : Cx}
theorem j_ : ∀ {bs : List Bool} {us : List Value}, Vals (bs.map V.bl) us → LSm.BoolsAre us bs
  | [], _, .nil => .nil
  | b :: r, _, .cons e t => by
    cases (show _ = Value.bool b from e)
    exact .cons b (j_ t)
def zF (K : PySem.W.Frag) : List V → Hp → VK → Prop
  | [.ref p], H, Q => ∃ bs : List Bool, SqL K H p (bs.map V.bl) ∧ Q (.bl (bs.all id)) H
  | _, _, _ => False
theorem wd (K : PySem.W.Frag) (hc : X.calm = true) (hK : X.K = K := by rfl) : CallR X (.builtin "all") (zF K) := by
  subst hK
  intro pins s σ H xs us Q I r h
  unfold zF at h
  split at h
  · rename_i p
    obtain ⟨bs, hq, q⟩ := h
    obtain ⟨u, rfl, rx⟩ := gg r
    cases (show u = Value.ref p from rx)
    obtain ⟨its, rv, pl, hz⟩ := I.list hq
    have hne : p ≠ s.heap.objs.size := Nat.ne_of_lt (by obtain ⟨_, e, _⟩ := pl.isList; exact Heap.lt_size e)
    have hb : LSm.BoolsAre its bs := j_ rv
    refine call_all_walk (wpAny_pyIter_list pl.isList ?_)
    refine ⟨s.heap.objs.size, [s.heap.objs.size, p], [s.heap.objs.size], its.toArray.size, _, _, fun i => (bs[i]?).getD true, rfl, Walks.list (A := X.A.in1) (I.ok.hd hc) _ p hne its.toArray,
      ⟨⟨_, Heap.get?_push_size _ rfl, rfl, rfl⟩, pl.isList.push _⟩, fun i v s' Q' E' hP hQ => ?_, fun h' tk hk => ?_⟩
    · obtain ⟨b, e, rfl⟩ := hb.get i v (by simpa using hP)
      simp only [e, Option.getD_some] at hQ
      exact wpAny_truthy_bool hQ
    · have e : ((List.range its.toArray.size).all fun i => (bs[i]?).getD true) = bs.all id := by
        rw [List.size_toArray, hb.length]; exact LSm.range_all bs
      rw [e]
      exact ⟨.bl (bs.all id), H, I.kept (LSm.kept_iter hk), rfl, q⟩
  · exact h.elim
end
end L2
set_option Elab.async false
set_option linter.all false
set_option maxRecDepth 100000
namespace L2
open PySem PySem.Spec PyProof.Rows Builtin Builtin.Str
def h_ (sep : List Nat) : List (List Nat) → List Nat
  | [] => []
  | [x] => x
  | x :: y :: r => x ++ sep ++ h_ sep (y :: r)
theorem mS : ∀ ls : List (List Nat), h_ [] ls = ls.flatten
  | [] => rfl
  | [x] => by simp [h_]
  | x :: y :: r => by rw [h_, mS (y :: r)]; simp
def S (l : List Nat) : Str := ⟨⟨l⟩⟩
theorem lY (sep : List Nat) : ∀ (r : List (List Nat)) (x : List Nat), ((r.map S).foldl (fun acc p => acc ++ (S sep).cps ++ p.cps) (S x).cps) = (S (h_ sep (x :: r))).cps
  | [], x => rfl
  | y :: r, x => by
    rw [List.map_cons, List.foldl_cons]
    have e : (S x).cps ++ (S sep).cps ++ (S y).cps = (S (x ++ sep ++ y)).cps := by
      apply Array.ext'; simp [S]
    rw [e, lY sep r]
    congr 1
    cases r with
    | nil => rfl
    | cons z r' => unfold h_; simp [h_, List.append_assoc]
theorem wk (sep : List Nat) (ls : List (List Nat)) : Txt.join (S sep) (ls.map S) = S (h_ sep ls) := by
  unfold Txt.join glued
  cases ls with
  | nil => rfl
  | cons x r =>
    show (⟨((x :: r).map S).drop 1 |>.foldl _ _⟩ : Str) = _
    rw [List.map_cons, List.drop_one, List.tail_cons, List.headD_cons, lY]
theorem sj : ∀ {ls : List (List Nat)} {us : List Value}, Vals (ls.map T) us → StrsAre us (ls.map S)
  | [], _, .nil => .nil
  | l :: r, _, .cons e t => by
    obtain ⟨k, rfl⟩ := e
    exact .cons _ k (sj t)
def zE (sep : List Nat) (ls : List (List Nat)) : Prop := (ls.map List.length).sum + ls.length * sep.length ≤ 16777216
theorem wB {sep : List Nat} {ls : List (List Nat)} (h : zE sep ls) : (((ls.map S).map (·.length)).sum + (ls.map S).length * (S sep).length ≤ 16777216) := by
  have e : (ls.map S).map (·.length) = ls.map List.length := by rw [List.map_map]; apply List.map_congr_left; intro l _; rfl
  rw [e, List.length_map]; exact h
section
variable {X : Cx}
def vX (K : PySem.W.Frag) : V → List V → Hp → VK → Prop
  | .str x, [.ref p], H, Q => ∃ ls : List (List Nat), SqL K H p (ls.map T) ∧ zE (cs x) ls ∧ Q (T (h_ (cs x) ls)) H
  | _, _, _, _ => False
theorem tY (K : PySem.W.Frag) (hK : X.K = K := by rfl) : MtR X "str.join" (vX K) := by
  subst hK
  intro pins s σ H x xs v us Q I rx rs h
  unfold vX at h
  split at h
  · rename_i y p
    obtain ⟨ls, hq, hf, q⟩ := h
    obtain ⟨t, rfl⟩ := rx
    obtain ⟨u, rfl, ru⟩ := gg rs
    cases (show u = Value.ref p from ru)
    obtain ⟨its, rv, pl, hz⟩ := I.list hq
    refine join_list pl.isList (sj rv) (wB hf) fun t' k => ?_
    exact ⟨.str (Txt.join y (ls.map S)), H, I.tok _, ⟨_, rfl⟩, by rw [show y = S (cs y) from rfl, wk]; exact q⟩
  · exact h.elim
end
end L2
namespace PySem
open Sem (wp)
open Builtin Builtin.Str Builtin.Int
set_option maxRecDepth 100000
namespace F
end F
section
variable {prog : Program} {w : World} {A : Around} {E : Value → Shared → Prop} {s : Shared} {I : Addr} {fp wr : List Addr} {G : Array GenState → Array GenState → Prop} {n : Nat} {P : Nat → Value → Prop} {St : Nat → Shared → Prop}
end
end PySem
set_option Elab.async false
set_option linter.all false
set_option maxRecDepth 100000
namespace L2
open PySem PySem.Spec PyProof.Rows Builtin Builtin.Str
section
variable {X : Cx} {o e : Expr} {to te : TE} {apos cpos p pos : Pos}
end
end L2
set_option Elab.async false
set_option linter.all false
set_option maxRecDepth 100000
namespace L2
open PySem PySem.Spec PyProof.Rows Builtin Builtin.Str
section
variable {X : Cx}
structure yE (J : It) (vs : List V) : Prop where
  go : ∀ i H, i < vs.length → J.go i H
  yld : ∀ i H x H', i < vs.length → J.yld i H x H' → H' = H ∧ vs[i]? = some x
  stop : ∀ H, J.stop vs.length H
theorem vI (l : List Nat) : yE (Its ⟨⟨l⟩⟩) (l.map fun c => T [c]) := by
  refine ⟨fun i H h => by simpa [Its] using h, fun i H x H' _ y => ?_, fun H => by simp [Its]⟩
  obtain ⟨e, c, hc, rfl⟩ := y
  refine ⟨e, ?_⟩
  have : l[i]? = some c := by simpa using hc
  rw [List.getElem?_map, this]; rfl
theorem ut (n : Nat) : yE (Itr 0 n) ((List.range n).map fun k => .int (k : Nat)) := by
  refine ⟨fun i H h => by simpa [Itr] using h, fun i H x H' hi y => ?_, fun H => by simp [Itr]⟩
  obtain ⟨e, rfl⟩ := y
  refine ⟨e, ?_⟩
  have hi' : i < n := by simpa using hi
  simp [hi']
theorem mw {J : It} {vs : List V} (E : yE J vs) {σ' : St} {H1 : Hp} {Q : VK} {tt : TT} {te : TE} (C : Hp → Prop) (p : V → Bool) (f : V → V) (hlen : vs.length ≤ sizeLine)
    (hp : ∀ x ∈ vs, ∀ H (R : Bool → Hp → Prop), C H → R (p x) H → tt (some x :: σ') H R) (hf : ∀ x ∈ vs, p x = true → ∀ H (R : VK), C H → R (f x) H → te (some x :: σ') H R)
    (D : Addr) (hD : H1 D = none) (hC : ∀ ys, C (upd H1 D (.lst ys))) (q : Q (.ref D) (upd H1 D (.lst ((vs.filter p).map f)))) :
    ∃ W : Nat → Nat → List V → Hp → Prop, (∃ m, W 0 m [] (upd H1 D (.lst []))) ∧
      ∀ i m ys H2, W i m ys H2 → H2 D = some (.lst ys) ∧ ((J.stop i H2 ∧ Q (.ref D) H2) ∨ (J.go i H2 ∧ ∀ x H3, J.yld i H2 x H3 →
        tt (some x :: σ') H3 fun b H4 => if b = true then te (some x :: σ') H4 fun y H5 => H5 D = some (.lst ys) ∧ ys.length < sizeLine ∧ ∃ m', m' < m ∧ W (i + 1) m' (ys ++ [y]) (upd H5 D (.lst (ys ++ [y])))
          else ∃ m', m' < m ∧ W (i + 1) m' ys H4)) := by
  refine ⟨fun i m ys H2 => m = vs.length - i ∧ i ≤ vs.length ∧ ys = ((vs.take i).filter p).map f ∧ H2 = upd H1 D (.lst ys), ⟨vs.length, by simp, Nat.zero_le _, by simp, rfl⟩, ?_⟩
  rintro i m ys H2 ⟨rfl, hi, hys, rfl⟩
  refine ⟨ac, ?_⟩
  by_cases hlt : i < vs.length
  · refine .inr ⟨E.go i _ hlt, fun x H3 y => ?_⟩
    obtain ⟨e, hx⟩ := E.yld i _ x H3 hlt y
    subst e
    have hm : x ∈ vs := List.mem_of_getElem? hx
    have htk : vs.take (i + 1) = vs.take i ++ [x] := by
      rw [List.take_succ, hx]; rfl
    have hyl : ys.length ≤ i := by
      rw [hys, List.length_map]
      exact Nat.le_trans (List.length_filter_le _ _) (by simp [List.length_take]; omega)
    refine hp x hm _ _ (hC _) ?_
    cases hb : p x with
    | true =>
      rw [if_pos rfl]
      refine hf x hm hb _ _ (hC _) ⟨ac, by omega, vs.length - (i + 1), by omega, rfl, hlt, ?_, ?_⟩
      · rw [htk, List.filter_append, List.map_append, ← hys]
        simp [hb]
      · funext z
        by_cases hz : z = D
        · subst hz; rw [ac, ac]
        · rw [af hz, af hz, af hz]
    | false =>
      rw [if_neg Bool.false_ne_true]
      refine ⟨vs.length - (i + 1), by omega, rfl, hlt, ?_, rfl⟩
      rw [htk, List.filter_append, List.map_append, ← hys]
      simp [hb]
  · have e : i = vs.length := by omega
    subst e
    refine .inl ⟨E.stop _, ?_⟩
    rw [List.take_length] at hys
    rw [hys]; exact q
end
theorem SqL.same {K : PySem.W.Frag} {H H' : Hp} {a : Addr} {xs : List V} (s : Same H H') (h : SqL K H a xs) : SqL K H' a xs := by
  rcases h with (h | ⟨o, h⟩) | h
  · exact .inl (.inl (s _ _ h))
  · exact .inl (.inr ⟨o, s _ _ h⟩)
  · exact .inr h
theorem p9 (g : Nat → Nat) : ∀ l : List Nat, (l.map fun k => [g k]).flatten = l.map g
  | [] => rfl
  | a :: r => by rw [List.map_cons, List.flatten_cons, p9 g r]; rfl
theorem sy (g : Nat → Nat) : ∀ l : List Nat, ((l.map fun k => [g k]).map List.length).sum = l.length
  | [] => rfl
  | a :: r => by have := sy g r; simp only [List.map_cons, List.sum_cons, List.length_cons, List.length_nil, this]; omega
theorem uz {K : PySem.W.Frag} {H1 : Hp} {D : Addr} {Q : VK} (l : List Nat) (g : Nat → Nat) (hs : H1 D = some (.lst (l.map fun k => T [g k]))) (hl : l.length ≤ 1000) (q : Q (T (l.map g)) H1) : vX K (T []) [.ref D] H1 Q := by
  refine ⟨l.map fun k => [g k], SqL.of (by rw [hs, List.map_map]; rfl), ?_, ?_⟩
  · unfold zE; rw [sy]; simp [cs]; omega
  · show Q (T (h_ [] _)) H1
    rw [mS, p9]; exact q
theorem sq {P : Program} {w : World} {X : Cx} : dE (XE P w) X (fun _ _ _ _ => False) := fun _ _ _ _ _ _ _ ⟨_, _, _, _, _, _, _, _, _, _, _, q⟩ => q.elim
def uY : Option NameKind → Bool
  | some .cell => true
  | some .free => true
  | _ => false
theorem pH {k : Option NameKind} : uY k = true ↔ (k = some .cell ∨ k = some .free) := by
  cases k with
  | none => simp [uY]
  | some k => cases k <;> simp [uY]
theorem dN {cl : List (Str × Addr)} {fr : List Str} (h : (cl.map (·.1)).all (fun y => fr.elem y) = true) : ∀ y ∈ cl, y.1 ∈ fr := fun y hy => by
  have := List.all_eq_true.mp h y.1 (List.mem_map_of_mem hy)
  simpa using this
theorem bz {fr : List Str} {k : Str → Option NameKind} (h : fr.all (fun y => uY (k y)) = true) : ∀ y ∈ fr, k y = some .cell ∨ k y = some .free := fun y hy => pH.mp (List.all_eq_true.mp h y hy)
theorem dJ {names : List (Str × NameKind)} {fr : List Str} (h : names.all (fun p => !uY (some p.2) || fr.elem p.1) = true) : ∀ y, (names.lookup y = some .cell ∨ names.lookup y = some .free) → y ∈ fr := fun y hy => by
  have hy' := pH.mpr hy
  cases e : names.lookup y with
  | none => rw [e] at hy'; cases hy'
  | some k =>
    rw [e] at hy'
    have := List.all_eq_true.mp h (y, k) (PySem.mem_of_lookup e)
    simpa [hy'] using this
end L2
set_option Elab.async false
set_option linter.all false
set_option maxRecDepth 100000
namespace L2
open PySem PySem.Spec PyProof.Rows Builtin Builtin.Str
section
variable {X : Cx} {pos : Pos}
theorem zH {pins : List (Addr × Obj)} {σ : St} {H : Hp} {s : Shared} (I : Inv X pins σ H s) : sysModules < s.heap.objs.size :=
  Nat.lt_trans (by decide) (show mainGlobals < s.heap.objs.size from (I.mod.glob.keeps I.bk).lt)
def xR : TE := fun _ H Q => ∀ p, H p = none → Q (.ref p) (upd H p (.dK []))
theorem gO : PE X (.Dict [] [] pos) xR := by
  intro pins s σ H Q I h
  have new : ObjOk X.prog X.w (upd H s.heap.objs.size (.dK [])) (s.heap.push { cls := .type "dict", data := .dict #[] }) s.heap.objs.size (.dK []) :=
    ⟨Nat.zero_le _, beq_eq_false_iff_ne.mpr (Ne.symm (Nat.ne_of_lt (zH I))), [], .nil, Heap.DictOf.new s.heap⟩
  exact wpAny_Dict_empty ⟨.ref s.heap.objs.size, _, I.laid (t' := s.toks) (fun _ _ q => Heap.get?_push_of_some _ q) (Nat.le_refl _) new, rfl, h _ (I.hok.fresh (Nat.le_refl _))⟩
theorem pJ : ∀ (l : List (Array Nat)) (acc : Array Nat), (l.foldl (· ++ ·) acc).toList = acc.toList ++ (l.map Array.toList).flatten
  | [], acc => by simp
  | a :: r, acc => by rw [List.foldl_cons, pJ r]; simp
theorem yF (x : Str) (n : Int) : V.str (Txt.mul x n) = T ((List.replicate n.toNat (cs x)).flatten) := by
  unfold Txt.mul
  split
  · rename_i h
    have e : n.toNat = 0 := by omega
    rw [e]; rfl
  · rename_i h
    split
    · rename_i h2
      rcases Bool.or_eq_true_iff.mp h2 with h3 | h3
      · have e : n.toNat = 1 := by have := eq_of_beq h3; omega
        rw [e, yh]; simp
      · have e : cs x = [] := by
          have := eq_of_beq h3
          simpa [cs, Str.length] using this
        rw [yh, e]; simp
    · rw [yh]
      congr 1
      show ((List.replicate n.toNat x.cps).foldl (· ++ ·) #[]).toList = _
      rw [pJ, List.map_replicate]; rfl
end
end L2
set_option Elab.async false
set_option linter.all false
set_option maxRecDepth 100000
namespace L2
open PySem PySem.Spec PyProof.Rows Builtin Builtin.Str
section
variable {X : Cx}
structure xX (C : Hp → Prop) (J : It) (vs : List V) : Prop where
  go : ∀ i H, C H → i < vs.length → J.go i H
  yld : ∀ i H x H', C H → i < vs.length → J.yld i H x H' → H' = H ∧ vs[i]? = some x
  stop : ∀ H, C H → J.stop vs.length H
theorem qm {J : It} {vs : List V} {σ' : St} {H1 : Hp} {Q : VK} {tt : TT} {te : TE} (C : Hp → Prop) (E : xX C J vs) (p : V → Bool) (f : V → V) (hlen : vs.length ≤ sizeLine)
    (hp : ∀ x ∈ vs, ∀ H (R : Bool → Hp → Prop), C H → R (p x) H → tt (some x :: σ') H R) (hf : ∀ x ∈ vs, p x = true → ∀ H (R : VK), C H → R (f x) H → te (some x :: σ') H R)
    (D : Addr) (hD : H1 D = none) (hC : ∀ ys, C (upd H1 D (.lst ys))) (q : Q (.ref D) (upd H1 D (.lst ((vs.filter p).map f)))) :
    ∃ W : Nat → Nat → List V → Hp → Prop, (∃ m, W 0 m [] (upd H1 D (.lst []))) ∧
      ∀ i m ys H2, W i m ys H2 → H2 D = some (.lst ys) ∧ ((J.stop i H2 ∧ Q (.ref D) H2) ∨ (J.go i H2 ∧ ∀ x H3, J.yld i H2 x H3 →
        tt (some x :: σ') H3 fun b H4 => if b = true then te (some x :: σ') H4 fun y H5 => H5 D = some (.lst ys) ∧ ys.length < sizeLine ∧ ∃ m', m' < m ∧ W (i + 1) m' (ys ++ [y]) (upd H5 D (.lst (ys ++ [y])))
          else ∃ m', m' < m ∧ W (i + 1) m' ys H4)) := by
  refine ⟨fun i m ys H2 => m = vs.length - i ∧ i ≤ vs.length ∧ ys = ((vs.take i).filter p).map f ∧ H2 = upd H1 D (.lst ys), ⟨vs.length, by simp, Nat.zero_le _, by simp, rfl⟩, ?_⟩
  rintro i m ys H2 ⟨rfl, hi, hys, rfl⟩
  refine ⟨ac, ?_⟩
  by_cases hlt : i < vs.length
  · refine .inr ⟨E.go i _ (hC _) hlt, fun x H3 y => ?_⟩
    obtain ⟨e, hx⟩ := E.yld i _ x H3 (hC _) hlt y
    subst e
    have hm : x ∈ vs := List.mem_of_getElem? hx
    have htk : vs.take (i + 1) = vs.take i ++ [x] := by
      rw [List.take_succ, hx]; rfl
    have hyl : ys.length ≤ i := by
      rw [hys, List.length_map]
      exact Nat.le_trans (List.length_filter_le _ _) (by simp [List.length_take]; omega)
    refine hp x hm _ _ (hC _) ?_
    cases hb : p x with
    | true =>
      rw [if_pos rfl]
      refine hf x hm hb _ _ (hC _) ⟨ac, by omega, vs.length - (i + 1), by omega, rfl, hlt, ?_, ?_⟩
      · rw [htk, List.filter_append, List.map_append, ← hys]
        simp [hb]
      · funext z
        by_cases hz : z = D
        · subst hz; rw [ac, ac]
        · rw [af hz, af hz, af hz]
    | false =>
      rw [if_neg Bool.false_ne_true]
      refine ⟨vs.length - (i + 1), by omega, rfl, hlt, ?_, rfl⟩
      rw [htk, List.filter_append, List.map_append, ← hys]
      simp [hb]
  · have e : i = vs.length := by omega
    subst e
    refine .inl ⟨E.stop _ (hC _), ?_⟩
    rw [List.take_length] at hys
    rw [hys]; exact q
theorem u4 {K : PySem.W.Frag} {C : Hp → Prop} {a : Addr} {vs : List V} (h : ∀ H, C H → SqT K H a vs) : xX C (Itt K a) vs :=
  ⟨fun i H c hi => ⟨vs, vs[i], h H c, List.getElem?_eq_getElem hi⟩, fun i H x H' c _ y => ⟨y.1, y.2 vs (h H c)⟩, fun H c => ⟨vs, h H c, Nat.le_refl _⟩⟩
end
end L2
set_option Elab.async false
set_option linter.all false
set_option maxRecDepth 100000
namespace L2
open PySem PySem.Spec PyProof.Rows
section
variable {X : Cx} {K : PySem.W.Frag} {pos : Pos}
theorem iL (K : PySem.W.Frag) {es : List Expr} {k : Nat} {t : TGs} {n : Nat} (hc : X.calm = true) (h : PGs X es t) (hK : X.K = K := by rfl)
    (hn : (assignEach es X.env).length = n := by rfl) (hst : (assignEach es X.env).findIdx? (·.1) = none := by rfl) : PG X (.Tuple es k pos) (yR K n t) := by
  subst hK; exact yu hc h hn hst
end
section
variable {X : Cx} {T name id : String} {r : V → List V → Hp → VK → Prop} {o e : Expr} {es : List Expr} {to : TE} {t : TA} {apos cpos : Pos}
theorem iz (K : PySem.W.Frag) (pa : PlainAttrs T) (slot : Slot T name id) (hty : typeOf (.builtin id) = pure (.type "method_descriptor")) (hm : MtR X id r) (ho : PE X o to) (ha : PA X (e :: es) t) (hK : X.K = K := by rfl)
    (hbase : attributeBase o name X.env (eval o X.env) = eval o X.env := by rfl)
    (hfew : ((backTo cpos (starEach (e :: es) X.env)).all (fun x => !x.1) && (backToKw cpos (keywordEach [] X.env)).all (fun x => x.1.isSome)
      && decide ((e :: es).length + ([] : List Keyword).length + (if ([] : List Keyword).isEmpty then 0 else 1) < 30)) = true := by rfl)
    (hline : (apos.endLine == cpos.line) = true := by rfl) (hs : starEach (e :: es) X.env = (false, eval e X.env) :: starEach es X.env := by rfl) (hplain : (backTo cpos (starEach es X.env)).any (·.1) = false := by rfl) :
    PE X (.Call (.Attribute o name apos) (e :: es) [] cpos) (tBM K T r to t) := by
  subst hK; exact AC pa slot hty hm ho ha hbase hfew hline hs hplain
end
section
variable {K : PySem.W.Frag} {tl : TE} {ks : List Nat} {σ : St} {H : Hp} {Q : VK} {tt : TT} {te : TE}
end
end L2
set_option Elab.async false
set_option linter.all false
set_option maxRecDepth 100000
namespace L2
end L2
set_option Elab.async false
set_option linter.all false
set_option maxRecDepth 100000
namespace L2
open PySem PySem.Spec PyProof.Rows Builtin Builtin.Str
def spN (c : Nat) : List Nat → List (List Nat)
  | [] => [[]]
  | a :: r => if a = c then [] :: spN c r else match spN c r with
    | h :: t => (a :: h) :: t
    | [] => [[a]]
section
variable {X : Cx} {e a b c : Expr} {pos : Pos}
def A5 : V → List V → Hp → VK → Prop
  | .str x, [.str y], H, Q => (∃ c, cs y = [c] ∧ (cs x).length + 2 ≤ sizeLine ∧ ∀ p, H p = none → Q (.ref p) (upd H p (.lst ((spN c (cs x)).map T))))
  | _, _, _, _ => False
def yz : R2
  | .ref l, .ref b, H, Q => ∃ xs zs, H l = some (.lst xs) ∧ H b = some (.lst zs) ∧ xs.length + zs.length ≤ sizeLine ∧ ∀ p, H p = none → Q (.ref p) (upd H p (.lst (xs ++ zs)))
  | _, _, _, _ => False
theorem vk : OpR X (binaryOp .Add) yz := yA.imp fun x y H Q h => by
  unfold yz at h; split at h
  · obtain ⟨xs, zs, h1, h2, h3, q⟩ := h
    exact ⟨_, _, xs, zs, rfl, rfl, h1, h2, h3, q⟩
  · exact h.elim
theorem uZ (K : PySem.W.Frag) (h : X.K = K := by rfl) : SlR X (Av K) := h ▸ wH
def uU (K : PySem.W.Frag) : List V → Hp → VK → Prop
  | [.ref p], H, Q => ∃ ys, (SqL K H p ys ∨ SqT K H p ys) ∧ ∀ l, H l = none → Q (.ref l) (upd H l (.lst ys))
  | _, _, _ => False
theorem wS (K : PySem.W.Frag) (hK : X.K = K := by rfl) : CallR X (.type "list") (uU K) := by
  subst hK
  refine oH.imp fun xs H Q h => ?_
  unfold uU at h; split at h
  · obtain ⟨ys, h1, q⟩ := h
    exact ⟨_, ys, rfl, h1, q⟩
  · exact h.elim
inductive EqH (K : PySem.W.Frag) (H : Hp) : Nat → V → V → Bool → Prop
  | flat {n x y} : fP x = true → fP y = true → EqH K H n x y (eqV x y)
  | same {n p} : EqH K H n (.ref p) (.ref p) true
  | lst {n p q xs ys} {e : Nat → Bool} : p ≠ q → SqL K H p xs → SqL K H q ys → xs.length = ys.length → (∀ j x y, xs[j]? = some x → ys[j]? = some y → EqH K H n x y (e j)) → EqH K H (n + 1) (.ref p) (.ref q) ((List.range xs.length).all e)
  | len {n p q xs ys} : p ≠ q → SqL K H p xs → SqL K H q ys → xs.length ≠ ys.length → EqH K H (n + 1) (.ref p) (.ref q) false
  | tup {n p q xs ys} {e : Nat → Bool} : p ≠ q → SqT K H p xs → SqT K H q ys → (∀ j x y, xs[j]? = some x → ys[j]? = some y → EqH K H n x y (e j)) → EqH K H (n + 1) (.ref p) (.ref q) ((List.range (min xs.length ys.length)).all e && xs.length == ys.length)
  | lt {n p q xs ys} : SqL K H p xs → SqT K H q ys → EqH K H (n + 1) (.ref p) (.ref q) false
  | tl {n p q xs ys} : SqT K H p xs → SqL K H q ys → EqH K H (n + 1) (.ref p) (.ref q) false
theorem fB {P : Value → Value → Bool → Prop} {xs ys : List V} {its its' : List Value} {e : Nat → Bool} (r : Vals xs its) (r' : Vals ys its') (h : ∀ j x y u v, xs[j]? = some x → ys[j]? = some y → RelV x u → RelV y v → P u v (e j)) :
    ∀ j (h1 : j < its.toArray.size) (h2 : j < its'.toArray.size), P its.toArray[j] its'.toArray[j] (e j) := fun j g1 g2 => by
  have h1 : xs.length = its.length := r.length
  have h2 : ys.length = its'.length := r'.length
  have g1' : j < its.length := by simpa using g1
  have g2' : j < its'.length := by simpa using g2
  have l1 : j < xs.length := by omega
  have l2 : j < ys.length := by omega
  obtain ⟨w1, e1, r1⟩ := r.get (List.getElem?_eq_getElem l1)
  obtain ⟨w2, e2, r2⟩ := r'.get (List.getElem?_eq_getElem l2)
  have z1 : its.toArray[j] = w1 := by
    have : its[j]? = some its[j] := List.getElem?_eq_getElem g1'
    rw [this] at e1; simpa using Option.some.inj e1
  have z2 : its'.toArray[j] = w2 := by
    have : its'[j]? = some its'[j] := List.getElem?_eq_getElem g2'
    rw [this] at e2; simpa using Option.some.inj e2
  rw [z1, z2]
  exact h j _ _ _ _ (List.getElem?_eq_getElem l1) (List.getElem?_eq_getElem l2) r1 r2
theorem EqH.at {K : PySem.W.Frag} {H : Hp} {n : Nat} {x y : V} {b : Bool} (h : EqH K H n x y b) : ∀ {X : Cx} {pins : List (Addr × Obj)} {σ : St} {s : Shared} {A : Around} {u v : Value}, X.K = K → Inv X pins σ H s → A.units + n < cLine → RelV x u → RelV y v → SeqAt.EqAt A s u v b := by
  induction h with
  | flat fx fy =>
    intro X pins σ s A u v hK I hu rx ry
    exact uX rx ry fx fy
  | same =>
    intro X pins σ s A u v hK I hu rx ry
    cases rx; cases ry
    exact SeqAt.EqAt.same _
  | @lst n p q xs ys e hpq hx hy hl _ ih =>
    intro X pins σ s A u v hK I hu rx ry
    cases rx; cases ry
    subst hK
    obtain ⟨its, r, pl, hz⟩ := I.list hx
    obtain ⟨its', r', pl', hz'⟩ := I.list hy
    have h1 : xs.length = its.length := r.length
    have h2 : ys.length = its'.length := r'.length
    have := SeqAt.RcAt.lists (A := A) (e := e) pl.isList pl'.isList (by simp; omega) (by omega) (fB r r' fun j x y u v g1 g2 r1 r2 => ih j x y g1 g2 rfl I (by show A.units + 1 + n < cLine; omega) r1 r2)
    rw [List.size_toArray, ← h1] at this
    exact .of_refs hpq this
  | @len n p q xs ys hpq hx hy hl =>
    intro X pins σ s A u v hK I hu rx ry
    cases rx; cases ry
    subst hK
    obtain ⟨its, r, pl, hz⟩ := I.list hx
    obtain ⟨its', r', pl', hz'⟩ := I.list hy
    have h1 : xs.length = its.length := r.length
    have h2 : ys.length = its'.length := r'.length
    exact .of_refs hpq (SeqAt.RcAt.lists_lengths pl.isList pl'.isList (by simp; omega) (by omega))
  | @tup n p q xs ys e hpq hx hy _ ih =>
    intro X pins σ s A u v hK I hu rx ry
    cases rx; cases ry
    subst hK
    obtain ⟨its, r, pl, hz⟩ := I.tuple hx
    obtain ⟨its', r', pl', hz'⟩ := I.tuple hy
    have h1 : xs.length = its.length := r.length
    have h2 : ys.length = its'.length := r'.length
    have := SeqAt.RcAt.tuples (A := A) (e := e) pl pl' (by omega) (fB r r' fun j x y u v g1 g2 r1 r2 => ih j x y g1 g2 rfl I (by show A.units + 1 + n < cLine; omega) r1 r2)
    rw [List.size_toArray, List.size_toArray, ← h1, ← h2] at this
    exact .of_refs hpq this
  | lt hx hy =>
    intro X pins σ s A u v hK I hu rx ry
    cases rx; cases ry
    subst hK
    obtain ⟨its, r, pl, hz⟩ := I.list hx
    obtain ⟨its', r', pl', hz'⟩ := I.tuple hy
    exact SeqAt.EqAt.list_tuple pl.isList pl' (by omega)
  | tl hx hy =>
    intro X pins σ s A u v hK I hu rx ry
    cases rx; cases ry
    subst hK
    obtain ⟨its, r, pl, hz⟩ := I.tuple hx
    obtain ⟨its', r', pl', hz'⟩ := I.list hy
    exact SeqAt.EqAt.tuple_list pl pl'.isList (by omega)
inductive EqR (K : PySem.W.Frag) (H : Hp) (p q : Addr) : Bool → Prop
  | lst {xs ys} {e : Nat → Bool} : SqL K H p xs → SqL K H q ys → xs.length = ys.length → (∀ j x y, xs[j]? = some x → ys[j]? = some y → EqH K H 50 x y (e j)) → EqR K H p q ((List.range xs.length).all e)
  | len {xs ys} : SqL K H p xs → SqL K H q ys → xs.length ≠ ys.length → EqR K H p q false
  | tup {xs ys} {e : Nat → Bool} : SqT K H p xs → SqT K H q ys → (∀ j x y, xs[j]? = some x → ys[j]? = some y → EqH K H 50 x y (e j)) → EqR K H p q ((List.range (min xs.length ys.length)).all e && xs.length == ys.length)
def u5 (K : PySem.W.Frag) (neg : Bool) : R2
  | .ref p, .ref q, H, Q => ∃ b, EqR K H p q b ∧ Q (.bl (neg ^^ b)) H
  | _, _, _, _ => False
theorem zf (K : PySem.W.Frag) (hu : X.A.units + 100 < cLine) (hK : X.K = K := by rfl) : OpR X (compareOp .Eq) (u5 K false) := by
  subst hK
  intro pins s σ H x y v u Q I rx ry h
  unfold u5 at h
  split at h
  · rename_i p q
    obtain ⟨b, hb, q⟩ := h
    cases rx; cases ry
    cases hb with
    | @lst xs ys e hx hy hl he =>
      obtain ⟨its, r, pl, hz⟩ := I.list hx
      obtain ⟨its', r', pl', hz'⟩ := I.list hy
      have h1 : xs.length = its.length := r.length
      have h2 : ys.length = its'.length := r'.length
      refine SeqAt.eq_listAt (e := e) pl.isList pl'.isList (by simp; omega) (by omega) (fB r r' fun j x y u v g1 g2 r1 r2 => (he j x y g1 g2).at rfl I (by show X.A.units + 1 + 50 < cLine; omega) r1 r2) ⟨.bl _, H, I, rfl, ?_⟩
      rw [List.size_toArray, ← h1]; simpa using q
    | @len xs ys hx hy hl =>
      obtain ⟨its, r, pl, hz⟩ := I.list hx
      obtain ⟨its', r', pl', hz'⟩ := I.list hy
      have h1 : xs.length = its.length := r.length
      have h2 : ys.length = its'.length := r'.length
      exact SeqAt.eq_list_lengthsAt pl.isList pl'.isList (by simp; omega) (by omega) ⟨.bl false, H, I, rfl, by simpa using q⟩
    | @tup xs ys e hx hy he =>
      obtain ⟨its, r, pl, hz⟩ := I.tuple hx
      obtain ⟨its', r', pl', hz'⟩ := I.tuple hy
      have h1 : xs.length = its.length := r.length
      have h2 : ys.length = its'.length := r'.length
      refine SeqAt.eq_tupleAt (e := e) pl pl' (by omega) (fB r r' fun j x y u v g1 g2 r1 r2 => (he j x y g1 g2).at rfl I (by show X.A.units + 1 + 50 < cLine; omega) r1 r2) ⟨.bl _, H, I, rfl, ?_⟩
      rw [List.size_toArray, List.size_toArray, ← h1, ← h2]; simpa using q
  · exact h.elim
theorem zr (K : PySem.W.Frag) (hu : X.A.units + 100 < cLine) (hK : X.K = K := by rfl) : OpR X (compareOp .NotEq) (u5 K true) := by
  subst hK
  intro pins s σ H x y v u Q I rx ry h
  unfold u5 at h
  split at h
  · rename_i p q
    obtain ⟨b, hb, q⟩ := h
    cases rx; cases ry
    cases hb with
    | @lst xs ys e hx hy hl he =>
      obtain ⟨its, r, pl, hz⟩ := I.list hx
      obtain ⟨its', r', pl', hz'⟩ := I.list hy
      have h1 : xs.length = its.length := r.length
      have h2 : ys.length = its'.length := r'.length
      refine SeqAt.RcNeAt.lists (e := e) pl.isList pl'.isList (by simp; omega) (by omega) (fB r r' fun j x y u v g1 g2 r1 r2 => (he j x y g1 g2).at rfl I (by show X.A.units + 1 + 50 < cLine; omega) r1 r2) X.prog X.w X.xe _ ⟨.bl _, H, I, rfl, ?_⟩
      rw [List.size_toArray, ← h1]; simpa using q
    | @len xs ys hx hy hl =>
      obtain ⟨its, r, pl, hz⟩ := I.list hx
      obtain ⟨its', r', pl', hz'⟩ := I.list hy
      have h1 : xs.length = its.length := r.length
      have h2 : ys.length = its'.length := r'.length
      exact SeqAt.RcNeAt.lists_lengths pl.isList pl'.isList (by simp; omega) (by omega) X.prog X.w X.xe _ ⟨.bl true, H, I, rfl, by simpa using q⟩
    | @tup xs ys e hx hy he =>
      obtain ⟨its, r, pl, hz⟩ := I.tuple hx
      obtain ⟨its', r', pl', hz'⟩ := I.tuple hy
      have h1 : xs.length = its.length := r.length
      have h2 : ys.length = its'.length := r'.length
      refine SeqAt.RcNeAt.tuples (e := e) pl pl' (by omega) (fB r r' fun j x y u v g1 g2 r1 r2 => (he j x y g1 g2).at rfl I (by show X.A.units + 1 + 50 < cLine; omega) r1 r2) X.prog X.w X.xe _ ⟨.bl _, H, I, rfl, ?_⟩
      rw [List.size_toArray, List.size_toArray, ← h1, ← h2]; simpa using q
  · exact h.elim
theorem EqR.flatL {K : PySem.W.Frag} {H : Hp} {p q : Addr} {xs : List V} (hx : SqL K H p xs) (hy : SqL K H q xs) (f : xs.all fP = true) : EqR K H p q true := by
  have h := EqR.lst (K := K) (H := H) (e := fun j => eqV (xs.getD j .non) (xs.getD j .non)) hx hy rfl fun j x y gx gy => by
    have e1 : xs.getD j .non = x := by simp [List.getD, gx]
    rw [e1]
    rw [gx] at gy
    cases gy
    exact .flat (List.all_eq_true.mp f _ (List.mem_of_getElem? gx)) (List.all_eq_true.mp f _ (List.mem_of_getElem? gx))
  have e : (List.range xs.length).all (fun j => eqV (xs.getD j .non) (xs.getD j .non)) = true := by
    rw [List.all_eq_true]
    intro j hj
    have hf : fP (xs.getD j .non) = true := by
      have hj' : j < xs.length := by simpa using hj
      have : xs.getD j .non ∈ xs := by
        have e1 : xs.getD j .non = xs[j] := by simp [List.getD, hj']
        rw [e1]; exact List.getElem_mem hj'
      exact List.all_eq_true.mp f _ this
    generalize xs.getD j .non = z at hf
    cases z <;> simp [eqV] at hf ⊢ <;> simp [fP] at hf
  rw [e] at h; exact h
end
end L2
set_option Elab.async false
set_option linter.all false
set_option maxRecDepth 100000
namespace PySem
open Sem (wp)
open Builtin
end PySem
namespace L2
open PySem PySem.Spec PyProof.Rows Builtin Builtin.Str
section
variable {X : Cx} {e a b c : Expr} {pos : Pos}
def js (K : PySem.W.Frag) (neg : Bool) : R2 := fun x y H Q => match eqS x y with
  | some k => Q (.bl (neg ^^ k)) H
  | none => u5 K neg x y H Q
theorem cX (K : PySem.W.Frag) (hu : X.A.units + 100 < cLine) (hK : X.K = K := by rfl) : OpR X (compareOp .Eq) (js K false) := ((za (by omega)).or (zf K hu hK)).imp fun x y H Q h => by
  unfold js at h
  split at h
  · rename_i k hk
    obtain ⟨h1, h2⟩ := oW hk
    exact .inl (.inl ⟨h1, by rw [h2]; simpa using h⟩)
  · exact .inr h
theorem iA (K : PySem.W.Frag) (hu : X.A.units + 100 < cLine) (hK : X.K = K := by rfl) : OpR X (compareOp .NotEq) (js K true) := ((yX (by omega)).or (zr K hu hK)).imp fun x y H Q h => by
  unfold js at h
  split at h
  · rename_i k hk
    obtain ⟨h1, h2⟩ := oW hk
    exact .inl (.inl ⟨h1, by rw [h2]; simpa using h⟩)
  · exact .inr h
variable {K : PySem.W.Frag} {neg : Bool} {H : Hp} {Q : VK}
theorem sD {i j : Int} : js K neg (.int i) (.int j) H Q = Q (.bl (neg ^^ decide (i = j))) H := rfl
theorem t_ {i j : Bool} : js K neg (.bl i) (.bl j) H Q = Q (.bl (neg ^^ decide (i = j))) H := rfl
theorem rh {i j : Str} : js K neg (.str i) (.str j) H Q = Q (.bl (neg ^^ decide (i.cps.toList = j.cps.toList))) H := rfl
theorem rA {p q : Addr} : js K neg (.ref p) (.ref q) H Q = ∃ b, EqR K H p q b ∧ Q (.bl (neg ^^ b)) H := rfl
theorem vT : js K neg .non .non H Q = Q (.bl (neg ^^ true)) H := rfl
theorem vx {i : Int} : js K neg .non (.int i) H Q = Q (.bl (neg ^^ false)) H := rfl
theorem ul {i : Int} : js K neg (.int i) .non H Q = Q (.bl (neg ^^ false)) H := rfl
theorem uh {i : Int} {s : Str} : js K neg (.int i) (.str s) H Q = Q (.bl (neg ^^ false)) H := rfl
theorem tV {i : Int} {s : Str} : js K neg (.str s) (.int i) H Q = Q (.bl (neg ^^ false)) H := rfl
end
theorem vG {K : PySem.W.Frag} {tl : TE} {g : TG} {tb : TS} {D : dU} {σ : St} {H : Hp} (h : tl σ H fun v H1 => lH (tN K (tC v)) g tb D σ H1) : lH (tN K tl) g tb D σ H := h
theorem i4 {K : PySem.W.Frag} {tl : TE} {g : TG} {tb : TS} {D : dU} {σ : St} {H : Hp} (h : tl σ H fun v H1 => lH (mK K (tC v)) g tb D σ H1) : lH (mK K tl) g tb D σ H := h
theorem t8 {K : PySem.W.Frag} {a : Addr} {xs : List V} {g : TG} {tb : TS} {D : dU} {σ : St} {H : Hp} (hq : SqT K H a xs) (h : ∃ W : Nat → Nat → St → Hp → Prop, (∃ m, W 0 m σ H) ∧ ∀ i m σ H, W i m σ H →
      ((Itt K a).stop i H ∧ D.nx σ H) ∨ ((Itt K a).go i H ∧ ∃ N : St → Hp → Prop, (∀ σ' H', N σ' H' → ∃ m', m' < m ∧ W (i + 1) m' σ' H') ∧ ∀ x H', (Itt K a).yld i H x H' → g x σ H' fun σ2 H2 => tb { D with nx := N, ct := N, bk := D.nx } σ2 H2)) : lH (tN K (tC (.ref a))) g tb D σ H := ⟨a, rfl, ⟨xs, hq⟩, h⟩
theorem iE {K : PySem.W.Frag} {a : Addr} {xs : List V} {g : TG} {tb : TS} {D : dU} {σ : St} {H : Hp} (hq : SqL K H a xs) (h : ∃ W : Nat → Nat → St → Hp → Prop, (∃ m, W 0 m σ H) ∧ ∀ i m σ H, W i m σ H →
      ((Itl K a).stop i H ∧ D.nx σ H) ∨ ((Itl K a).go i H ∧ ∃ N : St → Hp → Prop, (∀ σ' H', N σ' H' → ∃ m', m' < m ∧ W (i + 1) m' σ' H') ∧ ∀ x H', (Itl K a).yld i H x H' → g x σ H' fun σ2 H2 => tb { D with nx := N, ct := N, bk := D.nx } σ2 H2)) : lH (mK K (tC (.ref a))) g tb D σ H := ⟨a, rfl, ⟨xs, hq⟩, h⟩
theorem dC {H H' : Hp} {x : V} {t : String} (s : Same H H') (h : cw H x = some t) : cw H' x = some t := by
  cases x with
  | ref p =>
    unfold cw at h ⊢
    dsimp only at h ⊢
    cases e : H p with
    | none => rw [e] at h; cases h
    | some o => rw [e] at h; rw [s _ _ e]; exact h
  | _ => exact h
end L2
namespace L2
theorem bh {k : Nat} {A : PySem.Around} (r : Room k A) : A.units + 100 < PySem.cLine := by have := r.un; omega
end L2
set_option Elab.async false
set_option linter.all false
set_option maxRecDepth 100000
namespace L2
open PySem PySem.Spec PyProof.Rows
section
variable {κ : Type} [DecidableEq κ]
def eC (kvs : List (κ × V)) (k : κ) : Option V := (kvs.find? fun kv => decide (kv.1 = k)).map (·.2)
def cH (kvs : List (κ × V)) (k : κ) (v : V) : List (κ × V) :=
  if (kvs.any fun kv => decide (kv.1 = k)) = true then kvs.map (fun kv => if kv.1 = k then (kv.1, v) else kv) else kvs ++ [(k, v)]
def Bb (kvs : List (κ × V)) (k : κ) : List (κ × V) := kvs.filter fun kv => decide (kv.1 ≠ k)
theorem kW {p : κ × V} {r : List (κ × V)} {k : κ} (e : p.1 = k) : eC (p :: r) k = some p.2 := by simp [eC, List.find?_cons, e]
theorem kI {p : κ × V} {r : List (κ × V)} {k : κ} (e : ¬ p.1 = k) : eC (p :: r) k = eC r k := by simp [eC, List.find?_cons, e]
theorem o6 (k : κ) : ∀ kvs : List (κ × V), (kvs.any fun kv => decide (kv.1 = k)) = (eC kvs k).isSome
  | [] => rfl
  | p :: r => by
    rw [List.any_cons]
    by_cases e : p.1 = k
    · simp only [kW e, decide_eq_true e, Bool.true_or, Option.isSome_some]
    · rw [kI e, decide_eq_false e, Bool.false_or]; exact o6 k r
theorem eV (kvs : List (κ × V)) (k : κ) (v : V) : (cH kvs k v).length ≤ kvs.length + 1 := by
  unfold cH
  split
  · rw [List.length_map]; omega
  · rw [List.length_append, List.length_cons, List.length_nil]; omega
theorem RelO.isSome_eq {o : Option V} {u : Option Value} (r : RelO o u) : o.isSome = u.isSome := by
  cases o with
  | none => cases u with
    | none => rfl
    | some _ => exact (show False from r).elim
  | some _ => cases u with
    | none => exact (show False from r).elim
    | some _ => rfl
theorem RelO.getD {o : Option V} {u : Option Value} {d : V} {d' : Value} (r : RelO o u) (rd : RelV d d') : RelV (o.getD d) (u.getD d') := by
  cases o with
  | none => cases u with
    | none => exact rd
    | some _ => exact (show False from r).elim
  | some _ => cases u with
    | none => exact (show False from r).elim
    | some _ => exact r
theorem KV.val {kvs : List (κ × V)} {vs : List (κ × Value)} (r : KV kvs vs) (k : κ) : RelO (eC kvs k) (valueAt vs k) := by
  unfold KV at r
  induction r with
  | nil => exact True.intro
  | @cons p q ps qs h t ih =>
    obtain ⟨h1, h2⟩ := h
    by_cases e : p.1 = k
    · have e' : q.1 = k := h1.symm.trans e
      have b : valueAt (q :: qs) k = some q.2 := by simp [valueAt, List.find?_cons, e']
      rw [kW e, b]; exact h2
    · have e' : ¬ q.1 = k := fun z => e (h1.trans z)
      have b : valueAt (q :: qs) k = valueAt qs k := by simp [valueAt, List.find?_cons, e']
      rw [kI e, b]; exact ih
theorem KV.any {kvs : List (κ × V)} {vs : List (κ × Value)} (r : KV kvs vs) (k : κ) : (kvs.any fun kv => decide (kv.1 = k)) = vs.any fun kv => decide (kv.1 = k) := by
  unfold KV at r
  induction r with
  | nil => rfl
  | cons h t ih => rw [List.any_cons, List.any_cons, ih, h.1]
theorem KV.repl {kvs : List (κ × V)} {vs : List (κ × Value)} (r : KV kvs vs) (k : κ) {y : V} {u : Value} (ry : RelV y u) :
    KV (kvs.map fun kv => if kv.1 = k then (kv.1, y) else kv) (vs.map fun kv => if kv.1 = k then (kv.1, u) else kv) := by
  unfold KV at r ⊢
  induction r with
  | nil => exact .nil
  | @cons p q ps qs h t ih =>
    rw [List.map_cons, List.map_cons]
    refine .cons ?_ ih
    obtain ⟨h1, h2⟩ := h
    by_cases e : p.1 = k
    · rw [if_pos e, if_pos (h1.symm.trans e)]; exact ⟨h1, ry⟩
    · rw [if_neg e, if_neg (fun z => e (h1.trans z))]; exact ⟨h1, h2⟩
theorem KV.put {kvs : List (κ × V)} {vs : List (κ × Value)} (r : KV kvs vs) (k : κ) {y : V} {u : Value} (ry : RelV y u) : KV (cH kvs k y) (stored vs k u) := by
  unfold cH stored
  rw [r.any k]
  by_cases e : (vs.any fun kv => decide (kv.1 = k)) = true
  · rw [if_pos e, if_pos e]; exact r.repl k ry
  · rw [if_neg e, if_neg e]; exact Paired.snoc r ⟨rfl, ry⟩
theorem KV.keys {kvs : List (κ × V)} {vs : List (κ × Value)} (r : KV kvs vs) : kvs.map (·.1) = vs.map (·.1) := by
  unfold KV at r
  induction r with
  | nil => rfl
  | cons h t ih => rw [List.map_cons, List.map_cons, ih, h.1]
theorem KV.length {kvs : List (κ × V)} {vs : List (κ × Value)} (r : KV kvs vs) : kvs.length = vs.length := Paired.length r
end
theorem mi {P : Program} {w : World} {k : Key} {u : Value} (r : RelV (kV k) u) : (b7 P w).is k u = true := by
  cases k with
  | inl i => obtain ⟨t, e⟩ := (show ∃ t, u = Value.int i t from r); subst e; exact pL P w i t
  | inr x => obtain ⟨t, e⟩ := (show ∃ t, u = Value.str x t from r); subst e; exact pq P w x t
theorem tX {a b : Key} (e : kV a = kV b) : a = b := by
  cases a with
  | inl i => cases b with
    | inl j => have e' : V.int i = V.int j := e; injection e' with e'; rw [e']
    | inr y => exact nomatch (show V.int i = V.str y from e)
  | inr x => cases b with
    | inl j => exact nomatch (show V.str x = V.int j from e)
    | inr y => have e' : V.str x = V.str y := e; injection e' with e'; rw [e']
theorem n8 : ∀ {a b : List Key}, a.map kV = b.map kV → a = b
  | [], [], _ => rfl
  | [], _ :: _, e => by simp at e
  | _ :: _, [], e => by simp at e
  | x :: xs, y :: ys, e => by
    rw [List.map_cons, List.map_cons] at e
    injection e with e1 e2
    rw [tX e1, n8 e2]
theorem mW {P : Program} {w : World} : ∀ {ks : List Key} {us : List Value}, Vals (ks.map kV) us → ItemsAre (b7 P w) ks us
  | [], _, r => by rw [List.map_nil] at r; cases r; exact .nil
  | k :: ks, _, r => by
    rw [List.map_cons] at r
    cases r with
    | cons h t => exact .cons (mi h) (mW t)
abbrev KT (H : Hp) : List (List Key × V) → List (List Key × Addr × Value) → Prop := Paired fun p q => p.1 = q.1 ∧ H q.2.1 = some (.tup (p.1.map kV)) ∧ RelV p.2 q.2.2
theorem KT.val {H : Hp} {kvs : List (List Key × V)} {xs : List (List Key × Addr × Value)} (r : KT H kvs xs) (k : List Key) : RelO (eC kvs k) ((atKey xs k).map (·.2)) := by
  induction r with
  | nil => exact True.intro
  | @cons p q ps qs h t ih =>
    obtain ⟨h1, _, h2⟩ := h
    by_cases e : p.1 = k
    · have e' : q.1 = k := h1.symm.trans e
      have b : atKey (q :: qs) k = some q.2 := by simp [atKey, List.find?_cons, e']
      rw [kW e, b]; exact h2
    · have e' : ¬ q.1 = k := fun z => e (h1.trans z)
      have b : atKey (q :: qs) k = atKey qs k := by simp [atKey, List.find?_cons, e']
      rw [kI e, b]; exact ih
theorem KT.repl {H : Hp} {kvs : List (List Key × V)} {xs : List (List Key × Addr × Value)} (r : KT H kvs xs) (k : List Key) {y : V} {u : Value} (ry : RelV y u) :
    KT H (kvs.map fun kv => if kv.1 = k then (kv.1, y) else kv) (xs.map (putAt k u)) := by
  induction r with
  | nil => exact .nil
  | @cons p q ps qs h t ih =>
    rw [List.map_cons, List.map_cons]
    refine .cons ?_ ih
    obtain ⟨h1, h2, h3⟩ := h
    unfold putAt
    by_cases e : p.1 = k
    · rw [if_pos e, if_pos (h1.symm.trans e)]; exact ⟨h1, h2, ry⟩
    · rw [if_neg e, if_neg (fun z => e (h1.trans z))]; exact ⟨h1, h2, h3⟩
theorem KT.put {H : Hp} {kvs : List (List Key × V)} {xs : List (List Key × Addr × Value)} (r : KT H kvs xs) (k : List Key) {b : Addr} {y : V} {u : Value} (hb : H b = some (.tup (k.map kV))) (ry : RelV y u) :
    KT H (cH kvs k y) (storedH xs k b u) := by
  have e : (kvs.any fun kv => decide (kv.1 = k)) = (atKey xs k).isSome := by
    rw [o6, (r.val k).isSome_eq, Option.isSome_map]
  unfold cH storedH
  rw [e]
  by_cases q : (atKey xs k).isSome = true
  · rw [if_pos q, if_pos q]; exact r.repl k ry
  · rw [if_neg q, if_neg q]; exact Paired.snoc r ⟨rfl, hb, ry⟩
theorem KT.keeps {H H' : Hp} {kvs : List (List Key × V)} {xs : List (List Key × Addr × Value)} (r : KT H kvs xs) (ht : ∀ b ys, H b = some (.tup ys) → H' b = some (.tup ys)) : KT H' kvs xs :=
  Paired.mapP r fun _ _ z => ⟨z.1, ht _ _ z.2.1, z.2.2⟩
section
variable {P : Program} {w : World} {H : Hp} {h : Heap} {a : Addr}
theorem uI {u : HO} (ok : HOk P w H h) (e : Rd H a u) : ObjOk P w H h a u := e.ok ok
theorem mG {kvs : List (Key × V)} (ok : HOk P w H h) (e : Rd H a (.dK kvs)) : kvs.length ≤ sizeLine ∧ (a == sysModules) = false ∧ ∃ vs, KV kvs vs ∧ h.DictOf (b7 P w) a vs :=
  show ObjOk P w H h a (.dK kvs) from uI ok e
theorem uk {kvs : List (Key × V)} (ok : HOk P w H h) (e : H a = some (.dK kvs)) : kvs.length ≤ sizeLine ∧ (a == sysModules) = false ∧ ∃ vs, KV kvs vs ∧ h.DictOf (b7 P w) a vs := mG ok (.inl e)
theorem jg {ks : List Key} (ok : HOk P w H h) (e : H a = some (.tup (ks.map kV))) : (tupleKind (b7 P w)).is h ks a := by
  obtain ⟨_, its, r, o, h1, h2, n, h3⟩ := (show ObjOk P w H h a (.tup (ks.map kV)) from ok a _ e)
  exact ⟨o, its.toArray, n, h1, h2, h3, by simpa using mW r⟩
theorem mV {kvs : List (List Key × V)} (ok : HOk P w H h) (e : Rd H a (.dT kvs)) : kvs.length ≤ sizeLine ∧ (a == sysModules) = false ∧
    ∃ xs, KT H kvs xs ∧ h.DictOfH (tupleKind (b7 P w)) a xs := by
  obtain ⟨z, y, xs, r, o, es, ep, h1, h2, h3, h4, h5⟩ := (show ObjOk P w H h a (.dT kvs) from uI ok e)
  refine ⟨z, y, xs, r, o, es, ep, h1, h2, h3, h4, fun x hx => ?_, h5⟩
  have all : ∀ {l : List (List Key × V)} {m : List (List Key × Addr × Value)}, KT H l m → ∀ x ∈ m, (tupleKind (b7 P w)).is h x.1 x.2.1 := by
    intro l m q
    induction q with
    | nil => intro x hx; exact nomatch hx
    | @cons p q ps qs hq t ih =>
      intro x hx
      rcases List.mem_cons.mp hx with e | hx
      · subst e
        exact jg ok (by rw [← hq.1]; exact hq.2.1)
      · exact ih x hx
  exact all r x hx
theorem xT {kvs : List (List Key × V)} (ok : HOk P w H h) (e : H a = some (.dT kvs)) : kvs.length ≤ sizeLine ∧ (a == sysModules) = false ∧
    ∃ xs, KT H kvs xs ∧ h.DictOfH (tupleKind (b7 P w)) a xs := mV ok (.inl e)
end
def DGet (H : Hp) (a : Addr) (y : V) (r : Option V) : Prop :=
  (∃ kvs k, Rd H a (.dK kvs) ∧ y = kV k ∧ r = eC kvs k) ∨ ∃ kvs k b, Rd H a (.dT kvs) ∧ y = .ref b ∧ H b = some (.tup (k.map kV)) ∧ r = eC kvs k
def DPut (H : Hp) (a : Addr) (y v : V) (H' : Hp) : Prop :=
  (∃ kvs k, H a = some (.dK kvs) ∧ y = kV k ∧ kvs.length < sizeLine ∧ H' = upd H a (.dK (cH kvs k v))) ∨
  ∃ kvs k b, H a = some (.dT kvs) ∧ y = .ref b ∧ H b = some (.tup (k.map kV)) ∧ kvs.length < sizeLine ∧ H' = upd H a (.dT (cH kvs k v))
theorem DGet.k {H : Hp} {a : Addr} {kvs : List (Key × V)} {k : Key} (e : H a = some (.dK kvs)) : DGet H a (kV k) (eC kvs k) := .inl ⟨kvs, k, .inl e, rfl, rfl⟩
theorem DGet.t {H : Hp} {a b : Addr} {kvs : List (List Key × V)} {k : List Key} (e : H a = some (.dT kvs)) (eb : H b = some (.tup (k.map kV))) : DGet H a (.ref b) (eC kvs k) := .inr ⟨kvs, k, b, .inl e, rfl, eb, rfl⟩
theorem DPut.k {H : Hp} {a : Addr} {kvs : List (Key × V)} {k : Key} {v : V} (e : H a = some (.dK kvs)) (hl : kvs.length < sizeLine) : DPut H a (kV k) v (upd H a (.dK (cH kvs k v))) := .inl ⟨kvs, k, e, rfl, hl, rfl⟩
theorem DPut.t {H : Hp} {a b : Addr} {kvs : List (List Key × V)} {k : List Key} {v : V} (e : H a = some (.dT kvs)) (eb : H b = some (.tup (k.map kV))) (hl : kvs.length < sizeLine) :
    DPut H a (.ref b) v (upd H a (.dT (cH kvs k v))) := .inr ⟨kvs, k, b, e, rfl, eb, hl, rfl⟩
section
variable {X : Cx} {pins : List (Addr × Obj)} {σ : St} {H : Hp} {s : Shared} {a : Addr} {y v : V} {u r : Value} {o : Option V} {A : Around} {E : Value → Shared → Prop}
theorem Inv.big (I : Inv X pins σ H s) : sysModules < s.heap.objs.size := by
  have h : mainGlobals < s.heap.objs.size := (I.mod.glob.keeps I.bk).lt
  exact Nat.lt_trans (by decide) h
theorem tS {Q : Value → Shared → Prop} (hu : A.units + 1 < cLine) (I : Inv X pins σ H s) (g : DGet H a y (some v)) (ry : RelV y u) (h : ∀ w' s', Inv X pins σ H s' → RelV v w' → Q w' s') :
    wpAny (model X.prog X.w) A (getItem (.ref a) u) Q E s := by
  rcases g with ⟨kvs, k, e, ey, l⟩ | ⟨kvs, k, b, e, ey, eb, l⟩
  · subst ey
    obtain ⟨z, hd, vs, rel, dd⟩ := mG I.hok e
    obtain ⟨w', hw, rw'⟩ := RelO.some_of (v := v) (o := valueAt vs k) (by rw [l]; exact rel.val k)
    exact wpAny_getItem_of (mi ry) dd.mapOf hw (h w' _ (I.tok _) rw')
  · subst ey
    cases (show u = Value.ref b from ry)
    obtain ⟨z, hd, xs, rel, dd⟩ := mV I.hok e
    obtain ⟨w', hw, rw'⟩ := RelO.some_of (v := v) (o := (atKey xs k).map (·.2)) (by rw [l]; exact rel.val k)
    obtain ⟨p, hp, hp2⟩ := Option.map_eq_some_iff.mp hw
    refine wpAny_getItem_heap (tupleKind_room_in1 hu) (jg I.hok eb) dd hp ?_
    rw [hp2]
    exact h w' _ (I.tok _) rw'
theorem jU {h' : Heap} {t' : Nat} {ob : HO} (I : Inv X pins σ H s) (mu : Mut (H a)) (hs : Heap.SameBut a s.heap h') (he : ∃ q, h'.get? a = some q) (new : ObjOk X.prog X.w (upd H a ob) h' a ob) :
    Inv X pins σ (upd H a ob) { s with heap := h', toks := t' } :=
  I.write (x := a) (e := a) mu (.inl rfl) (fun b q hb z => (hs.2 b hb).trans z) he new
theorem vt {P : Program} {w : World} {H' : Hp} {h' : Heap} {kvs : List (Key × V)} {vs : List (Key × Value)} (z : kvs.length ≤ sizeLine) (hd : (a == sysModules) = false) (rel : KV kvs vs) (dd : h'.DictOf (b7 P w) a vs) :
    ObjOk P w H' h' a (.dK kvs) := ⟨z, hd, vs, rel, dd⟩
theorem tP {H' : Hp} {Q : Unit → Shared → Prop} (hu : A.units + 1 < cLine) (I : Inv X pins σ H s) (g : DPut H a y v H') (ry : RelV y u) (rv : RelV v r) (h : ∀ s', Inv X pins σ H' s' → Q () s') :
    wpAny (model X.prog X.w) A (setItem (.ref a) u r) Q E s := by
  rcases g with ⟨kvs, k, e, ey, l, eH⟩ | ⟨kvs, k, b, e, ey, eb, l, eH⟩
  · subst ey eH
    obtain ⟨z, hd, vs, rel, dd⟩ := uk I.hok e
    have hz : vs.length ≤ sizeLine := by rw [← rel.length]; exact z
    have hl : (cH kvs k v).length ≤ sizeLine := by have := eV kvs k v; omega
    refine wpAny_setItem_pairs (hsz := hz) (mi ry) dd fun h' dd' hs => h _ ?_
    have he : ∃ q, h'.get? a = some q := let ⟨q, _, _, hq, _⟩ := dd'; ⟨q, hq⟩
    exact jU I (by rw [e]; exact True.intro) hs he (vt hl hd (rel.put k rv) dd')
  · subst ey eH
    cases (show u = Value.ref b from ry)
    obtain ⟨z, hd, xs, rel, dd⟩ := xT I.hok e
    have hz : xs.length ≤ sizeLine := by rw [← Paired.length rel]; exact z
    have hl : (cH kvs k v).length ≤ sizeLine := by have := eV kvs k v; omega
    refine wpAny_setItem_heap (hsz := hz) (tupleKind_room_in1 hu) (jg I.hok eb) dd fun h' dd' hs => h _ ?_
    obtain ⟨q, es, ep, hq, h2, h3, h4, _, h5⟩ := dd'
    refine jU I (by rw [e]; exact True.intro) hs ⟨q, hq⟩ ⟨hl, hd, _, (rel.put k eb rv).keeps fun c ys ec => ?_, q, es, ep, hq, h2, h3, h4, h5⟩
    rw [af (db ec e (fun z => nomatch z))]
    exact ec
end
section
variable {X : Cx} {pins : List (Addr × Obj)} {σ : St} {H : Hp} {s : Shared} {a : Addr} {kvs : List (Key × V)} {k : Key} {u : Value} {A : Around} {E : Value → Shared → Prop}
end
def Ag (i : Expr) : Prop := ∀ ov iv, subscripted i false ov iv = operate [ov, iv] (getItem ov iv)
theorem w_ {prog : Program} {w : World} {A : Around} {E : Value → Shared → Prop} {s : Shared} {env : Env} {value slice : Expr} {pos : Pos} {T id : String} {Q : Value → Shared → Prop}
    (hl : typeLookup (.type T) "__getitem__" = pure (some (.builtin id))) (hs : Ag slice)
    (h : wpAny (model prog w) A (eval value env) (fun o s₁ => wpAny (model prog w) A (eval slice env) (fun i s₂ => s₂.TypeIs o T ∧ wpAny (model prog w) A (getItem o i) Q E s₂) E s₁) E s) :
    wpAny (model prog w) A (eval (.Subscript value slice pos) env) Q E s := by
  refine Subscript_ (wpAny_mono h (fun o s₁ h₁ => wpAny_mono h₁ (fun i s₂ h₂ => ?_) fun _ _ x => x) fun _ _ x => x)
  obtain ⟨hT, h₂⟩ := h₂
  unfold subscriptTail
  refine wpAny_bind ?_
  rw [getitemInPython_of_ne hT.not_modules]
  refine wpAny_bind (wpAny_specialOf hT hl ?_)
  have fin : wpAny (model prog w) A (subscripted slice false o i) (fun r s₃ => wpAny (model prog w) A (letTemporaryGo value o r >>= fun _ => pure r) Q E s₃) E s₂ := by
    rw [hs o i]
    exact wpAny_operating (wpAny_mono h₂ (fun r s₃ h₃ => wpAny_bind (wpAny_letTemporaryGo (wpAny_pure h₃))) fun _ _ x => x)
  first
    | exact wpAny_pure (wpAny_bind fin)
    | exact wpAny_bind (wpAny_pure (wpAny_bind fin))
    | exact wpAny_bind fin
theorem p7 {X : Cx} {pins : List (Addr × Obj)} {σ : St} {H : Hp} {s : Shared} {a : Addr} {y : V} {o : Option V} (I : Inv X pins σ H s) (g : DGet H a y o) : s.TypeIs (.ref a) "dict" := by
  rcases g with ⟨kvs, k, e, _, _⟩ | ⟨kvs, k, b, e, _, _, _⟩
  · obtain ⟨_, _, vs, _, dd⟩ := mG I.hok e
    exact dd.typeIs
  · obtain ⟨_, _, xs, _, dd⟩ := mV I.hok e
    exact dd.typeIs
def xW (td ty : TE) : TE := fun σ H Q => td σ H fun x H1 => ty σ H1 fun y H2 => ∃ a v, x = .ref a ∧ DGet H2 a y (some v) ∧ Q v H2
def xM (td ty tv : TE) : TS := fun D σ H => tv σ H fun v H1 => td σ H1 fun x H2 => ty σ H2 fun y H3 => ∃ a H4, x = .ref a ∧ DPut H3 a y v H4 ∧ D.nx σ H4
section
variable {X : Cx} {o i e value : Expr} {pos pos' tpos : Pos} {td ty tv : TE}
theorem j3 (hu : X.A.units + 1 < cLine) (ho : PE X o td) (hi : PE X i ty) (hs : Ag i) : PE X (.Subscript o i pos) (xW td ty) := by
  intro pins s σ H Q I h
  refine w_ PySem.F.slot_dict_getitem.lookup hs (thn (ho pins s σ H _ I h) fun u s1 ⟨x, H1, I1, rx, q1⟩ => thn (hi pins s1 σ H1 _ I1 q1) fun iv s2 ⟨y, H2, I2, ry, a, v, ex, g, q2⟩ => ?_)
  subst ex
  obtain rfl : u = Value.ref a := rx
  exact ⟨p7 I2 g, tS hu I2 g ry fun w' s3 I3 rw' => ⟨v, H2, I3, rw', q2⟩⟩
theorem iB (hu : X.A.units + 1 < cLine) (ho : PE X o td) (hi : PE X i ty) (hv : PE X value tv) (hs : swapsWith value (some (.Subscript o i pos')) pos.line X.env = pure false) :
    PS X (.Assign [.Subscript o i pos'] value pos) (xM td ty tv) := by
  intro pins s σ H D I h
  refine wpAny_Assign_Subscript (thn (hv pins s σ H _ I h) fun r s1 ⟨v, H1, I1, rv, q1⟩ => thn (ho pins s1 σ H1 _ I1 q1) fun u s2 ⟨x, H2, I2, rx, q2⟩ => thn (hi pins s2 σ H2 _ I2 q2) fun iv s3 ⟨y, H3, I3, ry, a, H4, ex, g, q3⟩ => ?_) hs
  subst ex
  obtain rfl : u = Value.ref a := rx
  exact tP hu I3 g ry rv fun s4 I4 => ⟨σ, H4, I4, q3⟩
end
theorem uj {P : Program} {w : World} {H : Hp} (h : Heap) (hb : sysModules < h.objs.size) : ObjOk P w H (h.push { cls := .type "dict", data := .dict #[] }) h.objs.size (.dT []) :=
  ⟨Nat.zero_le _, beq_eq_false_iff_ne.mpr (Ne.symm (Nat.ne_of_lt hb)), [], .nil, _, #[], 0, Heap.get?_push_size _ rfl, ⟨rfl, rfl, rfl⟩, rfl, rfl, List.nodup_nil⟩
def u_ : TE := fun _ H Q => ∀ p, H p = none → Q (.ref p) (upd H p (.dT []))
section
variable {X : Cx} {pos : Pos}
theorem o_ : PE X (.Dict [] [] pos) u_ := fun pins s σ H Q I h =>
  wpAny_Dict_empty ⟨.ref s.heap.objs.size, _, I.laid (a := s.heap.objs.size) (o := .dT []) (t' := s.toks) (fun _ _ q => Heap.get?_push_of_some _ q) (Nat.le_refl _) (uj s.heap I.big), rfl, h _ (I.hok.fresh (Nat.le_refl _))⟩
end
structure M2 (X : Cx) (o : Expr) (m : Str) (apos : Pos) (e f : Expr) (cpos : Pos) : Prop where
  base : attributeBase o m X.env (eval o X.env) = eval o X.env
  few : ((backTo cpos (starEach [e, f] X.env)).all (fun x => !x.1) && (backToKw cpos (keywordEach [] X.env)).all (fun x => x.1.isSome)
    && decide (([e, f] : List Expr).length + ([] : List Keyword).length + (if ([] : List Keyword).isEmpty then 0 else 1) < 30)) = true
  line : (apos.endLine == cpos.line) = true
  trees : backTo cpos (starEach [e, f] X.env) = [(false, eval e X.env), (false, eval f X.env)]
def IsD (H : Hp) (a : Addr) : Prop := (∃ kvs, Rd H a (.dK kvs)) ∨ ∃ kvs, Rd H a (.dT kvs)
theorem vo {X : Cx} {pins : List (Addr × Obj)} {σ : St} {H : Hp} {s : Shared} {a : Addr} (I : Inv X pins σ H s) (d : IsD H a) :
    s.TypeIs (.ref a) "dict" ∧ (∀ b, Value.ref a = .ref b → ∃ ob, s.heap.get? b = some ob ∧ ob.dict = none) ∧ (a == sysModules) = false := by
  rcases d with ⟨kvs, e⟩ | ⟨kvs, e⟩
  · obtain ⟨_, hd, vs, _, dd⟩ := mG I.hok e
    refine ⟨dd.typeIs, fun b q => ?_, hd⟩
    cases q
    obtain ⟨ob, _, _, h1, h2, _⟩ := dd
    exact ⟨ob, h1, h2.2.1⟩
  · obtain ⟨_, hd, xs, _, dd⟩ := mV I.hok e
    refine ⟨dd.typeIs, fun b q => ?_, hd⟩
    cases q
    obtain ⟨ob, _, _, h1, h2, _⟩ := dd
    exact ⟨ob, h1, h2.2.1⟩
section
variable {X : Cx} {pins : List (Addr × Obj)} {σ : St} {H : Hp} {s : Shared} {a : Addr} {y d : V} {u r : Value} {o : Option V} {A : Around} {E : Value → Shared → Prop}
theorem zo {Q : Value → Shared → Prop} (hu : A.units + 1 < cLine) (I : Inv X pins σ H s) (g : DGet H a y o) (ry : RelV y u) (rd : RelV d r) (h : ∀ w' s', Inv X pins σ H s' → RelV (o.getD d) w' → Q w' s') :
    wpAny (model X.prog X.w) A (call (.builtin "dict.get") [.ref a, u, r]) Q E s := by
  rcases g with ⟨kvs, k, e, ey, l⟩ | ⟨kvs, k, b, e, ey, eb, l⟩
  · subst ey
    obtain ⟨z, hd, vs, rel, dd⟩ := mG I.hok e
    refine call_meetsIn PySem.F.slot_dict_get dd.typeIs PySem.F.entry_dict_get (PySem.F.args_dict_get_3 _ _ _) (meets_dict_get_default (b7 X.prog X.w) a (mi ry) hd r) ⟨_, dd.mapOf, h _ _ (I.tok _) ?_⟩
    rw [l]
    exact (rel.val k).getD rd
  · subst ey
    cases (show u = Value.ref b from ry)
    obtain ⟨z, hd, xs, rel, dd⟩ := mV I.hok e
    refine call_meetsIn PySem.F.slot_dict_get dd.typeIs PySem.F.entry_dict_get (PySem.F.args_dict_get_3 _ _ _) (meetsH_dict_get_default (tupleKind (b7 X.prog X.w)) a b hd r) ⟨tupleKind_room_in1 hu, k, xs, jg I.hok eb, dd, h _ _ (I.tok _) ?_⟩
    rw [l]
    exact (rel.val k).getD rd
end
def uD (td ty tx : TE) : TE := fun σ H Q => td σ H fun x H1 => ∃ a, x = .ref a ∧ IsD H1 a ∧ ty σ H1 fun y H2 => tx σ H2 fun z H3 => ∃ o, DGet H3 a y o ∧ Q (o.getD z) H3
section
variable {X : Cx} {o e f : Expr} {apos cpos : Pos} {td ty tx : TE}
theorem oQ (hu : X.A.units + 1 < cLine) (ho : PE X o td) (he : PE X e ty) (hf : PE X f tx) (m : M2 X o "get" apos e f cpos) : PE X (.Call (.Attribute o "get" apos) [e, f] [] cpos) (uD td ty tx) := by
  intro pins s σ H Q I h
  refine wpAny_Call_method m.base m.few m.line PySem.F.plainAttrs_dict PySem.F.slot_dict_get PySem.F.type_dict_get (thn (ho pins s σ H _ I h) fun u s1 ⟨x, H1, I1, rx, a, ex, d, q1⟩ => ?_)
  subst ex
  obtain rfl : u = Value.ref a := rx
  obtain ⟨t1, t2, _⟩ := vo I1 d
  refine ⟨t1, t2, ?_⟩
  rw [m.trees]
  refine Calls.callWith_builtin rfl (Calls.evalArgs_plain (Calls.spliced_cons (thn (he pins s1 σ H1 _ I1 q1) fun iv s2 ⟨y, H2, I2, ry, q2⟩ =>
    Calls.spliced_cons (thn (hf pins s2 σ H2 _ I2 q2) fun fv s3 ⟨z, H3, I3, rz, ov, g, q3⟩ => Calls.spliced_nil ?_))))
  exact zo hu I3 g ry rz fun w' s4 I4 rw' => ⟨_, H3, I4, rw', q3⟩
end
section
variable {X : Cx} {pins : List (Addr × Obj)} {σ : St} {H : Hp} {s : Shared} {a : Addr} {kvs : List (Key × V)} {A : Around} {E : Value → Shared → Prop}
end
section
variable {X : Cx} {pins : List (Addr × Obj)} {σ : St} {H : Hp} {s : Shared} {a : Addr} {y : V} {u : Value} {A : Around} {E : Value → Shared → Prop}
end
end L2
set_option Elab.async false
set_option linter.all false
set_option maxRecDepth 100000
namespace L2
open PySem PySem.Spec PyProof.Rows
section
variable {X : Cx} {e o value : Expr} {f : Str} {ta tv : TE} {pos pos' : Pos}
def yw (K : PySem.W.Frag) (f : Str) : V → Hp → VK → Prop
  | .ref p, H, Q => ∃ C dx fs v, H p = some (.ins C dx fs) ∧ Cls K C ∧ NoAttr K C f ∧ fs.lookup f = some v ∧ Q v H
  | _, _, _ => False
def xZ (K : PySem.W.Frag) (ta : TE) (f : Str) : TE := fun σ H Q => ta σ H fun x H1 => yw K f x H1 Q
theorem gS (K : PySem.W.Frag) (he : PE X e ta) (hK : X.K = K := by rfl) (hb : attributeBase e f X.env (eval e X.env) = eval e X.env := by rfl) : PE X (.Attribute e f pos) (xZ K ta f) := by
  subst hK
  intro pins s σ H Q I h
  refine xn hb (thn (he pins s σ H _ I h) fun u s1 ⟨x, H1, I1, rx, q⟩ => ?_)
  dsimp only at q
  unfold yw at q
  split at q
  · rename_i a
    obtain ⟨C, dx, fs, v, ea, c, n, l, q⟩ := q
    obtain rfl : u = Value.ref a := rx
    exact qJ I1 ea c n l fun u' s2 I2 ru => ⟨v, H1, I2, ru, q⟩
  · exact q.elim
def vS (K : PySem.W.Frag) (f : Str) (y : V) : V → Hp → (Hp → Prop) → Prop
  | .ref p, H, Q => ∃ C dx fs, H p = some (.ins C dx fs) ∧ Cls K C ∧ NoAttr K C f ∧ fs.length < 1000 ∧ Q (upd H p (.ins C dx (fL f y fs)))
  | _, _, _ => False
def x_ (K : PySem.W.Frag) (ta tv : TE) (f : Str) : TS := fun D σ H => tv σ H fun y H1 => ta σ H1 fun x H2 => vS K f y x H2 fun H3 => D.nx σ H3
theorem sQ (K : PySem.W.Frag) (ha : PE X o ta) (hv : PE X value tv) (hK : X.K = K := by rfl) (hs : swapsWith value (some (.Attribute o f pos')) pos.line X.env = pure false := by rfl) : PS X (.Assign [.Attribute o f pos'] value pos) (x_ K ta tv f) := by
  subst hK
  intro pins s σ H D I h
  refine plainObj_wpAny_Assign_Attribute (thn (hv pins s σ H _ I h) fun u s1 ⟨y, H1, I1, ry, q⟩ => thn (ha pins s1 σ H1 _ I1 q) fun ov s2 ⟨x, H2, I2, rx, q2⟩ => ?_) hs
  dsimp only at q2
  unfold vS at q2
  split at q2
  · rename_i a
    obtain ⟨C, dx, fs, ea, c, n, l, q2⟩ := q2
    obtain rfl : ov = Value.ref a := rx
    exact qx I2 ea c n l ry fun s3 I3 => ⟨σ, _, I3, q2⟩
  · exact q2.elim
end
section
variable {X : Cx} {CX : CXT} {k : Nat} {f C : Addr} {fd : FuncData} {ps : List Str} {sp : Sp} {dvs : List V} {ds : List Value} {E : XKs} {x m : Str} {p pos apos : Pos} {e o : Expr} {es : List Expr} {ta : TE} {t : TA}
def rP (C : Addr) (m : Str) : V → Hp → (V → Prop) → Prop
  | .ref p, H, Q => ∃ dx fs, H p = some (.ins C dx fs) ∧ fs.lookup m = none ∧ Q (.ref p)
  | _, _, _ => False
def qD (C : Addr) (m : Str) (sp : Sp) (dvs : List V) (E : XKs) (ta : TE) (t : TA) : TE := fun σ H Q => ta σ H fun x0 H1 => rP C m x0 H1 (fun x => t σ H1 fun vs H2 => sp (x :: (vs ++ dvs)) H2 Q (E σ))
theorem dO {pl : Sem Bool} (he : PE X o ta) (c : Cls X.K C) (hm : lE X.K C m f) (F : cz X.prog X.w X.K X.mg X.base CX k f fd ps sp) (hr : Room k X.A) (hb : Binds X.K fd ps ds) (hd : Vals dvs ds) (hx : dE CX X E) (ha : PA X (e :: es) t)
    (hst : starEach (e :: es) X.env = (false, eval e X.env) :: starEach es X.env := by rfl) (hpl : (backTo pos (starEach es X.env)).any (·.1) = false := by rfl)
    (ht : eval (.Call (.Attribute o m apos) (e :: es) [] pos) X.env = (do
      let ov ← eval o X.env
      standAt apos.atName
      let (f, first) ← holding [ov] (getMethod ov m pl)
      callWith pos f first (backTo pos (starEach (e :: es) X.env)) (backToKw pos (keywordEach [] X.env))) := by rfl) :
    PE X (.Call (.Attribute o m apos) (e :: es) [] pos) (qD C m sp dvs E ta t) := by
  intro pins s σ H Q I h
  refine PySem.W.methodCall_KW (pl := pl) (thn (he pins s σ H _ I h) fun u s1 ⟨xo, H1, I1, rx, q⟩ => ?_) ht
  dsimp only at q
  unfold rP at q
  split at q
  · rename_i a
    obtain ⟨dx, fs, ea, l, q⟩ := q
    obtain rfl : u = Value.ref a := rx
    refine kJ I1 ea c hm l ?_
    refine PySem.W.callWith_K (first := [.ref a]) (h₀ := X.base) I.ok.mod.kin hm.kp (thn (ha pos pins s1 σ _ _ I1 q) fun us s2 ⟨vs, H2, I2, r, q2⟩ => ⟨I2.kIn, ?_⟩) hst hpl
    exact ni (us := .ref a :: us) (vs := .ref a :: vs) F hr hb hd hx I2 (.cons rfl r) q2
  · exact q.elim
theorem m7 {pl : Sem Bool} (he : PE X o ta) (c : Cls X.K C) (hm : lE X.K C m f) (F : cz X.prog X.w X.K X.mg X.base CX k f fd ps sp) (hr : Room k X.A) (hb : Binds X.K fd ps ds) (hd : Vals dvs ds) (hx : dE CX X E)
    (ht : eval (.Call (.Attribute o m apos) [] [] pos) X.env = (do
      let ov ← eval o X.env
      standAt apos.atName
      let (f, first) ← holding [ov] (getMethod ov m pl)
      callWith pos f first (backTo pos (starEach [] X.env)) (backToKw pos (keywordEach [] X.env))) := by rfl) :
    PE X (.Call (.Attribute o m apos) [] [] pos) (qD C m sp dvs E ta tZ) := by
  intro pins s σ H Q I h
  refine PySem.W.methodCall_KW (pl := pl) (thn (he pins s σ H _ I h) fun u s1 ⟨xo, H1, I1, rx, q⟩ => ?_) ht
  dsimp only at q
  unfold rP at q
  split at q
  · rename_i a
    obtain ⟨dx, fs, ea, l, q⟩ := q
    obtain rfl : u = Value.ref a := rx
    refine kJ I1 ea c hm l ?_
    exact PySem.W.callWith_K0 (first := [.ref a]) I1.kIn hm.kp (ni (us := [.ref a]) (vs := [.ref a]) F hr hb hd hx I1 (.cons rfl .nil) q)
  · exact q.elim
def vh (C : Addr) (sp : Sp) (dvs : List V) (E : XKs) (t : TA) : TE := fun σ H Q => t σ H fun vs H1 => ∀ x dx, H1 x = none → H1 dx = none → dx ≠ x →
  sp (.ref x :: (vs ++ dvs)) (upd (upd H1 dx (.own x)) x (.ins C dx [])) (fun v H2 => v = .non ∧ Q (.ref x) H2) (E σ)
theorem sW {pins : List (Addr × Obj)} {σ : St} {H : Hp} {s : Shared} {Q : VK} {us : List Value} {vs : List V} (M : Mk X.K C f) (F : cz X.prog X.w X.K X.mg X.base CX k f fd ps sp) (hr : Room (k + 1) X.A) (hb : Binds X.K fd ps ds) (hd : Vals dvs ds)
    (hx : dE CX X E) (I : Inv X pins σ H s) (r : Vals vs us)
    (h : ∀ x dx, H x = none → H dx = none → dx ≠ x → sp (.ref x :: (vs ++ dvs)) (upd (upd H dx (.own x)) x (.ins C dx [])) (fun v H2 => v = .non ∧ Q (.ref x) H2) (E σ)) :
    wpAny (model X.prog X.w) X.A (call (.ref C) us) (EP X pins σ Q) X.xe s := by
  have hq := h (s.heap.objs.size + 1) s.heap.objs.size (I.hok.fresh (Nat.le_succ _)) (I.hok.fresh (Nat.le_refl _)) (Nat.ne_of_lt (Nat.lt_succ_self _))
  have I2 := Inv.made (C := C) I
  have r2 : Vals (V.ref (s.heap.objs.size + 1) :: (vs ++ dvs)) (Value.ref (s.heap.objs.size + 1) :: (us ++ ds)) := .cons rfl (r.append hd)
  have hl : (Value.ref (s.heap.objs.size + 1) :: us ++ ds).length = ps.length := by
    have e := r2.length
    rw [F.len _ _ _ _ hq] at e
    exact e.symm
  refine wpAny_call (vY (f := f) I.kIn M.makes M.init (beq_iff_eq.mp M.fn) (codeAny_mono (F.run _ X.stack _ _ ⟨Value.ref (s.heap.objs.size + 1) :: us, []⟩ (Value.ref (s.heap.objs.size + 1) :: (us ++ ds)) _ _ (E σ) (hr.make C us [])
    (I2.env0.make C us []) (hb _ (Value.ref (s.heap.objs.size + 1) :: us) I2.kIn hl) r2 hq) fun r s' hq' => ?_))
  cases r with
  | error e => exact hx pins σ _ _ e s' I2 hq'
  | ok fl =>
    cases fl with
    | ret u =>
      obtain ⟨v, H', I3, rv, ev, q3⟩ := I2.after hq'
      subst ev
      exact ⟨rv, ⟨V.ref (s.heap.objs.size + 1), H', I3, rfl, q3⟩⟩
    | next => exact False.elim hq'
    | brk => exact False.elim hq'
    | cont => exact False.elim hq'
theorem mI (M : Mk X.K C f) (F : cz X.prog X.w X.K X.mg X.base CX k f fd ps sp) (hr : Room (k + 1) X.A) (hg : Gl X x) (hm : X.mg x = some (.ref C)) (hb : Binds X.K fd ps ds) (hd : Vals dvs ds) (hx : dE CX X E)
    (hdb : (x == ("__debug__" : Str)) = false := by decide) : PE X (.Call (.Name x p) [] [] pos) (vh C sp dvs E tZ) := by
  intro pins s σ H Q I h
  refine wpAny_Call_Name_kw (gL I hg hm ?_ hdb)
  exact PySem.W.callWith_K0 I.kIn M.kp (sW (us := []) M F hr hb hd hx I .nil h)
end
end L2
set_option Elab.async false
set_option linter.all false
set_option maxRecDepth 100000
namespace L2
open PySem PySem.Spec PyProof.Rows
def dS (wi : TI) (n : Nat) (g : TG) (ks : List Nat) (tt : TT) (te : TE) : TE := fun σ H Q => wi σ H fun J H1 => ∀ D, H1 D = none → ∃ W : Nat → Nat → List V → Hp → Prop, (∃ m, W 0 m [] (upd H1 D (.lst []))) ∧
  ∀ i m ys H2, W i m ys H2 → H2 D = some (.lst ys) ∧ ((J.stop i H2 ∧ Q (.ref D) H2) ∨ (J.go i H2 ∧ ∀ x H3, J.yld i H2 x H3 → ∀ zs : St, zs.length = n →
    g x (zs ++ ks.map fun k => (σ[k]?).join) H3 fun σ4 H4 => (∃ zs4 : St, zs4.length = n ∧ σ4 = zs4 ++ ks.map fun k => (σ[k]?).join) ∧
      tt σ4 H4 fun b H5 => if b = true then te σ4 H5 fun y H6 => H6 D = some (.lst ys) ∧ ys.length < sizeLine ∧ ∃ m', m' < m ∧ W (i + 1) m' (ys ++ [y]) (upd H6 D (.lst (ys ++ [y])))
        else ∃ m', m' < m ∧ W (i + 1) m' ys H5))
theorem mR {X : Cx} {elt iter : Expr} {x : Str} {xs : List Str} {tg : Expr} {g : TG} {pos : Pos} {ifs : List Expr} {scope : Scope} {cl : List (Str × Addr)} {fr : List Str} {ks : List Nat} {wi : TI} {tt : TT} {te : TE} (hc : X.calm = true) (S : CompScope X scope cl x fr)
    (hks : ks.map (fun k => X.N[k]?) = fr.map some) (hi : PI X tg iter wi) (hg : ∀ C s₂ H₂ ex pn, PG (cM X (xs ++ fr) scope cl C s₂ H₂ ex pn) tg g)
    (ht : ∀ C s₂ H₂ ex pn, PTs (cM X (xs ++ fr) scope cl C s₂ H₂ ex pn) ifs tt) (he : ∀ C s₂ H₂ ex pn, PE (cM X (xs ++ fr) scope cl C s₂ H₂ ex pn) elt te)
    (hs : ∀ x, foldedSetIterable iter X.env x = pure x := by intro _; rfl)
    {pins : List (Addr × Obj)} {s : Shared} {σ : St} {H : Hp} {Q : VK} (I : Inv X pins σ H s) (h : dS wi xs.length g ks tt te σ H Q) (use : Option (Value → Sem Unit)) (Qp : Value → Shared → Prop)
    (hend : ∀ (D C : Addr) (H' : Hp) (s' : Shared) (mC : Str → Option Value) (f : Flow), Inv X pins σ H' s' → oF X pins H' C → s'.heap.Ns C mC → Q (.ref D) H' → compPost (model X.prog X.w) X.A X.xe use Qp (.ref D) C (.ok f) s') :
    wpAny (model X.prog X.w) X.A (comprehension (.ListComp elt [⟨tg, iter, ifs, 0⟩] scope pos) scope X.env (firstIterPos [⟨tg, iter, ifs, 0⟩] pos) (newList []) false (firstIter [⟨tg, iter, ifs, 0⟩] X.env) use) Qp X.xe s := by
  refine wpAny_comprehension_free (use := use) rfl hs S.clos S.kind S.names (thn (hi pins s σ H _ I h) fun v s1 h1 => thn h1 fun itv s2 h2 => ?_)
  obtain ⟨it, fp, tn, J, H2, e, I2, T, st2, f2, hW⟩ := h2
  subst e
  refine wpAny_newObj_type (wpAny_newFunctionEnv S.nocell (by intro y hy; simp at hy) (fun h₁ hns₁ hsb₁ => ?_) S.kind)
  dsimp only at hns₁ hsb₁ ⊢
  have hD0 : H2 s2.heap.objs.size = none := I2.hok.fresh (Nat.le_refl _)
  obtain ⟨W, ⟨m0, w0⟩, turn⟩ := hW s2.heap.objs.size hD0
  generalize hs3 : s2.heap.push { cls := .type "list", dict := none, data := .seq ([] : List Value).toArray } = g3 at hns₁ hsb₁ ⊢
  have hsz3 : g3.objs.size = s2.heap.objs.size + 1 := by rw [← hs3, Heap.size_push]
  have up3 : ∀ b o, s2.heap.get? b = some o → g3.get? b = some o := fun b o e => by rw [← hs3]; exact Heap.get?_push_of_some _ e
  have gD : g3.get? s2.heap.objs.size = some { cls := .type "list", dict := none, data := .seq ([] : List Value).toArray } := by rw [← hs3]; exact Heap.get?_push_size _ rfl
  have I3 : Inv X pins σ (upd H2 s2.heap.objs.size (.lst [])) { s2 with heap := g3 } := I2.laid (t' := s2.toks) up3 (Nat.le_refl _) ⟨by simp, [], 0, .nil, gD⟩
  have keep4 : ∀ b o, g3.get? b = some o → h₁.get? b = some o := fun b o e => (hsb₁.2 b (Nat.ne_of_lt (Heap.lt_size e))).trans (Heap.get?_push_of_some _ e)
  have hCn : (upd H2 s2.heap.objs.size (.lst [])) g3.objs.size = none := I3.hok.fresh (Nat.le_refl _)
  have fpD : ∀ b ∈ fp, b ≠ s2.heap.objs.size := fun b hb z => by
    obtain ⟨o, e, _⟩ := T.obj 0 _ st2 b hb
    exact absurd (Heap.lt_size e) (by rw [z]; exact Nat.lt_irrefl _)
  have fpC : ∀ b ∈ fp, b ≠ g3.objs.size := fun b hb z => by
    obtain ⟨o, e, _⟩ := T.obj 0 _ st2 b hb
    exact absurd (Heap.lt_size (up3 b o e)) (by rw [z]; exact Nat.lt_irrefl _)
  have fpN : ∀ b ∈ fp, (upd H2 s2.heap.objs.size (.lst [])) b = none := fun b hb => by rw [af (fpD b hb)]; exact (f2 b hb).1
  have Ok : (cM X (xs ++ fr) scope cl g3.objs.size { s2 with heap := g3 } (upd H2 s2.heap.objs.size (.lst [])) fp (X.pn ++ pins)).Ok := by
    refine ⟨I.ok.mod, S.kind, I.ok.glob, I.ok.blt, Nat.le_refl _, fun y z c e1 e2 => I.ok.inj y z c (S.sub e1) (S.sub e2), fun y hy => ?_, (fun y c z => nomatch z), I.ok.hd, I.ok.frames, .inl rfl, fun b hb => ⟨fpC b hb, fun y c e => (f2 b hb).2.2.2.2.1 y c (S.sub e)⟩, I3.bs, Nat.le_trans I.ok.bsz I3.sz, fun b o e hb => ?_, fun b hb z => ?_, I3.stack, I3.stkFree⟩
    · have hy' : y ∈ fr := S.only y hy
      obtain ⟨c, e⟩ := I.ok.has y (S.kinds y hy')
      exact ⟨c, (S.cell hy').trans e⟩
    · rcases (f2 b hb).2.2.2.1 with q | q
      · exact I.ok.noex b o e q
      · exact absurd (Heap.lt_size e) (Nat.not_lt.mpr (Nat.le_trans I.ok.bsz q))
    · rcases List.mem_cons.mp (I3.stkSub b z) with q | q
      · exact (f2 b hb).2.1 q
      · exact (f2 b hb).2.2.1 q
  have I4 : Inv (cM X (xs ++ fr) scope cl g3.objs.size { s2 with heap := g3 } (upd H2 s2.heap.objs.size (.lst [])) fp (X.pn ++ pins)) [] ((xs.map fun _ => none) ++ ks.map fun k => (σ[k]?).join) (upd H2 s2.heap.objs.size (.lst [])) { s2 with heap := h₁, toks := s2.toks + ([] : List (Str × Value)).length } := by
    refine ⟨Ok, rfl, I3.bare, Un.kept keep4, ⟨_, hns₁, fun i y v e1 e2 e3 => ?_⟩, fun y c e => ?_, hCn, fun y c e => I3.freeC y c (S.sub e), fun p hp => ?_, I3.hok.kept keep4, ?_⟩
    · have e1' : (xs ++ fr)[i]? = some y := e1
      by_cases hix : i < xs.length
      · rw [List.getElem?_append_left (by simpa using hix)] at e2
        simp [hix] at e2
      · obtain ⟨i, rfl⟩ : ∃ i', i = xs.length + i' := ⟨i - xs.length, by omega⟩
        rw [List.getElem?_append_right (by omega)] at e1'
        rw [List.getElem?_append_right (by simp)] at e2
        have e1' : fr[i]? = some y := by simpa using e1'
        have e2 : (ks.map fun k => (σ[k]?).join)[i]? = some (some v) := by simpa using e2
        have hy : y ∈ fr := List.mem_of_getElem? e1'
        have ek : (ks.map (fun k => X.N[k]?))[i]? = (fr.map some)[i]? := by rw [hks]
        rw [List.getElem?_map, List.getElem?_map, e1'] at ek
        have e2' := e2
        rw [List.getElem?_map] at e2'
        cases hk : ks[i]? with
        | none => rw [hk] at ek; cases ek
        | some k =>
          rw [hk] at ek e2'
          have ek' : X.N[k]? = some y := by simpa using ek
          have e2'' : (σ[k]?).join = some v := by simpa using e2'
          have es : σ[k]? = some (some v) := by
            cases q : σ[k]? with
            | none => rw [q] at e2''; cases e2''
            | some z => rw [q] at e2''; rw [show z = some v from e2'']
          obtain ⟨m, hn, hl⟩ := I3.loc
          have hkd := S.kinds y hy
          obtain ⟨u, r, lk⟩ := hl k y v ek' es (by rcases hkd with q | q; exact .inr (.inl q); exact .inr (.inr q))
          refine ⟨u, r, .inr ⟨S.kin y hy, ?_⟩⟩
          rcases lk with ⟨q, _⟩ | ⟨_, c, ec, hcell⟩
          · rcases hkd with z | z <;> (rw [q] at z; cases z)
          · obtain ⟨o, ho, hd⟩ := hcell
            exact ⟨c, (S.cell hy).trans ec, o, keep4 _ _ ho, hd⟩
    · obtain ⟨v, o, ho, hd⟩ := I3.cell y c (S.sub e)
      exact ⟨v, o, keep4 _ _ ho, hd⟩
    · have hp' : p ∈ X.pn ++ pins := by simpa [cM] using hp
      obtain ⟨a1, a2, a3, a4, a5⟩ := I3.pin p hp'
      refine ⟨keep4 _ _ a1, a2, Nat.ne_of_lt (Heap.lt_size a1), fun z => ?_, a5⟩
      rcases List.mem_cons.mp (I3.stkSub p.1 z) with q | q
      · exact a3 q
      · exact a4 q
    · show ((xs.map fun _ => none) ++ ks.map _).length = (xs ++ fr).length
      have := congrArg List.length hks
      simp at this
      simp [this]
  have st4 : tn 0 h₁ := T.keep 0 _ _ st2 fun b hb o e => keep4 _ _ (up3 _ _ e)
  have stat : ∀ {H' : Hp}, (∀ b ∈ fp, H' b = none) → ∀ b ∈ fp, oF (cM X (xs ++ fr) scope cl g3.objs.size { s2 with heap := g3 } (upd H2 s2.heap.objs.size (.lst [])) fp (X.pn ++ pins)) [] H' b := fun hn b hb =>
    ⟨hn b hb, fpC b hb, Ok.exfs b hb, .inl hb, fun y c e => (f2 b hb).2.2.2.2.1 y c (S.sub e), fun p hp => (f2 b hb).2.2.2.2.2 p (by simpa [cM] using hp)⟩
  have loop : codeAny (model X.prog X.w) X.A (.compLoop (.ListComp elt [⟨tg, iter, ifs, 0⟩] scope pos) 0 (.ref it) (.ref s2.heap.objs.size) (compEnvC scope cl g3.objs.size X.env))
      (compPost (model X.prog X.w) X.A X.xe use Qp (.ref s2.heap.objs.size) g3.objs.size) { s2 with heap := h₁, toks := s2.toks + ([] : List (Str × Value)).length } := by
    refine oy (fun n s' => ∃ i ys σ' H', Inv (cM X (xs ++ fr) scope cl g3.objs.size { s2 with heap := g3 } (upd H2 s2.heap.objs.size (.lst [])) fp (X.pn ++ pins)) [] σ' H' s' ∧ (∃ zs, zs.length = xs.length ∧ σ' = zs ++ ks.map fun k => (σ[k]?).join) ∧ tn i s'.heap ∧ (∀ b ∈ fp, H' b = none) ∧ W i n ys H') ?_ m0
      ⟨0, [], _, _, I4, ⟨xs.map fun _ => none, by simp, rfl⟩, st4, fpN, w0⟩
    rintro n s' ⟨i, ys, σ', H', I5, ⟨zs, hzs, rfl⟩, st5, fr5, w5⟩
    obtain ⟨hD, hor⟩ := turn i n ys H' w5
    rcases hor with ⟨stop, qn⟩ | ⟨go, step⟩
    · refine wpAny_mono (T.done (cM X (xs ++ fr) scope cl g3.objs.size { s2 with heap := g3 } (upd H2 s2.heap.objs.size (.lst [])) fp (X.pn ++ pins)) rfl rfl rfl hc i [] s' _ H' (fun _ _ => False) I5 (stat fr5) st5 stop) (fun r s6 ⟨hr, I6⟩ => ?_) (fun _ _ f => f.elim)
      subst hr
      obtain ⟨mC, hnC, _⟩ := I6.loc
      have tr : ∀ b o, b ≠ g3.objs.size → s6.heap.get? b = some o → s6.heap.get? b = some o := fun b o hb e => e
      have U := I6.base
      have neC : ∀ b o, g3.get? b = some o → b ≠ g3.objs.size := fun b o e => Nat.ne_of_lt (Heap.lt_size e)
      have U' : Un (frs X.stack) fp (upd H2 s2.heap.objs.size (.lst [])) H' g3 s6.heap := ⟨fun b o q n hb hx => tr b o (neC b o q) (U.keep b o q n hb hx), fun b o q n hb hx => let ⟨sl, e⟩ := U.slot b o q n hb hx; ⟨sl, tr _ _ (neC b o q) e⟩, U.free, fun b o q hx => let ⟨o', e⟩ := U.there b o q hx; ⟨o', tr _ _ (neC b o q) e⟩, U.tups, U.frzs, U.tbls⟩
      have ok' : HOk X.prog X.w H' s6.heap := fun a o e => (I6.hok a o e).stay (fun b u hb q => tr b u (fun z => by
          have fC : H' g3.objs.size = none := I6.free
          rcases hb with r | r
          · rw [← z, r, e] at fC; cases fC
          · rw [← z, r] at fC; cases fC) q) (fun _ q => q) fun _ _ q => q
      have J6 : Inv X pins σ H' s6 := I3.call' (s' := s6) (ch := fp) I6.os U' ok' I6.bare fun b hb => ⟨(f2 b hb).2.2.2.1, (f2 b hb).2.1, (f2 b hb).2.2.2.2.1, (f2 b hb).2.2.2.2.2⟩
      exact hend s2.heap.objs.size g3.objs.size H' s6 mC _ J6 (I3.fpOk (Nat.le_refl _) I6.free) hnC qn
    · refine wpAny_mono (T.item (cM X (xs ++ fr) scope cl g3.objs.size { s2 with heap := g3 } (upd H2 s2.heap.objs.size (.lst [])) fp (X.pn ++ pins)) rfl rfl rfl hc i [] s' _ H' (fun _ _ => False) I5 (stat fr5) st5 go) (fun r s6 ⟨u, hr, h6⟩ => ?_) (fun _ _ f => f.elim)
      subst hr
      refine wpAny_mono h6 (fun _ s7 ⟨xv, H7, I7, r7, y7, st7, fr7⟩ => ?_) (fun _ _ f => f.elim)
      have I7' := I7.pinned (stat fr7) (T.obj _ _ st7)
      have pinsTo : ∀ {σ9 : St} {H9 : Hp} {s9 : Shared}, Inv (cM X (xs ++ fr) scope cl g3.objs.size { s2 with heap := g3 } (upd H2 s2.heap.objs.size (.lst [])) fp (X.pn ++ pins)) ([] ++ km fp s7.heap) σ9 H9 s9 → tn (i + 1) s9.heap ∧ ∀ b ∈ fp, H9 b = none := fun {σ9 H9 s9} I9 =>
        ⟨T.keep _ _ _ st7 fun b hb o e => (I9.pin (b, o) (List.mem_append_right _ (List.mem_append_right _ (fM hb e)))).1, fun b hb => by
          obtain ⟨o, e, d⟩ := T.obj _ _ st7 b hb
          exact (I9.pin (b, o) (List.mem_append_right _ (List.mem_append_right _ (fM hb e)))).2.1⟩
      refine wpAny_mono (hg _ _ _ _ _ _ s7 _ H7 xv u _ I7' r7 (step xv H7 y7 zs hzs)) (fun _ s8 ⟨σ8, H8, I8, ⟨zs4, hz4, e8⟩, q8⟩ => ?_) (fun _ _ f => f.elim)
      subst e8
      refine wpAny_mono (ht _ _ _ _ _ _ s8 _ H8 _ I8 q8) (fun ok s9 ⟨H9, I9, q9⟩ => ?_) (fun _ _ f => f.elim)
      cases ok with
      | false =>
        rw [if_neg Bool.false_ne_true] at q9 ⊢
        obtain ⟨m', hm, w9⟩ := q9
        obtain ⟨t9, f9⟩ := pinsTo I9
        exact ⟨m', hm, i + 1, ys, _, H9, I9.unpinned, ⟨zs4, hz4, rfl⟩, t9, f9, w9⟩
      | true =>
        rw [if_pos rfl] at q9 ⊢
        refine wpAny_mono (he _ _ _ _ _ _ s9 _ H9 _ I9 q9) (fun yv s10 ⟨y, H10, I10, r10, hD10, hlen, m', hm, w10⟩ => ?_) (fun _ _ f => f.elim)
        refine wpAny_mono (fH (X := cM X (xs ++ fr) scope cl g3.objs.size { s2 with heap := g3 } (upd H2 s2.heap.objs.size (.lst [])) fp (X.pn ++ pins)) _ s10 _ H10 (.ref s2.heap.objs.size) [y] (.ref s2.heap.objs.size) [yv]
          (fun _ H' => H' = upd H10 s2.heap.objs.size (.lst (ys ++ [y]))) I10 rfl (.cons r10 .nil) ⟨_, ys, y, rfl, rfl, hD10, hlen, rfl⟩) (fun _ s11 ⟨_, H11, I11, _, e11⟩ => ?_) (fun _ _ f => f.elim)
        subst e11
        obtain ⟨t11, f11⟩ := pinsTo I11
        exact ⟨m', hm, i + 1, ys ++ [y], _, _, I11.unpinned, ⟨zs4, hz4, rfl⟩, t11, f11, w10⟩
  exact codeAny_compStart_list loop (T.self X.A 0 _ _ _ st4 loop)
theorem ft {X : Cx} {elt iter : Expr} {x : Str} {xs : List Str} {tg : Expr} {g : TG} {pos : Pos} {ifs : List Expr} {scope : Scope} {cl : List (Str × Addr)} {fr : List Str} {ks : List Nat} {wi : TI} {tt : TT} {te : TE} (hc : X.calm = true) (S : CompScope X scope cl x fr)
    (hks : ks.map (fun k => X.N[k]?) = fr.map some) (hi : PI X tg iter wi) (hg : ∀ C s₂ H₂ ex pn, PG (cM X (xs ++ fr) scope cl C s₂ H₂ ex pn) tg g)
    (ht : ∀ C s₂ H₂ ex pn, PTs (cM X (xs ++ fr) scope cl C s₂ H₂ ex pn) ifs tt) (he : ∀ C s₂ H₂ ex pn, PE (cM X (xs ++ fr) scope cl C s₂ H₂ ex pn) elt te)
    (hs : ∀ x, foldedSetIterable iter X.env x = pure x := by intro _; rfl) : PE X (.ListComp elt [⟨tg, iter, ifs, 0⟩] scope pos) (dS wi xs.length g ks tt te) := by
  intro pins s σ H Q I h
  rw [eval_ListComp]
  refine mR hc S hks hi hg ht he hs I h none _ fun D C H' s' mC f J fp hn q => ⟨mC, hn, fun h' sb => ?_⟩
  obtain ⟨f0, f1, f2, f3, f4, f5⟩ := fp
  exact ⟨.ref D, H', J.turned (t' := s'.toks) (fun b o hb e => (sb.2 b hb).trans e) f0 f1 f3 f4 f5, rfl, q⟩
theorem iX {i0 : Nat} {x0 : Str} {px0 pos0 : Pos} {X : Cx} {elt iter : Expr} {x : Str} {xs : List Str} {tg : Expr} {g : TG} {pos : Pos} {ifs : List Expr} {scope : Scope} {cl : List (Str × Addr)} {fr : List Str} {ks : List Nat} {wi : TI} {tt : TT} {te : TE} (hN : X.N.Nodup) (hi0 : X.N[i0]? = some x0) (hx0 : Loc X.env.scope x0) (hc : X.calm = true) (S : CompScope X scope cl x fr)
    (hks : ks.map (fun k => X.N[k]?) = fr.map some) (hi : PI X tg iter wi) (hg : ∀ C s₂ H₂ ex pn, PG (cM X (xs ++ fr) scope cl C s₂ H₂ ex pn) tg g)
    (ht : ∀ C s₂ H₂ ex pn, PTs (cM X (xs ++ fr) scope cl C s₂ H₂ ex pn) ifs tt) (he : ∀ C s₂ H₂ ex pn, PE (cM X (xs ++ fr) scope cl C s₂ H₂ ex pn) elt te)
    (hs : ∀ x, foldedSetIterable iter X.env x = pure x := by intro _; rfl)
    (hsw : swapsWith (.ListComp elt [⟨tg, iter, ifs, 0⟩] scope pos) (some (.Name x0 px0)) pos0.line X.env = pure true := by rfl) (hf : X.fn x0 = true ∨ X.env.scope.names.lookup x0 = some .local := by first | exact .inl rfl | exact .inr rfl | assumption) :
    PS X (.Assign [.Name x0 px0] (.ListComp elt [⟨tg, iter, ifs, 0⟩] scope pos) pos0) (u6 (dS wi xs.length g ks tt te) (hR i0)) := by
  intro pins s σ H D I h
  rw [exec_Assign_Name_used _ _ _ _ hsw]
  refine wpAny_bind (wpAny_standAt (wpAny_bind (wpAny_bind ?_)))
  refine mR hc S hks hi hg ht he hs I h (some (assign (.Name x0 px0) X.env)) _ fun D' C H' s' mC f J fp hn q => ?_
  obtain ⟨f0, f1, f2, f3, f4, f5⟩ := fp
  refine wpAny_assign_Name (ms J hN hi0 hx0 (v := .ref D') rfl (fun s7 I7 ⟨a, sb, ha⟩ => ?_) hf)
  have hCa : C ≠ a := by
    rcases ha with e | e
    · rw [e]; exact f1
    · exact fun z => f4 _ _ e z.symm
  refine ⟨mC, hn.sameBut sb hCa, fun h' sb2 => ?_⟩
  have J2 := I7.turned (t' := s7.toks) (fun b o hb e => (sb2.2 b hb).trans e) f0 f1 f3 f4 f5
  exact wpAny_pure (wpAny_pure ⟨_, H', J2, q⟩)
end L2
set_option Elab.async false
set_option linter.all false
set_option maxRecDepth 100000
namespace L2
open PySem PySem.Spec PyProof.Rows Builtin Builtin.Str
section
variable {prog : Program} {w : World} {A : Around} {E : Value → Shared → Prop} {s : Shared} {t : Addr}
end
section
variable {X : Cx} {e a b c : Expr} {pos : Pos}
def A9 (K : PySem.W.Frag) : List V → Hp → VK → Prop
  | [.ref p], H, Q => ∃ ns : List Int, (SqL K H p (ns.map V.int) ∨ SqT K H p (ns.map V.int)) ∧ Q (.int ns.sum) H
  | _, _, _ => False
def vD : R2
  | .str x, .int n, H, Q => ((cs x).length ≤ 1000 ∧ 0 ≤ n ∧ n ≤ 100) ∧ Q (T ((List.replicate n.toNat (cs x)).flatten)) H
  | _, _, _, _ => False
theorem r9 : OpR X (binaryOp .Mult) vD := by
  intro pins s σ H x y v u Q I rx ry h
  unfold vD at h
  split at h
  · rename_i x n
    obtain ⟨⟨h1, h2, h3⟩, q⟩ := h
    obtain ⟨t, rfl⟩ := rx
    obtain ⟨t', rfl⟩ := ry
    have hl : x.length ≤ 1000 := by simpa [cs, Str.length] using h1
    refine PySem.SB.mul ⟨?_, fun hn _ => ?_, fun hn _ => ?_⟩ fun t2 k => ⟨.str (Txt.mul x n), H, I.tok _, ⟨_, rfl⟩, by rw [yF]; exact q⟩
    · rw [decide_eq_false (by omega), decide_eq_false (by omega)]; rfl
    · have h5 : (1000 : Int) ≤ (2 ^ 63 - 1) / n := by
        rw [Int.le_ediv_iff_mul_le (by omega)]; omega
      omega
    · have h4 : x.length * n.toNat ≤ 1000 * 100 := Nat.mul_le_mul hl (show n.toNat ≤ 100 by omega)
      unfold tooLong
      exact decide_eq_false (by rw [sizeLine_eq]; omega)
  · exact h.elim
section
variable {T name id : String} {r : V → List V → Hp → VK → Prop} {o : Expr} {to : TE} {apos cpos : Pos}
end
end
end L2
namespace L2
theorem hE {l : List PySem.Str} (h : l.Nodup) : l.Nodup := h
end L2
namespace L2
def sp5 (f : V → V → V → V → V → Hp → VK → XK → Prop) : Sp := fun vs H Q E => match vs with
  | [x, y, z, u, v] => f x y z u v H Q E
  | _ => False
theorem sp5.inv {vs : List V} {H : Hp} {Q : VK} {E : XK} {f} (h : sp5 f vs H Q E) : ∃ x y z u v, vs = [x, y, z, u, v] ∧ f x y z u v H Q E := by
  unfold sp5 at h; split at h
  · exact ⟨_, _, _, _, _, rfl, h⟩
  · exact h.elim
theorem sp5.len {vs : List V} {H : Hp} {Q : VK} {E : XK} {f} (h : sp5 f vs H Q E) : vs.length = 5 := by obtain ⟨_, _, _, _, _, rfl, _⟩ := sp5.inv h; rfl
theorem uw {n : PySem.Str} {v : V} {l : List (PySem.Str × V)} : List.lookup n ((n, v) :: l) = some v := by simp [List.lookup]
theorem da {n m : PySem.Str} {v : V} {l : List (PySem.Str × V)} (h : (n == m) = false) : List.lookup n ((m, v) :: l) = List.lookup n l := by simp [List.lookup, h]
end L2
set_option Elab.async false
set_option linter.all false
set_option maxRecDepth 100000
set_option maxHeartbeats 1000000
namespace L2
open PySem PySem.Spec PyProof.Rows
structure RoomC (k : Nat) (A : Around) : Prop where
  dp : A.depth + 3 * k + 5 < recursionLimit
  un : A.units + 16 * k + 200 < cLine
theorem RoomC.deeper {k : Nat} {A : Around} (r : RoomC (k + 1) A) (env : Env) : RoomC k (A.deeper env) :=
  ⟨by have := r.dp; show A.depth + 1 + 3 * k + 5 < _; omega, by have := r.un; show A.units + 3 + 16 * k + 200 < _; omega⟩
theorem Room.toC {j k : Nat} {A : Around} {v : Option Value} (r : Room k A) (h : j ≤ k) : RoomC j (A.mark v) := ⟨by have := r.dp; show A.depth + 3 * j + 5 < _; omega, by have := r.un; show A.units + 16 * j + 200 < _; omega⟩
structure sg (P : Program) (w : World) (K : PySem.W.Frag) (mg : Str → Option Value) (base : Heap) (CX : CXT) (k : Nat) (f : Addr) (fd : FuncData) (ps : List Str) (sp : Sp) : Prop where
  len : ∀ vs H Q E, sp vs H Q E → vs.length = ps.length
  run : ∀ (A : Around) (outer : List Env) (s : Shared) (H : Hp) (args : Args) (us : List Value) (vs : List V) (Q : VK) (E : XK), RoomC k A → Env0 P w K mg base A outer s H → BindsTo s fd args (ps.zip us) → Vals vs us → sp vs H Q E →
    codeAny (model P w) A (.call (.ref f) args) (CR CX outer P w H s Q E) s
abbrev o7 (CX : CXT) (P : Program) (w : World) (K : PySem.W.Frag) (mg : Str → Option Value) (base : Heap) (N : List Str) (qual : Str) (scope : Scope) (f : Addr) (cd : Value) (A : Around) (outer : List Env) (s : Shared) (H : Hp) (E : XK) : Cx :=
  { bZ CX P w K mg base N qual scope f cd A outer s H E with calm := false }
theorem zh {CX : CXT} {P : Program} {w : World} {K : PySem.W.Frag} {mg : Str → Option Value} {base : Heap} {k : Nat} {f : Addr} {name qual : Str} {params : Arguments} {body : List Stmt} {scope : Scope} {dV kV doc pm cdv ct oc : Value} {an od : Option Addr}
    {osl : Array (Option Value)} {N ps : List Str} {sp : Sp} (lk : K.lookup f = some ⟨oc, od, .func (PySem.W.fnOf name qual params body scope dV kV doc pm an cdv ct), osl⟩) (hcd : PySem.W.codeIn K cdv qual = true) (S : aF N ps scope)
    (len : ∀ vs H Q E, sp vs H Q E → vs.length = ps.length)
    (hbody : ∀ (A : Around) (outer : List Env) (s : Shared) (H : Hp) (vs : List V) (Q : VK) (E : XK), RoomC k (A.deeper (envOfC qual scope s.heap.objs.size f cdv)) → sp vs H Q E →
      ∃ t, PSs (o7 CX P w K mg base N qual scope f cdv A outer s H E) body t ∧ t { nx := fun _ H' => Q .non H', rt := Q } (d8 N vs) H) :
    sg P w K mg base CX (k + 1) f (PySem.W.fnOf name qual params body scope dV kV doc pm an cdv ct) ps sp := by
  refine ⟨len, fun A outer s H args us vs Q E hr e0 hb r hsp => ?_⟩
  have hl := len _ _ _ _ hsp
  have KX : K.In s.heap := e0.mod.kin.keeps fun b o e => (e0.bs b o e).1
  have lim : s.heap.NoLimit := e0.mod.nolimit.keeps fun b o e => (e0.bs b o e).1
  have hkind : ∀ y ∈ ps.zip us, scope.names.lookup y.1 = some .local ∨ (scope.names.lookup y.1 = some .cell ∧ ((cellsFrom (s.heap.objs.size + 1) scope.names []).lookup y.1).isSome = true) := fun ⟨n, v⟩ hy => by
    rcases S.par n (List.of_mem_zip hy).1 with q | q
    · exact .inl q
    · exact .inr ⟨q, PySem.W.cellsFrom_some _ _ _ (.inl q)⟩
  refine codeAny_call_function (by have := hr.dp; omega) (KX _ _ lk) rfl S.co S.gen rfl (PySem.W.codeRec_of KX hcd) (hb _ _ _ _ ?_)
  refine wpAny_newFunctionEnv_cells S.kind hkind fun env he s1 x => ?_
  subst he
  refine ⟨lim.keeps x.toInCall.keep, codeAny_func ?_⟩
  obtain ⟨t, ht, hq⟩ := hbody A outer s H vs Q E (hr.deeper _) hsp
  have e1 : Env0 P w K mg base { A with handled := none } outer s H := ⟨e0.frames, e0.mod, e0.bs, e0.bsz, e0.funs, e0.frf, e0.hok, e0.bare⟩
  have I0 : Inv (bZ CX P w K mg base N qual scope f cdv { A with handled := none } outer s H E) [] (d8 N vs) H s1 := mj S rfl e1 hl r x
  have I : Inv (o7 CX P w K mg base N qual scope f cdv A outer s H E) [] (d8 N vs) H s1 :=
    ⟨I0.ok.re (A.deeper (envOfC qual scope s.heap.objs.size f cdv)) rfl false (fun z => nomatch z) _ _, I0.os, I0.bare, I0.base, I0.loc, I0.cell, I0.free, I0.freeC, I0.pin, I0.hok, I0.len⟩
  refine wpAny_mono (ht [] s1 (d8 N vs) H _ I hq) (fun fl s' hs => ?_) fun e s' hs => hs
  have fin : ∀ {σ' : St} {H' : Hp} {v : V} {u : Value}, Inv (o7 CX P w K mg base N qual scope f cdv A outer s H E) [] σ' H' s' → RelV v u → Q v H' → CE outer P w H s Q u s' :=
    fun {σ' H' v u} J rv q => ⟨v, H', J.os, J.bare, J.base, J.hok, rv, q⟩
  cases fl with
  | ret u =>
    obtain ⟨v, σ', H', J, rv, q⟩ := hs
    exact fin J rv q
  | next =>
    obtain ⟨σ', H', J, q⟩ := hs
    exact fin (v := V.non) (u := Value.none) J rfl q
  | brk =>
    obtain ⟨_, _, _, q⟩ := hs
    exact False.elim q
  | cont =>
    obtain ⟨_, _, _, q⟩ := hs
    exact False.elim q
theorem Fun.okC {P : Program} {w : World} {K : PySem.W.Frag} {mg : Str → Option Value} {base : Heap} {x qual : Str} {st : Stmt} {f : Addr} {fd : FuncData} {N ps : List Str} {k : Nat} {sp : Sp} (F : Fun K x qual st f fd) (S : aF N ps (ad st)) (len : ∀ vs H Q E, sp vs H Q E → vs.length = ps.length)
    (hbody : ∀ (cdv : Value) (A : Around) (outer : List Env) (s : Shared) (H : Hp) (vs : List V) (Q : VK) (E : XK), RoomC k (A.deeper (envOfC qual (ad st) s.heap.objs.size f cdv)) → sp vs H Q E →
      ∃ t, PSs (o7 (XE P w) P w K mg base N qual (ad st) f cdv A outer s H E) (aw st) t ∧ t { nx := fun _ H' => Q .non H', rt := Q } (d8 N vs) H) : sg P w K mg base (XE P w) (k + 1) f fd ps sp := by
  obtain ⟨oc, od, kV, doc, pm, an, cdv, ct, osl, rfl, lk, hcd⟩ := F.ex
  exact zh lk hcd S len fun A outer s H vs Q E hr hsp => hbody cdv A outer s H vs Q E hr hsp
section
variable {X : Cx} {CX : CXT} {k : Nat} {f : Addr} {fd : FuncData} {ps : List Str} {sp : Sp} {dvs : List V} {ds : List Value} {E : XKs} {x : Str} {p pos : Pos} {e : Expr} {es : List Expr} {t : TA}
theorem vc (F : sg X.prog X.w X.K X.mg X.base CX k f fd ps sp) (hr : RoomC k X.A) (hg : Gl X x) (hm : X.mg x = some (.ref f)) (hk : PySem.W.keepIn X.K (.ref f) = true) (hb : Binds X.K fd ps ds) (hd : Vals dvs ds) (hx : dE CX X E)
    (ha : PA X (e :: es) t) (hdb : (x == ("__debug__" : Str)) = false := by decide) (he : starEach (e :: es) X.env = (false, eval e X.env) :: starEach es X.env := by rfl) (hpl : (backTo pos (starEach es X.env)).any (·.1) = false := by rfl) :
    PE X (.Call (.Name x p) (e :: es) [] pos) (qf sp dvs E t) := by
  intro pins s σ H Q I h
  refine wpAny_Call_Name_kw (gL I hg hm ?_ hdb)
  refine PySem.W.callWith_K (h₀ := X.base) I.ok.mod.kin hk (thn (ha pos pins s σ H _ I h) fun us s1 ⟨vs, H1, I1, r, h⟩ => ⟨I1.kIn, ?_⟩) he hpl
  have r2 : Vals (vs ++ dvs) (us ++ ds) := r.append hd
  have hl : (us ++ ds).length = ps.length := by rw [← r2.length]; exact F.len _ _ _ _ h
  refine wpAny_call (codeAny_mono (F.run X.A X.stack s1 H1 ⟨us, []⟩ (us ++ ds) (vs ++ dvs) Q (E σ) hr I1.env0 (hb s1 us I1.kIn hl) r2 h) fun r s' hq => ?_)
  cases r with
  | error e => exact hx pins σ H1 s1 e s' I1 hq
  | ok fl =>
    cases fl with
    | ret u => exact I1.after hq
    | next => exact False.elim hq
    | brk => exact False.elim hq
    | cont => exact False.elim hq
end
end L2
set_option Elab.async false
set_option linter.all false
set_option maxRecDepth 100000
set_option maxHeartbeats 1000000
namespace L2
open PySem PySem.Spec PyProof.Rows
def qM (lo d : Int) (n : Nat) : It := ⟨fun i _ => i < n, fun i H x H' => H' = H ∧ x = .int (lo + i * d), fun i _ => n ≤ i⟩
theorem o8 {P : Program} {w : World} {K : PySem.W.Frag} {tg : Expr} (it : Addr) (lo d : Int) (n : Nat) : ph P w K tg (qM lo d n) [it] it (fun i h => IsRangeIter h it (lo + (i : Nat) * d) ((n : Int) - (i : Nat)) d) where
  mem := by simp
  obj := fun i h st b hb => by
    have e : b = it := by simpa using hb
    subst e
    exact ⟨_, st, fun v z => by
      have z' : Data.fields _ = Data.cell v := z
      cases z'⟩
  keep := fun i h h' st k => k it (by simp) _ st
  item := by
    intro X hP hw hK hc i pins s σ H E I hf st hg
    subst hP hw hK
    obtain ⟨f0, f1, f2, f3, f4, f5⟩ := hf it (by simp)
    have W := Walks.range (prog := X.prog) (w := X.w) (I.ok.hd hc) it lo d n
    refine W.item i s _ _ hg st fun v h' tk hv st' kk => ?_
    obtain ⟨t, rfl⟩ := hv
    have I1 : Inv X pins σ H { s with heap := h', toks := tk } := I.turned (fun b o hb e => kk b o (by simpa using hb) e) f0 f1 f3 f4 f5
    exact ⟨_, rfl, jx (s := { s with heap := h', toks := tk }) (n := "range_iterator") st' rfl rfl (by decide) ⟨.int (lo + i * d), H, I1, ⟨t, rfl⟩, ⟨rfl, rfl⟩, st', fun b hb => (hf b hb).1⟩⟩
  done := by
    intro X hP hw hK hc i pins s σ H E I hf st hg
    subst hP hw hK
    obtain ⟨f0, f1, f2, f3, f4, f5⟩ := hf it (by simp)
    exact wpAny_pyNext_range_end (I.ok.hd hc) st (by have : n ≤ i := hg; omega) fun h' eb => ⟨rfl, I.turned (t' := s.toks) (fun b o hb e => eb b o hb e) f0 f1 f3 f4 f5⟩
  self := fun _ _ _ _ _ st h => wpAny_pyIter_rangeiter st h
section
variable {X : Cx} {tg : Expr}
def rsz (i j c : Int) : Nat := if i < j then ((j - i - 1) / c + 1).toNat else 0
theorem qW {lo c : Int} {n : Nat} {g : TG} {tb : TS} {D : dU} {σ : St} {H : Hp} (Pv : Nat → St → Hp → Prop) (h0 : Pv 0 σ H)
    (hs : ∀ i σ H, i < n → Pv i σ H → g (.int (lo + i * c)) σ H fun σ2 H2 => tb { D with nx := Pv (i + 1), ct := Pv (i + 1), bk := D.nx } σ2 H2) (hd : ∀ σ H, Pv n σ H → D.nx σ H) :
    ∃ W : Nat → Nat → St → Hp → Prop, (∃ m, W 0 m σ H) ∧ ∀ i m σ H, W i m σ H →
      ((qM lo c n).stop i H ∧ D.nx σ H) ∨ ((qM lo c n).go i H ∧ ∃ N : St → Hp → Prop, (∀ σ' H', N σ' H' → ∃ m', m' < m ∧ W (i + 1) m' σ' H') ∧ ∀ x H', (qM lo c n).yld i H x H' → g x σ H' fun σ2 H2 => tb { D with nx := N, ct := N, bk := D.nx } σ2 H2) := by
  refine ⟨fun i m σ H => m = n - i ∧ i ≤ n ∧ Pv i σ H, ⟨n, by simp, Nat.zero_le _, h0⟩, ?_⟩
  rintro i m σ H ⟨rfl, hi, p⟩
  by_cases hlt : i < n
  · refine .inr ⟨hlt, Pv (i + 1), fun σ' H' p' => ⟨n - (i + 1), by omega, rfl, hlt, p'⟩, fun x H' y => ?_⟩
    obtain ⟨e, y⟩ := y
    subst e y
    exact hs i σ _ hlt p
  · have e : i = n := by omega
    subst e
    exact .inl ⟨Nat.le_refl _, hd σ H p⟩
end
end L2
namespace L2
theorem ex1 {α : Type} {us : List α} (hl : us.length = 1) : ∃ a0, us = [a0] := by
  match us, hl with
  | [a0], _ => exact ⟨a0, rfl⟩
theorem ex2 {α : Type} {us : List α} (hl : us.length = 2) : ∃ a0 a1, us = [a0, a1] := by
  match us, hl with
  | [a0, a1], _ => exact ⟨a0, a1, rfl⟩
theorem ex3 {α : Type} {us : List α} (hl : us.length = 3) : ∃ a0 a1 a2, us = [a0, a1, a2] := by
  match us, hl with
  | [a0, a1, a2], _ => exact ⟨a0, a1, a2, rfl⟩
theorem ex4 {α : Type} {us : List α} (hl : us.length = 4) : ∃ a0 a1 a2 a3, us = [a0, a1, a2, a3] := by
  match us, hl with
  | [a0, a1, a2, a3], _ => exact ⟨a0, a1, a2, a3, rfl⟩
theorem ex5 {α : Type} {us : List α} (hl : us.length = 5) : ∃ a0 a1 a2 a3 a4, us = [a0, a1, a2, a3, a4] := by
  match us, hl with
  | [a0, a1, a2, a3, a4], _ => exact ⟨a0, a1, a2, a3, a4, rfl⟩
theorem ex6 {α : Type} {us : List α} (hl : us.length = 6) : ∃ a0 a1 a2 a3 a4 a5, us = [a0, a1, a2, a3, a4, a5] := by
  match us, hl with
  | [a0, a1, a2, a3, a4, a5], _ => exact ⟨a0, a1, a2, a3, a4, a5, rfl⟩
end L2
set_option Elab.async false
set_option linter.all false
namespace L2
open Lean Meta Simp
def yN : List Name := [`L2.zp, `L2.tC, `L2.tOp, `L2.tUn, `L2.gEqN, `L2.rR, `L2.vf, `L2.At, `L2.fOr, `L2.zU, `L2.fPickL, `L2.fPickT, `L2.Ai, `L2.Ac, `L2.An, `L2.tRetN, `L2.xY, `L2.xA, `L2.u6, `L2.hR, `L2.tIf, `L2.AS, `L2.tOr, `L2.zV, `L2.vQ, `L2.tZ, `L2.tCB, `L2.qf, `L2.AN, `L2.AL, `L2.Aj, `L2.xJ, `L2.tIsB, `L2.xF, `L2.si, `L2.tSl, `L2.cs, `L2.zB, `L2.CMul, `L2.zv, `L2.uP, `L2.z_, `L2.gcE, `L2.tGcT, `L2.tGc, `L2.tBM, `L2.xR, `L2.fJoinRev, `L2.CDivB, `L2.rG, `L2.yR, `L2.xP, `L2.Ax, `L2.zW, `L2.xS, `L2.xZ, `L2.x_, `L2.qD, `L2.vh, `L2.tDGet1, `L2.uD, `L2.xM, `L2.tBM0, `L2.rClear]
def yf : List Name := [`L2.yJ, `L2.gI, `L2.gIC, `L2.yp, `L2.gLe, `L2.gLt, `L2.eqS, `L2.kB, `L2.yM, `L2.zc, `L2.zt, `L2.v4, `L2.we, `L2.gInt, `L2.gIx, `L2.sp0, `L2.sp1, `L2.sp2, `L2.sp3, `L2.sp4, `L2.asI, `L2.asT, `L2.asB, `L2.asR, `L2.tyV, `L2.gSt, `L2.gEn, `L2.gZf, `L2.gStr, `L2.v0, `L2.gIn, `L2.gSl, `L2.A7, `L2.gMulS, `L2.yz, `L2.gRep, `L2.gRepT, `L2.gIsiT, `L2.uU, `L2.gTuple, `L2.A5, `L2.gStM, `L2.yw, `L2.vS, `L2.rP, `L2.A9, `L2.vD]
def rdI := And.intro @L2.wJ (And.intro @L2.A6 (And.intro @L2.V.bl.injEq (And.intro @L2.V.str.injEq (And.intro @L2.tM (And.intro @L2.Ah (And.intro @L2.ye (And.intro @L2.zJ (And.intro @L2.yi (And.intro @L2.y8 (And.intro @L2.jH (And.intro @L2.pF (And.intro @L2.qp (And.intro @L2.qG (And.intro @L2.pb (And.intro @L2.nR (And.intro @L2.pZ (And.intro @L2.xq (And.intro @L2.jo (And.intro @L2.nU (And.intro @L2.oP (And.intro @L2.pY (And.intro @L2.oB (And.intro @L2.lT (And.intro @L2.nv (And.intro @L2.yj (And.intro @L2.jI (And.intro @L2.pD (And.intro @L2.qP (And.intro @L2.qR (And.intro @L2.pW (And.intro @L2.nL (And.intro @L2.oX (And.intro @L2.wO (And.intro @L2.jb (And.intro @L2.nE (And.intro @L2.pQ (And.intro @L2.pz (And.intro @L2.oM (And.intro @L2.lJ (And.intro @L2.m9 (And.intro @L2.uH (And.intro @L2.iO (And.intro @L2.lV (And.intro @L2.oJ (And.intro @L2.nN (And.intro @L2.lG (And.intro @L2.kQ (And.intro @L2.lF (And.intro @L2.wR (And.intro @L2.jr (And.intro @L2.oC (And.intro @L2.pA (And.intro @L2.oU (And.intro @L2.oh (And.intro @L2.lP (And.intro @L2.m_ (And.intro @L2.AR (And.intro @L2.zC (And.intro @L2.zd (And.intro @L2.zq (And.intro @L2.wg (And.intro @L2.yB (And.intro @L2.xc (And.intro @L2.wG (And.intro @L2.xl (And.intro @L2.w8 (And.intro @L2.zy (And.intro @L2.wv (And.intro @L2.wV (And.intro @L2.wu (And.intro @true_and (And.intro @and_true (And.intro @and_self (And.intro @true_or (And.intro @or_true (And.intro @decide_eq_true_eq (And.intro @Bool.true_eq_false (And.intro @Bool.false_xor (And.intro @Bool.true_xor (And.intro @Bool.not_true (And.intro @Bool.not_false (And.intro @Bool.false_eq_true (And.intro @Bool.not_eq_true' (And.intro @decide_eq_false_iff_not @Classical.not_not))))))))))))))))))))))))))))))))))))))))))))))))))))))))))))))))))))))))))))))))))))
end L2
set_option Elab.async false
set_option linter.all false
set_option maxRecDepth 100000
namespace L2
namespace Srt
open PySem PyProof.Rows
def kv (κ : Keyed → Int) (xs : Array Keyed) (i : Nat) : Int := (xs[i]?.map κ).getD 0
def Up (κ : Keyed → Int) (xs : Array Keyed) (k : Nat) : Prop := ∀ i j, i ≤ j → j < k → kv κ xs i ≤ kv κ xs j
def Dn (κ : Keyed → Int) (xs : Array Keyed) (k : Nat) : Prop := ∀ i j, i ≤ j → j < k → kv κ xs j ≤ kv κ xs i
structure SB (kd : SortKind) (z : Array Keyed) (t : SortSt) : Prop where
  pm : (arrOf t).Perm z
  kn : kindOf t = kd
  fl : failedOf t = none
  pn : pendingOf t = #[]
theorem SB.sz {kd : SortKind} {z : Array Keyed} {t : SortSt} (b : SB kd z t) : (arrOf t).size = z.size := b.pm.size_eq
theorem SB.put {kd : SortKind} {z : Array Keyed} {t : SortSt} {xs : Array Keyed} (b : SB kd z t) (p : xs.Perm (arrOf t)) : SB kd z (setArr t xs) :=
  ⟨p.trans b.pm, b.kn, b.fl, b.pn⟩
theorem mY {κ : Keyed → Int} {xs : Array Keyed} {i : Nat} (h : i < xs.size) : kv κ xs i = κ xs[i] := by
  unfold kv; rw [Array.getElem?_eq_getElem h]; rfl
theorem rQ {κ : Keyed → Int} {xs ys : Array Keyed} {i j : Nat} (h : xs[i]? = ys[j]?) : kv κ xs i = kv κ ys j := by unfold kv; rw [h]
theorem uB {κ : Keyed → Int} {xs : Array Keyed} {u d : Nat} (hs : u < xs.size) (hd : d ≤ u) (k : Nat) :
    kv κ (bubble xs u d) k = if k = u - d then kv κ xs u else if u - d < k ∧ k ≤ u then kv κ xs (k - 1) else kv κ xs k := by
  have e := getElem?_bubble hs d hd k
  by_cases h1 : k = u - d
  · rw [if_pos h1] at e ⊢
    exact rQ e
  · rw [if_neg h1] at e ⊢
    by_cases h2 : u - d < k ∧ k ≤ u
    · rw [if_pos h2] at e ⊢
      exact rQ e
    · rw [if_neg h2] at e ⊢
      exact rQ e
theorem vB {κ : Keyed → Int} {xs : Array Keyed} {n : Nat} (hj : n ≤ xs.size) {k : Nat} (hk : k < n) :
    kv κ (mirror xs 0 n ((n - 0) / 2)) k = kv κ xs (n - 1 - k) := by
  have e := getElem?_mirror_all (i := 0) hj k
  rw [if_pos ⟨Nat.zero_le _, hk⟩, Nat.zero_add] at e
  exact rQ e
section
variable {prog : Program} {w : World} {A : Around} {E : Value → Shared → Prop} {s : Shared} {z : Array Keyed} {κ : Keyed → Int} {kd : SortKind} {t : SortSt}
def Lts (prog : Program) (w : World) (A : Around) (s : Shared) (kd : SortKind) (κ : Keyed → Int) (z : Array Keyed) : Prop :=
  ∀ (E : Value → Shared → Prop) (p q : Keyed) (Q : Bool → Shared → Prop), p ∈ z.toList → q ∈ z.toList → Q (decide (κ p < κ q)) s → wpAny (model prog w) A (keyLt' kd p.1 q.1) Q E s
theorem SB.mem (b : SB kd z t) {i : Nat} (h : i < (arrOf t).size) : (arrOf t)[i] ∈ z.toList :=
  (Array.perm_iff_toList_perm.mp b.pm).mem_iff.mp (by simp)
theorem pw {i j : Nat} {Q : Option Bool → SortSt → Prop} (L : Lts prog w A s kd κ z) (b : SB kd z t) (hi : i < z.size) (hj : j < z.size)
    (h : Q (some (decide (kv κ (arrOf t) i < kv κ (arrOf t) j))) t) : wpS (model prog w) A E s (ltAt' i j) Q t := by
  have i' : i < (arrOf t).size := b.sz ▸ hi
  have j' : j < (arrOf t).size := b.sz ▸ hj
  rw [mY i', mY j'] at h
  rw [ltAt'_eq]
  refine wpS_bind (wpS_get ?_)
  show wpS (model prog w) A E s (elem' (arrOf t) i >>= fun p => elem' (arrOf t) j >>= fun q => lt' p q) Q t
  rw [elem'_eq, elem'_eq, Array.getElem?_eq_getElem i', Array.getElem?_eq_getElem j']
  refine wpS_bind (wpS_pure (wpS_bind (wpS_pure ?_)))
  rw [lt'_eq]
  refine wpS_bind (wpS_get ?_)
  rw [b.kn]
  exact wpS_bind (wpS_lift (wpAny_attempt (L _ _ _ _ (b.mem i') (b.mem j') ⟨rfl, wpS_pure h⟩)))
def dB (κ : Keyed → Int) (z : Array Keyed) : Prop := (z.toList.map κ).Nodup
theorem apart (b : SB kd z t) (D : dB κ z) {i j : Nat} (hj : j < z.size) (h : i < j) : kv κ (arrOf t) i ≠ kv κ (arrOf t) j := by
  have j' : j < (arrOf t).size := b.sz ▸ hj
  have i' : i < (arrOf t).size := Nat.lt_trans h j'
  have d : ((arrOf t).toList.map κ).Nodup := ((Array.perm_iff_toList_perm.mp b.pm).map κ).nodup_iff.mpr D
  rw [mY i', mY j']
  intro e
  have := List.pairwise_iff_getElem.mp d i j (by simpa using i') (by simpa using j') h
  simp at this
  exact this e
theorem wP {xs : Array Keyed} {n : Nat} (u : Up κ xs n) (h : n = 0 ∨ kv κ xs (n - 1) ≤ kv κ xs n) : Up κ xs (n + 1) := by
  intro i j a c
  by_cases e : j < n
  · exact u i j a e
  · have : j = n := by omega
    subst this
    by_cases e2 : i = j
    · subst e2; exact Int.le_refl _
    · exact Int.le_trans (u i (j - 1) (by omega) (by omega)) (h.resolve_left (by omega))
theorem r_ {xs : Array Keyed} {n : Nat} (u : Dn κ xs n) (h : n = 0 ∨ kv κ xs n ≤ kv κ xs (n - 1)) : Dn κ xs (n + 1) := by
  intro i j a c
  by_cases e : j < n
  · exact u i j a e
  · have : j = n := by omega
    subst this
    by_cases e2 : i = j
    · subst e2; exact Int.le_refl _
    · exact Int.le_trans (h.resolve_left (by omega)) (u i (j - 1) (by omega) (by omega))
theorem asc {a r : Nat} {Q : AscSt → SortSt → Prop} (L : Lts prog w A s kd κ z) (hr : r ≤ z.size) (ha : 1 ≤ a) (har : a ≤ r) (b : SB kd z t) (u : Up κ (arrOf t) a)
    (h : ∀ n, a ≤ n → n ≤ r → Up κ (arrOf t) n → (n = r ∨ kv κ (arrOf t) n < kv κ (arrOf t) (n - 1)) → Q (none, n) t) : wpS (model prog w) A E s (ascLoop a r) Q t := by
  unfold ascLoop
  refine wpS_forRange (fun x c t' => t' = t ∧ c = (none, x) ∧ Up κ (arrOf t) x) ?_ ?_ ⟨rfl, rfl, u⟩
  · rintro x c t' x1 x2 ⟨rfl, rfl, u'⟩
    refine wpS_bind (pw L b (by omega) (by omega) ?_)
    by_cases l : kv κ (arrOf t') x < kv κ (arrOf t') (x - 1)
    · simp only [decide_eq_true l, if_true]
      exact wpS_pure (h x x1 (by omega) u' (.inr l))
    · simp only [decide_eq_false l, Bool.false_eq_true, if_false]
      exact wpS_pure ⟨rfl, rfl, wP u' (.inr (by omega))⟩
  · rintro c t' ⟨rfl, rfl, u'⟩
    rw [Nat.max_eq_right har] at u' ⊢
    exact h r har (Nat.le_refl _) u' (.inl rfl)
theorem t3 {n r : Nat} {Q : Option Nat → SortSt → Prop} (L : Lts prog w A s kd κ z) (hr : r ≤ z.size) (h1 : 1 ≤ n) (hn : n ≤ r) (b : SB kd z t) (u : Dn κ (arrOf t) n)
    (h : ∀ m t', SB kd z t' → 1 ≤ m → m ≤ r → Up κ (arrOf t') m → Q (some m) t') : wpS (model prog w) A E s (tail3 n r) Q t := by
  unfold tail3
  refine wpS_bind (wpS_reverse ?_)
  have b' := b.put (mirror_perm (arrOf t) 0 n ((n - 0) / 2))
  refine wpS_bind (asc L hr h1 hn b' ?_ fun m m1 m2 u' _ => wpS_pure (h m _ b' (by omega) m2 u'))
  intro i j a c
  have g : n ≤ (arrOf t).size := by rw [b.sz]; omega
  show kv κ (mirror (arrOf t) 0 n ((n - 0) / 2)) i ≤ kv κ (mirror (arrOf t) 0 n ((n - 0) / 2)) j
  rw [vB g (by omega), vB g c]
  exact u _ _ (by omega) (by omega)
theorem AU {n r : Nat} {Q : DescSt → SortSt → Prop} (L : Lts prog w A s kd κ z) (D : dB κ z) (hr : r ≤ z.size) (h1 : 1 ≤ n) (hn : n ≤ r) (b : SB kd z t) (u : Dn κ (arrOf t) n)
    (h : ∀ m, n ≤ m → m ≤ r → Dn κ (arrOf t) m → Q (none, m, 0) t) : wpS (model prog w) A E s (descLoop n r) Q t := by
  unfold descLoop
  refine wpS_forRange (fun x c t' => t' = t ∧ c = (none, x, 0) ∧ Dn κ (arrOf t) x) ?_ ?_ ⟨rfl, rfl, u⟩
  · rintro x c t' x1 x2 ⟨rfl, rfl, u'⟩
    dsimp only
    refine wpS_bind (pw L b (by omega) (by omega) ?_)
    by_cases l : kv κ (arrOf t') x < kv κ (arrOf t') (x - 1)
    · simp only [decide_eq_true l, if_true]
      rw [if_neg (Nat.lt_irrefl 0)]
      exact wpS_pure ⟨rfl, rfl, r_ u' (.inr (Int.le_of_lt l))⟩
    · simp only [decide_eq_false l, Bool.false_eq_true, if_false]
      refine wpS_bind (pw L b (by omega) (by omega) ?_)
      have d := apart b D (i := x - 1) (j := x) (by omega) (by omega)
      simp only [decide_eq_true (show kv κ (arrOf t') (x - 1) < kv κ (arrOf t') x by omega), if_true]
      exact wpS_pure (h x x1 (by omega) u')
  · rintro c t' ⟨rfl, rfl, u'⟩
    rw [Nat.max_eq_right hn] at u' ⊢
    exact h r hn (Nat.le_refl _) u'
theorem count {r : Nat} {Q : Option Nat → SortSt → Prop} (L : Lts prog w A s kd κ z) (D : dB κ z) (hr : r ≤ z.size) (h1 : 1 ≤ r) (b : SB kd z t)
    (h : ∀ m t', SB kd z t' → 1 ≤ m → m ≤ r → Up κ (arrOf t') m → Q (some m) t') : wpS (model prog w) A E s (countRun' 0 r) Q t := by
  rw [countRun0_eq]
  refine wpS_bind (asc L hr (Nat.le_refl 1) h1 b (fun i j a c => by have : i = j := (by omega); subst this; exact Int.le_refl _) fun n n1 n2 u o => ?_)
  dsimp only
  by_cases e : n = r
  · rw [if_pos (by simpa using e)]
    exact wpS_pure (h n t b n1 n2 u)
  rw [if_neg (by simpa using e)]
  by_cases g : n > 1
  · rw [if_pos g]
    refine wpS_bind (pw L b (by omega) (by omega) ?_)
    have d := apart b D (i := 0) (j := n - 1) (by omega) (by omega)
    have l := u 0 (n - 1) (by omega) (by omega)
    simp only [decide_eq_true (show kv κ (arrOf t) 0 < kv κ (arrOf t) (n - 1) by omega), if_true]
    exact wpS_pure (h n t b n1 n2 u)
  · rw [if_neg g]
    have : n = 1 := by omega
    subst this
    unfold descPart
    refine wpS_bind (wpS_lift (wpAny_rule ⟨rfl, ?_⟩))
    refine wpS_bind (AU L D hr (by omega) (by omega) b ?_ fun m m1 m2 u' => ?_)
    · refine r_ (fun i j a c => by have : i = j := (by omega); subst this; exact Int.le_refl _) (.inr ?_)
      have := o.resolve_left e
      omega
    · dsimp only
      rw [if_neg (Nat.lt_irrefl 0)]
      exact t3 L hr (by omega) m2 b u' h
theorem yQ {n k₀ : Nat} {Q : Bool → SortSt → Prop} (L : Lts prog w A s kd κ z) (hn : n ≤ z.size) (hk : k₀ ≤ n) (h0 : 1 ≤ k₀) (b : SB kd z t) (u : Up κ (arrOf t) k₀)
    (h : ∀ t', SB kd z t' → Up κ (arrOf t') n → Q true t') : wpS (model prog w) A E s (binarySort' 0 n k₀) Q t := by
  rw [binarySort'_eq]
  simp only [Nat.zero_add]
  rw [Nat.max_eq_left h0]
  refine wpS_bind (wpS_mono (wpS_forRange (fun k c t' => c = (none, ()) ∧ SB kd z t' ∧ Up κ (arrOf t') k) (Q := fun c t' => c = (none, ()) ∧ SB kd z t' ∧ Up κ (arrOf t') n) ?_ ?_ ⟨rfl, b, u⟩) ?_)
  · rintro k c t' k1 k2 ⟨rfl, b', u'⟩
    refine wpS_bind (wpS_mono (wpS_forRange (fun x c t2 => t2 = t' ∧ ∃ l r, c = (none, l, r) ∧ l ≤ r ∧ r ≤ k ∧ r - l ≤ k - x ∧
        (∀ i, i < l → kv κ (arrOf t') i ≤ kv κ (arrOf t') k) ∧ ∀ i, r ≤ i → i < k → kv κ (arrOf t') k ≤ kv κ (arrOf t') i)
      (Q := fun c t2 => t2 = t' ∧ ∃ l r, c = (none, l, r) ∧ l ≤ k ∧ (∀ i, i < l → kv κ (arrOf t') i ≤ kv κ (arrOf t') k) ∧ ∀ i, l ≤ i → i < k → kv κ (arrOf t') k ≤ kv κ (arrOf t') i) ?_ ?_
        ⟨rfl, 0, k, rfl, Nat.zero_le _, Nat.le_refl _, Nat.le_refl _, fun i q => absurd q (Nat.not_lt_zero _), fun i q q' => absurd q' (Nat.not_lt.mpr q)⟩) ?_)
    · rintro x c t2 _ x2 ⟨rfl, l, r, rfl, lr, rk, m, lo, hi⟩
      dsimp only
      by_cases g : l ≥ r
      · rw [if_pos g]
        have : l = r := by omega
        subst this
        exact wpS_pure ⟨rfl, l, l, rfl, rk, lo, hi⟩
      rw [if_neg g]
      refine wpS_bind (pw L b' (by omega) (by omega) ?_)
      by_cases q : kv κ (arrOf t2) k < kv κ (arrOf t2) ((l + r) / 2)
      · simp only [decide_eq_true q, if_true]
        exact wpS_pure ⟨rfl, l, (l + r) / 2, rfl, by omega, by omega, by omega, lo, fun i a c => Int.le_trans (Int.le_of_lt q) (u' _ _ a c)⟩
      · simp only [decide_eq_false q, Bool.false_eq_true, if_false]
        exact wpS_pure ⟨rfl, (l + r) / 2 + 1, r, rfl, by omega, by omega, by omega, fun i a => Int.le_trans (u' i ((l + r) / 2) (by omega) (by omega)) (by omega), hi⟩
    · rintro c t2 ⟨rfl, l, r, rfl, lr, rk, m, lo, hi⟩
      have : l = r := by omega
      subst this
      exact ⟨rfl, l, l, rfl, rk, lo, hi⟩
    · rintro c t2 ⟨rfl, l, r, rfl, lk, lo, hi⟩
      show wpS (model prog w) A E s (moveDown' k l >>= fun _ => pure (ForInStep.yield (none, ()))) _ t2
      rw [moveDown'_eq]
      refine wpS_bind (wpS_modify (wpS_pure ⟨rfl, b'.put (bubble_perm _ _ _), ?_⟩))
      have g : k < (arrOf t2).size := by rw [b'.sz]; omega
      intro i j a c
      show kv κ (bubble (arrOf t2) k (k - l)) i ≤ kv κ (bubble (arrOf t2) k (k - l)) j
      rw [uB g (by omega), uB g (by omega), Nat.sub_sub_self lk]
      by_cases e1 : i = l
      · rw [if_pos e1]
        by_cases e2 : j = l
        · rw [if_pos e2]; exact Int.le_refl _
        · rw [if_neg e2, if_pos (by omega)]; exact hi _ (by omega) (by omega)
      · rw [if_neg e1]
        by_cases e3 : l < i ∧ i ≤ k
        · rw [if_pos e3, if_neg (by omega), if_pos (by omega)]; exact u' _ _ (by omega) (by omega)
        · rw [if_neg e3]
          by_cases e2 : j = l
          · rw [if_pos e2]; exact lo _ (by omega)
          · rw [if_neg e2]
            by_cases e4 : l < j ∧ j ≤ k
            · rw [if_pos e4]; exact u' _ _ (by omega) (by omega)
            · rw [if_neg e4]; exact u' _ _ a (by omega)
  · rintro c t' ⟨e, b', u'⟩
    rw [Nat.max_eq_right hk] at u'
    exact ⟨e, b', u'⟩
  · rintro c t' ⟨rfl, b', u'⟩
    exact wpS_pure (h t' b' u')
theorem A0 {Q : Unit → SortSt → Prop} (L : Lts prog w A s kd κ z) (D : dB κ z) (b : SB kd z t) (h2 : 2 ≤ z.size) (h64 : z.size < 64)
    (h : ∀ t', (arrOf t').Perm z → failedOf t' = none → Up κ (arrOf t') z.size → Q () t') : wpS (model prog w) A E s sortRuns' Q t := by
  rw [sortRuns'_eq]
  refine wpS_bind (wpS_get ?_)
  dsimp only
  have mr : minRun' z.size z.size 0 = z.size := by
    obtain ⟨f, e⟩ : ∃ f, z.size = f + 1 := ⟨z.size - 1, by omega⟩
    rw [e, minRun'_succ, if_pos (by omega), Nat.add_zero]
  simp only [b.sz, mr]
  refine wpS_bind (wpS_mono (wpS_forRange
    (fun x c t' => (x = 0 ∧ c = (none, 0) ∧ SB kd z t') ∨ (1 ≤ x ∧ c = (none, z.size) ∧ (arrOf t').Perm z ∧ failedOf t' = none ∧ pendingOf t' = #[(0, z.size, 0)] ∧ Up κ (arrOf t') z.size))
    (Q := fun c t' => c = (none, z.size) ∧ (arrOf t').Perm z ∧ failedOf t' = none ∧ pendingOf t' = #[(0, z.size, 0)] ∧ Up κ (arrOf t') z.size) ?_ ?_ (.inl ⟨rfl, rfl, b⟩)) ?_)
  · rintro x c t' _ x2 (⟨rfl, rfl, b'⟩ | ⟨x1, rfl, d⟩)
    · dsimp only
      rw [if_neg (by omega)]
      simp only [Nat.sub_zero, Nat.min_self, Nat.zero_add]
      refine wpS_bind (count L D (Nat.le_refl _) (by omega) b' fun m t2 b2 m1 m2 u2 => ?_)
      dsimp only
      by_cases g : m < z.size
      · rw [if_pos g]
        refine wpS_bind (wpS_lift (wpAny_rule ⟨rfl, ?_⟩))
        refine wpS_bind (yQ L (Nat.le_refl _) m2 m1 b2 u2 fun t3 b3 u3 => ?_)
        simp only [Bool.not_true, Bool.false_eq_true, if_false]
        refine wpS_bind (wpS_get ?_)
        rw [show (pendingOf t3).back? = none by rw [b3.pn]; rfl]
        exact wpS_bind (wpS_modify (wpS_pure (.inr ⟨by omega, rfl, b3.pm, b3.fl, by show (pendingOf t3).push _ = _; rw [b3.pn]; rfl, u3⟩)))
      · rw [if_neg g]
        have : m = z.size := by omega
        subst this
        refine wpS_bind (wpS_get ?_)
        rw [show (pendingOf t2).back? = none by rw [b2.pn]; rfl]
        exact wpS_bind (wpS_modify (wpS_pure (.inr ⟨by omega, rfl, b2.pm, b2.fl, by show (pendingOf t2).push _ = _; rw [b2.pn]; rfl, u2⟩)))
    · dsimp only
      rw [if_pos (Nat.le_refl _)]
      exact wpS_pure ⟨rfl, d⟩
  · rintro c t' (⟨x, _, _⟩ | ⟨_, e, d⟩)
    · omega
    · exact ⟨e, d⟩
  · rintro c t' ⟨rfl, p1, p2, p3, p4⟩
    dsimp only
    refine wpS_bind (wpS_mono (wpS_forRange (fun _ c t2 => t2 = t' ∧ c = (none, ())) (Q := fun c t2 => t2 = t' ∧ c = (none, ())) ?_ (fun _ _ q => q) ⟨rfl, rfl⟩) ?_)
    · rintro x c t2 _ _ ⟨rfl, rfl⟩
      refine wpS_bind (wpS_get ?_)
      rw [if_pos (by rw [p3]; exact Nat.le_refl 1)]
      exact wpS_pure ⟨rfl, rfl⟩
    · rintro c t2 ⟨rfl, rfl⟩
      exact wpS_pure (h _ p1 p2 p4)
end
section
variable {prog : Program} {w : World} {A : Around} {E : Value → Shared → Prop} {s : Shared}
structure Cmp (prog : Program) (w : World) (h : Heap) (os : OsState) (kd : SortKind) (κ : Value → Int) (vs : List Value) : Prop where
  kind : ∀ (A : Around) (E : Value → Shared → Prop) (s : Shared) (Q : SortKind → Shared → Prop), s.heap = h → Q kd s → wpAny (model prog w) A (keyKind' vs.toArray) Q E s
  lt : ∀ (A : Around) (E : Value → Shared → Prop) (s : Shared) (p q : Value) (Q : Bool → Shared → Prop), s.heap = h → p ∈ vs → q ∈ vs → Q (decide (κ p < κ q)) s → wpAny (model prog w) A (keyLt' kd p q) Q E s
theorem pairs_mem {vs : List Value} {p : Keyed} (h : p ∈ (vs.toArray.zip vs.toArray).toList) : p.1 ∈ vs ∧ p.2 = p.1 := by
  rw [Array.toList_zip] at h
  simp at h
  rw [List.zip_eq_zipWith, List.zipWith_self] at h
  obtain ⟨a, ha, e⟩ := List.mem_map.mp h
  subst e
  exact ⟨ha, rfl⟩
theorem pairs_fst (vs : List Value) : (vs.toArray.zip vs.toArray).toList.map (·.1) = vs := by
  rw [Array.toList_zip]
  exact List.map_fst_zip (Nat.le_refl _)
theorem wn {a : Addr} {vs : List Value} {n : Nat} {kd : SortKind} {κ : Value → Int} {P : Fin → Shared → Prop} (ho : s.heap.get? a = some (seqObj "list" vs.toArray n)) (h64 : vs.length < 64) (hd : (vs.map κ).Nodup)
    (hC : 2 ≤ vs.length → Cmp prog w (((s.heap.update a (Obj.mapSeq fun _ => #[])).push (seqObj "tuple" vs.toArray 0)).push (seqObj "list" #[] 0)) s.os kd κ vs)
    (h : ∀ out : List Value, out.Perm vs → out.Pairwise (fun x y => κ x < κ y) → P (.done (.ret .none)) { s with heap := sortedHeap s.heap a vs out.toArray }) :
    wpAny (model prog w) A (Builtin.«list.sort» ⟨[.ref a], []⟩) P E s := by
  rw [list_sort_plain]
  have la : a < s.heap.objs.size := Heap.lt_size ho
  refine wpAny_bind (listItems_at ho rfl (wpAny_bind (listUpdate_at ho rfl ?_ (hsz := by rw [List.size_toArray, sizeLine_eq]; omega))))
  obtain ⟨e1, ho1⟩ : ∃ e, (s.heap.update a (Obj.mapSeq fun _ => #[])).get? a = some (seqObj "list" #[] e) := ⟨_, get?_update_seq ho fun _ => #[]⟩
  refine wpAny_bind (seqEpoch_at ho1 rfl (wpAny_bind (wpAny_newTuple (wpAny_bind (wpAny_newList (wpAny_holding ?_))) (by show vs.length ≤ _; rw [sizeLine_eq]; omega))))
  have ho3 : (((s.heap.update a (Obj.mapSeq fun _ => #[])).push (seqObj "tuple" vs.toArray 0)).push (seqObj "list" #[] 0)).get? a = some (seqObj "list" #[] e1) :=
    Heap.get?_push_of_some _ (Heap.get?_push_of_some _ ho1)
  show wpAny (model prog w) A _ P E { s with heap := ((s.heap.update a (Obj.mapSeq fun _ => #[])).push (seqObj "tuple" vs.toArray 0)).push (seqObj "list" #[] 0) }
  dsimp only
  have fin : ∀ t : SortSt, (arrOf t).Perm (vs.toArray.zip vs.toArray) → failedOf t = none → Up (fun p => κ p.1) (arrOf t) (vs.toArray.zip vs.toArray).size →
      (((arrOf t).map (·.2)).toList.Perm vs ∧ ((arrOf t).map (·.2)).toList.Pairwise fun x y => κ x < κ y) := fun t pm _ u => by
    have pl := Array.perm_iff_toList_perm.mp pm
    have e2 : ((arrOf t).map (·.2)).toList = (arrOf t).toList.map (·.1) := by
      rw [Array.toList_map]
      exact List.map_congr_left fun p hp => (pairs_mem (pl.mem_iff.mp hp)).2
    have p1 : ((arrOf t).map (·.2)).toList.Perm vs := by
      rw [e2]
      have := pl.map (·.1)
      rwa [pairs_fst] at this
    refine ⟨p1, ?_⟩
    have nd : (((arrOf t).map (·.2)).toList.map κ).Nodup := (p1.map κ).nodup_iff.mpr hd
    rw [e2] at nd ⊢
    have sz : (arrOf t).size = (vs.toArray.zip vs.toArray).size := pm.size_eq
    refine List.pairwise_iff_getElem.mpr fun i j hi hj hij => ?_
    have hi' : i < (arrOf t).size := by simpa using hi
    have hj' : j < (arrOf t).size := by simpa using hj
    have l := u i j (Nat.le_of_lt hij) (by omega)
    rw [mY hi', mY hj'] at l
    have d := List.pairwise_iff_getElem.mp nd i j (by simpa using hi) (by simpa using hj) hij
    simp at d l ⊢
    omega
  by_cases c2 : vs.toArray.size < 2
  · rw [if_pos c2, if_pos c2]
    refine wpAny_bind (wpAny_pure ?_)
    rw [StateT.run_pure]
    refine wpAny_bind (wpAny_pure ?_)
    dsimp only
    refine wpAny_bind (seqEpoch_at ho3 rfl ?_)
    obtain ⟨f1, f2⟩ := fin (SortSt.mk' general' (vs.toArray.zip vs.toArray) #[] 7 none) (Array.Perm.refl _) rfl fun i j hij hj => by
      have : i = j := by simp at hj c2; omega
      subst this; exact Int.le_refl _
    have sz2 : ((vs.toArray.zip vs.toArray).map (·.2)).size ≤ sizeLine + 1 := by simp; rw [sizeLine_eq]; omega
    refine wpAny_bind (listUpdate_at ho3 rfl ?_ (hsz := by rw [sizeLine_eq]; decide) (hsz2 := sz2))
    simp only [bne_self_eq_false, Bool.false_eq_true, if_false]
    exact wpAny_pure (h _ f1 f2)
  · rw [if_neg c2, if_neg c2]
    have C := hC (by simp at c2; omega)
    refine wpAny_bind (C.kind _ _ _ _ rfl ?_)
    have zs : (vs.toArray.zip vs.toArray).size = vs.length := by simp
    have L : Lts prog w A { s with heap := ((s.heap.update a (Obj.mapSeq fun _ => #[])).push (seqObj "tuple" vs.toArray 0)).push (seqObj "list" #[] 0) } kd (fun p => κ p.1) (vs.toArray.zip vs.toArray) :=
      fun E p q Q hp hq k => C.lt _ _ _ _ _ _ rfl (pairs_mem hp).1 (pairs_mem hq).1 k
    have D : dB (fun p => κ p.1) (vs.toArray.zip vs.toArray) := by
      unfold dB
      rw [show (vs.toArray.zip vs.toArray).toList.map (fun p => κ p.1) = ((vs.toArray.zip vs.toArray).toList.map (·.1)).map κ by rw [List.map_map]; rfl, pairs_fst]
      exact hd
    refine wpAny_bind (wpAny_mono (A0 (z := vs.toArray.zip vs.toArray) (t := SortSt.mk' kd (vs.toArray.zip vs.toArray) #[] 7 none) (Q := fun _ t' => (arrOf t').Perm (vs.toArray.zip vs.toArray) ∧ failedOf t' = none ∧ Up (fun p => κ p.1) (arrOf t') (vs.toArray.zip vs.toArray).size)
      L D ⟨Array.Perm.refl _, rfl, rfl, rfl⟩ (by rw [zs]; simp at c2; omega) (by omega) fun t' a1 a2 a3 => ⟨a1, a2, a3⟩) ?_ fun _ _ e => e)
    rintro ⟨⟨⟩, t'⟩ s' ⟨rfl, a1, a2, a3⟩
    dsimp only
    refine wpAny_bind (seqEpoch_at ho3 rfl ?_)
    obtain ⟨f1, f2⟩ := fin t' a1 a2 a3
    have sz2 : ((arrOf t').map (·.2)).size ≤ sizeLine + 1 := by
      have := f1.length_eq
      rw [Array.length_toList] at this
      rw [this, sizeLine_eq]; omega
    refine wpAny_bind (listUpdate_at ho3 rfl ?_ (hsz := by rw [sizeLine_eq]; decide) (hsz2 := sz2))
    rw [a2]
    simp only [bne_self_eq_false, Bool.false_eq_true, if_false]
    exact wpAny_pure (h _ f1 f2)
theorem sorted_by {l : Addr} {vs : List Value} {kd : SortKind} {κ : Value → Int} {Q : Value → Shared → Prop} (hl : s.heap.IsList l vs.toArray) (h64 : vs.length < 64) (hd : (vs.map κ).Nodup)
    (hC : 2 ≤ vs.length → ∀ h', (∀ b o, s.heap.get? b = some o → h'.get? b = some o) → Cmp prog w h' s.os kd κ vs)
    (h : ∀ (out : List Value) (h' : Heap) (c : Nat), out.Perm vs → out.Pairwise (fun x y => κ x < κ y) → (∀ b o, s.heap.get? b = some o → h'.get? b = some o) →
      h'.get? (s.heap.objs.size + 1) = some (seqObj "list" out.toArray c) → Q (.ref (s.heap.objs.size + 1)) { s with heap := h' }) :
    wpAny (model prog w) A (call (.builtin "sorted") [.ref l]) Q E s := by
  refine Calls.call_function_entry kind_sorted plain_sorted entry_sorted (args_sorted1 _) ?_
  unfold Builtin.«sorted»
  refine wpAny_bind (m := checkCount "sorted" 1 1 _) (wpAny_pure (wpAny_bind (collect_list hl (wpAny_bind (wpAny_newList ?_ (by rw [sizeLine_eq]; omega))) (by rw [sizeLine_eq]; omega))))
  have z : ((s.heap.push (seqObj "list" #[] 0)).update s.heap.objs.size (Obj.mapSeq (· ++ vs.toArray))).objs.size = s.heap.objs.size + 1 := (Heap.size_update ..).trans (size_push' _ _)
  have kp : ∀ b o, s.heap.get? b = some o → (((s.heap.push (seqObj "list" #[] 0)).update s.heap.objs.size (Obj.mapSeq (· ++ vs.toArray))).push (seqObj "list" vs.toArray 0)).get? b = some o := fun b o e => by
    have lt : b < s.heap.objs.size := Heap.lt_size e
    refine Heap.get?_push_of_some _ ?_
    rw [Heap.get?_update_ne _ _ _ _ (Nat.ne_of_lt lt)]
    exact Heap.get?_push_of_some _ e
  have at1 : (((s.heap.push (seqObj "list" #[] 0)).update s.heap.objs.size (Obj.mapSeq (· ++ vs.toArray))).push (seqObj "list" vs.toArray 0)).get? (s.heap.objs.size + 1) = some (seqObj "list" vs.toArray 0) := by
    rw [← z]; exact Heap.get?_push_size _ rfl
  show wpAny (model prog w) _ _ _ _ { s with heap := ((s.heap.push (seqObj "list" #[] 0)).update s.heap.objs.size (Obj.mapSeq (· ++ vs.toArray))).push (seqObj "list" vs.toArray 0) }
  rw [z]
  generalize hh : ((s.heap.push (seqObj "list" #[] 0)).update s.heap.objs.size (Obj.mapSeq (· ++ vs.toArray))).push (seqObj "list" vs.toArray 0) = h1 at at1 kp ⊢
  have kp2 : ∀ b o, s.heap.get? b = some o → (((h1.update (s.heap.objs.size + 1) (Obj.mapSeq fun _ => #[])).push (seqObj "tuple" vs.toArray 0)).push (seqObj "list" #[] 0)).get? b = some o := fun b o e => by
    have lt : b < s.heap.objs.size := Heap.lt_size e
    refine Heap.get?_push_of_some _ (Heap.get?_push_of_some _ ?_)
    rw [Heap.get?_update_ne _ _ _ _ (Nat.ne_of_lt (Nat.lt_succ_of_lt lt))]
    exact kp b o e
  refine wpAny_bind (wpAny_holding (wpAny_call_entry slot_list_sort ⟨_, at1, rfl⟩ entry_list_sort (wn (s := { s with heap := h1 }) at1 h64 hd (fun c => hC c _ kp2) fun out p1 p2 => ⟨_, rfl, ?_⟩) (args_list_sort _)))
  have at2 : (((h1.update (s.heap.objs.size + 1) (Obj.mapSeq fun _ => #[])).push (seqObj "tuple" vs.toArray 0)).push (seqObj "list" #[] 0)).get? (s.heap.objs.size + 1) = some (seqObj "list" #[] _) :=
    Heap.get?_push_of_some _ (Heap.get?_push_of_some _ (get?_update_seq at1 fun _ => #[]))
  refine wpAny_pure ⟨_, rfl, h out _ _ p1 p2 (fun b o e => ?_) (get?_update_seq at2 fun _ => out.toArray)⟩
  have lt : b < s.heap.objs.size := Heap.lt_size e
  show (Heap.update _ _ _).get? b = _
  rw [Heap.get?_update_ne _ _ _ _ (Nat.ne_of_lt (Nat.lt_succ_of_lt lt))]
  exact kp2 b o e
end
end Srt
end L2
set_option Elab.async false
set_option linter.all false
set_option maxRecDepth 100000
namespace L2
namespace Srt
open PySem PyProof.Rows
def Two (h : Heap) (p : Addr) (x y : Int) : Prop := ∃ (o : Obj) (t u : Tok) (n : Nat), h.get? p = some o ∧ o.cls = .type "tuple" ∧ o.data = .seq #[.int x t, .int y u] n
section
variable {prog : Program} {w : World} {A : Around} {E : Value → Shared → Prop} {s : Shared}
end
end Srt
end L2
set_option Elab.async false
set_option linter.all false
set_option maxRecDepth 100000
namespace L2
namespace Srt
open PySem PyProof.Rows
section
variable {prog : Program} {w : World} {A : Around} {E : Value → Shared → Prop} {R : Result → Shared → Prop} {s : Shared} {I S ax : Addr} {items : Array Value} {h₀ : Heap} {κ : Value → Int}
def Prs (h : Heap) (κ : Value → Int) (lo : Int) (v : Value) : Prop := ∃ p x y, v = .ref p ∧ Two h p x y ∧ κ v = x * 64 + y ∧ lo ≤ y ∧ y < lo + 64
end
end Srt
end L2
set_option Elab.async false
set_option linter.all false
set_option maxRecDepth 100000
namespace L2
open PySem PyProof.Rows
section
variable {X : Cx} {pins : List (Addr × Obj)} {σ : St} {H : Hp} {s : Shared}
abbrev Pr := Addr × Int × Int
end
end L2
set_option Elab.async false
set_option linter.all false
set_option maxRecDepth 100000
namespace L2
open PySem PyProof.Rows
section
variable {X : Cx} {pins : List (Addr × Obj)} {σ : St} {H : Hp} {s : Shared}
def n_ : Value → List Nat
  | .str x _ => x.cps.toList
  | _ => []
def IsS (v : Value) : Prop := ∃ x t, v = .str x t
abbrev InO (ls : List (List Nat)) : Prop := ls.Pairwise fun a b => ¬ b < a
theorem pP : ∀ {a b : List (List Nat)}, a.Perm b → InO a → InO b → a = b
  | [], _, p, _, _ => p.nil_eq
  | x :: r, b, p, ha, hb => by
    cases b with
    | nil => exact absurd p.length_eq (by simp)
    | cons y t =>
      have hx : x ∈ y :: t := p.mem_iff.mp (.head _)
      have hy : y ∈ x :: r := p.mem_iff.mpr (.head _)
      have e : x = y := by
        rcases List.mem_cons.mp hx with h | h
        · exact h
        · rcases List.mem_cons.mp hy with h' | h'
          · exact h'.symm
          · exact List.le_antisymm (List.not_lt.mp ((List.pairwise_cons.mp ha).1 y h')) (List.not_lt.mp ((List.pairwise_cons.mp hb).1 x h))
      subst e
      rw [pP (List.Perm.cons_inv p) (List.pairwise_cons.mp ha).2 (List.pairwise_cons.mp hb).2]
theorem o5 : ∀ {vs : List Value}, (∀ v ∈ vs, IsS v) → Vals ((vs.map n_).map T) vs
  | [], _ => .nil
  | v :: vs, h => by
    obtain ⟨x, t, rfl⟩ := h v (List.mem_cons_self ..)
    exact .cons ⟨t, rfl⟩ (o5 fun u m => h u (List.mem_cons_of_mem _ m))
theorem pv : ∀ {ls : List (List Nat)} {vs : List Value}, Vals (ls.map T) vs → (∀ v ∈ vs, IsS v) ∧ vs.map n_ = ls
  | [], _, .nil => ⟨(fun _ m => nomatch m), rfl⟩
  | l :: ls, _, .cons e t => by
    obtain ⟨k, rfl⟩ := e
    obtain ⟨a, b⟩ := pv t
    refine ⟨fun v m => ?_, by rw [List.map_cons, b]; rfl⟩
    rcases List.mem_cons.mp m with rfl | m
    · exact ⟨_, _, rfl⟩
    · exact a v m
theorem pf : ∀ {vs : List Value}, (∀ v ∈ vs, IsS v) → ∃ ss, StrsAre vs ss
  | [], _ => ⟨[], .nil⟩
  | v :: vs, h => by
    obtain ⟨x, t, rfl⟩ := h v (List.mem_cons_self ..)
    obtain ⟨ss, r⟩ := pf fun u m => h u (List.mem_cons_of_mem _ m)
    exact ⟨x :: ss, .cons x t r⟩
theorem xk {vs : List Value} (hv : ∀ v ∈ vs, IsS v) {xs : Array Keyed} (hp : xs.Perm (pairsOf vs)) (hs : SortedToK strKind xs (pairsOf vs).size) :
    (xs.map (·.2)).toList.Perm vs ∧ InO ((xs.map (·.2)).toList.map n_) := by
  have pl : xs.toList.Perm (vs.toArray.zip vs.toArray).toList := Array.perm_iff_toList_perm.mp hp
  have e2 : (xs.map (·.2)).toList = xs.toList.map (·.1) := by
    rw [Array.toList_map]
    exact List.map_congr_left fun p m => (Srt.pairs_mem (pl.mem_iff.mp m)).2
  have p1 : (xs.map (·.2)).toList.Perm vs := by
    rw [e2]
    have := pl.map (·.1)
    rwa [Srt.pairs_fst] at this
  refine ⟨p1, ?_⟩
  rw [e2, List.map_map]
  have sz : xs.size = (pairsOf vs).size := hp.size_eq
  refine List.pairwise_iff_getElem.mpr fun i j hi hj hij => ?_
  have hi' : i < xs.size := by simpa using hi
  have hj' : j < xs.size := by simpa using hj
  have l := hs i j (Nat.le_of_lt hij) (by omega)
  have kk : ∀ k (h : k < xs.size), KK strKind xs k = n_ xs[k].1 := fun k h => by
    have m : xs[k] ∈ xs.toList := by simp
    obtain ⟨x, t, e⟩ := hv _ (Srt.pairs_mem (pl.mem_iff.mp m)).1
    unfold KK
    rw [Array.getElem?_eq_getElem h]
    show (strKind.keyOf xs[k].1).getD strKind.dflt = _
    rw [e]; rfl
  rw [kk i hi', kk j hj'] at l
  have l' : decide (n_ xs[j].1 < n_ xs[i].1) = false := l
  simp only [List.getElem_map, Array.getElem_toList, Function.comp_apply]
  exact of_decide_eq_false l'
def zQ (K : PySem.W.Frag) : List V → Hp → VK → Prop
  | [.ref p], H, Q => ∃ ls : List (List Nat), SqL K H p (ls.map T) ∧ ls.length < 64 ∧ ∀ out : List (List Nat), out.Perm ls → InO out → ∀ l, H l = none → Q (.ref l) (upd H l (.lst (out.map T)))
  | _, _, _ => False
theorem lX {P : Program} {w : World} : ∀ {vs : List (Key × Value)} {us : List Value}, us.length = vs.length → (∀ (j : Nat) (v : Value), us[j]? = some v → ∃ k x, vs[j]? = some (k, x) ∧ (b7 P w).is k v = true) → Vals (vs.map fun e => kV e.1) us
  | [], [], _, _ => .nil
  | e :: vs, u :: us, hl, h => by
    obtain ⟨k, x, e1, r⟩ := h 0 u rfl
    simp at e1
    subst e1
    refine .cons ?_ (lX (by simpa using hl) fun j v q => by simpa using h (j + 1) v (by simpa using q))
    cases k with
    | inl i => obtain ⟨t, z⟩ := Value.isInt_shape r; exact ⟨t, z⟩
    | inr x => obtain ⟨t, z⟩ := Value.isStrOf_shape r; exact ⟨t, z⟩
  | [], _ :: _, hl, _ => by simp at hl
  | _ :: _, [], hl, _ => by simp at hl
def qU : List V → Hp → VK → Prop
  | [.ref d], H, Q => ∃ (kvs : List (Key × V)) (ls : List (List Nat)), H d = some (.dK kvs) ∧ kvs.map (fun e => kV e.1) = ls.map T ∧ ls.length < 64 ∧ ∀ out : List (List Nat), out.Perm ls → InO out → ∀ l, H l = none → Q (.ref l) (upd H l (.lst (out.map T)))
  | _, _, _ => False
theorem oR (hc : X.calm = true) : CallR X (.builtin "sorted") qU := by
  intro pins s σ H xs us Q I r h
  unfold qU at h
  split at h
  · rename_i d
    obtain ⟨kvs, ls, hd, hks, h64, q⟩ := h
    obtain ⟨u, rfl, rx⟩ := gg r
    cases (show u = Value.ref d from rx)
    obtain ⟨z, lo, vs, kv, D⟩ := uk I.hok hd
    obtain ⟨ep, hat⟩ := D.dictAt
    have len : vs.length = kvs.length := (KV.length kv).symm
    have ek : kvs.map (fun e => kV e.1) = vs.map fun e => kV e.1 := by
      have := congrArg (List.map kV) (KV.keys kv)
      simpa [List.map_map, Function.comp_def] using this
    refine Calls.call_function_entry kind_sorted plain_sorted entry_sorted (args_sorted1 _) ?_
    unfold Builtin.«sorted»
    refine wpAny_bind (m := checkCount "sorted" 1 1 _) (wpAny_pure ?_)
    refine wpAny_bind (PySem.W.kdu_collect (PySem.W.kdl_dict (knd := b7 X.prog X.w) (kvs := vs) (ep := ep) lo) (I.ok.hd hc) hat (by omega) fun h' tk acc kp it => ?_)
    have rv : Vals (ls.map T) acc.toList := by
      rw [← hks, ek]
      exact lX (P := X.prog) (w := X.w) (by rw [Array.length_toList]; exact it.1) fun j v e => it.2 j v (by rw [← Array.getElem?_toList]; exact e)
    obtain ⟨hv, em⟩ := pv rv
    obtain ⟨ss, hS⟩ := pf hv
    have len2 : acc.toList.length < 64 := by have := rv.length; rw [List.length_map] at this; omega
    refine wpAny_bind (wpAny_newList ?_)
    have hoL : (h'.push (seqObj "list" acc.toList.toArray 0)).get? h'.objs.size = some (seqObj "list" acc.toList.toArray 0) := Heap.get?_push_size _ rfl
    refine wpAny_bind (wpAny_holding (wpAny_call_entry slot_list_sort ⟨_, hoL, rfl⟩ entry_list_sort (list_sort_treeK strKind_oneLt hoL hS.keysOf (fun v₁ v₂ rest e => keyKind_strs (by rw [← e]; exact hS)) len2 fun st' hp hs => ⟨_, rfl, ?_⟩) (args_list_sort _)))
    refine wpAny_pure ⟨_, rfl, ?_⟩
    obtain ⟨p1, o1⟩ := xk hv hp hs
    generalize hout : (arrOf st').map (·.2) = out at p1 o1
    obtain ⟨c, ea⟩ := sortedHeap_at (out := out) hoL
    have I1 : Inv X pins σ H { s with heap := h', toks := tk } := I.kept kp
    have kp2 : ∀ b o, h'.get? b = some o → (sortedHeap (h'.push (seqObj "list" acc.toList.toArray 0)) h'.objs.size acc.toList out).get? b = some o := fun b o e => by
      have l1 := Heap.lt_size e
      rw [sortedHeap_old (Nat.ne_of_lt l1) (by rw [size_push']; exact Nat.lt_succ_of_lt l1), Heap.get?_push_ne _ _ _ (Nat.ne_of_lt l1)]
      exact e
    have hv2 : ∀ v ∈ out.toList, IsS v := fun v m => hv v (p1.mem_iff.mp m)
    have pm : (out.toList.map n_).Perm ls := by have := p1.map n_; rwa [em] at this
    refine ⟨.ref h'.objs.size, _, I1.laid (t' := tk) (a := h'.objs.size) kp2 (Nat.le_refl _) (show ObjOk X.prog X.w _ _ _ (.lst ((out.toList.map n_).map T)) from ⟨?_, out.toList, c, o5 hv2, by rw [Array.toArray_toList]; exact ea⟩), rfl, q _ pm o1 _ (I1.hok.fresh (Nat.le_refl _))⟩
    rw [List.length_map, pm.length_eq, sizeLine_eq]; omega
  · exact h.elim
end
section
variable {X : Cx} {tg : Expr}
theorem qk {pins : List (Addr × Obj)} {σ : St} {H : Hp} {s : Shared} {R : It → Hp → Prop} {E : Value → Shared → Prop} {lo hi c : Int} {t u v : Tok} {tk : Nat} (I : Inv X pins σ H s) (h1 : 0 ≤ lo) (h2 : lo < 1000000) (h3 : -1000000 ≤ hi) (h4 : hi < 1000000) (h5 : 1 ≤ c) (h6 : c < 1000000)
    (q : R (qM lo c (rsz lo hi c)) H) : wpAny (model X.prog X.w) X.A (pyIter (.ref s.heap.objs.size)) (PIE X pins σ tg R) E { s with heap := s.heap.push { cls := .type "range", data := .fields #[.int lo t, .int hi u, .int c v] }, toks := tk } := by
  have hd : 0 ≤ (hi - lo - 1) / c ∨ ¬ lo < hi := by
    by_cases h : lo < hi
    · exact .inl (Int.ediv_nonneg (by omega) (by omega))
    · exact .inr h
  have hd2 : lo < hi → (hi - lo - 1) / c < 1000000 := fun h => by
    have := Int.ediv_le_self c (show 0 ≤ hi - lo - 1 by omega)
    omega
  have e2 : ((rsz lo hi c : Nat) : Int) - ((0 : Nat) : Int) = Builtin.Range.rangeSize lo hi c := by
    unfold rsz Builtin.Range.rangeSize
    rw [if_pos (show c > 0 by omega)]
    split <;> omega
  refine wpAny_pyIter_range (IsRange.new ..) ?_ ?_
  · have fits : ∀ z : Int, -(2 ^ 62) ≤ z → z < 2 ^ 62 → Builtin.Range.rangeFitsLong z = true := fun z z1 z2 => by
      simp only [Builtin.Range.rangeFitsLong, Bool.and_eq_true, decide_eq_true_eq]; omega
    have hr : 0 ≤ ((rsz lo hi c : Nat) : Int) ∧ ((rsz lo hi c : Nat) : Int) ≤ 1000000 := by
      unfold rsz
      split
      · rename_i h; have := hd2 h; omega
      · omega
    unfold Builtin.Range.small
    rw [← e2, fits lo (by omega) (by omega), fits hi (by omega) (by omega), fits c (by omega) (by omega), fits _ (by omega) (by omega), if_pos (show c > 0 by omega), fits (hi + (c - 1)) (by omega) (by omega), Bool.or_true]
    rfl
  have I1 : Inv X pins σ H { s with heap := s.heap.push { cls := .type "range", data := .fields #[.int lo t, .int hi u, .int c v] }, toks := tk } := I.kept fun b o e => Heap.get?_push_of_some _ e
  refine ⟨(s.heap.push { cls := .type "range", data := .fields #[.int lo t, .int hi u, .int c v] }).objs.size, [(s.heap.push { cls := .type "range", data := .fields #[.int lo t, .int hi u, .int c v] }).objs.size], _, _, H, rfl,
    I1.kept (t' := tk) fun b o e => Heap.get?_push_of_some _ e, o8 _ lo c (rsz lo hi c), ?_, fun b hb => ?_, q⟩
  · have e1 : lo + ((0 : Nat) : Int) * c = lo := by simp
    show IsRangeIter _ _ (lo + ((0 : Nat) : Int) * c) (((rsz lo hi c : Nat) : Int) - ((0 : Nat) : Int)) c
    rw [e1, e2]
    exact Heap.get?_push_size _ rfl
  · have e : b = (s.heap.push { cls := .type "range", data := .fields #[.int lo t, .int hi u, .int c v] }).objs.size := by simpa using hb
    subst e
    exact I1.fpOk (Nat.le_refl _) (I1.hok.fresh (Nat.le_refl _))
def ud (ta : TA) : TI := fun σ H R => ta σ H fun vs H1 => ∃ i j c : Int, vs = [.int i, .int j, .int c] ∧ (0 ≤ i ∧ i < 1000000 ∧ -1000000 ≤ j ∧ j < 1000000 ∧ 1 ≤ c ∧ c < 1000000) ∧ R (qM i c (rsz i j c)) H1
theorem qt {a b c : Expr} {ta : TA} {p pos : Pos} (hg : Gl X "range") (hm : X.mg "range" = none) (ha : PA X [a, b, c] ta) (hs : starEach [a, b, c] X.env = [(false, eval a X.env), (false, eval b X.env), (false, eval c X.env)] := by rfl) (hs2 : starEach [b, c] X.env = [(false, eval b X.env), (false, eval c X.env)] := by rfl) :
    PI X tg (.Call (.Name "range" p) [a, b, c] [] pos) (ud ta) := by
  intro pins s σ H R I h
  refine Call_ (lA I hg hm boot_range (PyProof.Rows.callWith_type1 (thn (ha pos pins s σ H _ I h) fun us s1 ⟨vs, H1, I1, r1, q1⟩ => ?_) (by rw [hs, hs2]) (by rw [hs2]; rfl)))
  obtain ⟨i, j, k, e, ⟨q1, q2, q3, q4, q5, q6⟩, q⟩ := q1
  subst e
  cases r1 with
  | cons r rr =>
    cases rr with
    | cons r' rr =>
      cases rr with
      | cons r'' rr =>
        cases rr
        obtain ⟨t, rfl⟩ := r
        obtain ⟨t', rfl⟩ := r'
        obtain ⟨t'', rfl⟩ := r''
        exact call_range_3 (by omega) (qk I1 q1 q2 q3 q4 q5 q6 q) (Or.inl (PyProof.noPylong_small (by omega)))
end
open Lean Meta Simp
def wU : List Name := yN ++ [`L2.tDIn, `L2.tDNotIn, `L2.xW, `L2.tTryN]
def wq : List Name := yf ++ [`L2.zQ, `L2.qU, `L2.gListD, `L2.gAny, `L2.gInL, `L2.zF]
end L2
set_option Elab.async false
set_option linter.all false
set_option maxRecDepth 100000
namespace L2
open PySem PyProof.Rows
section
variable {X : Cx} {pins : List (Addr × Obj)} {σ : St} {H : Hp} {s : Shared}
end
namespace Srt
section
variable {prog : Program} {w : World} {A : Around} {E : Value → Shared → Prop} {s : Shared}
end
end Srt
section
variable {X : Cx} {pins : List (Addr × Obj)} {σ : St} {H : Hp} {s : Shared}
end
end L2
set_option Elab.async false
set_option linter.all false
set_option maxRecDepth 100000
namespace L2
namespace Rv
open PySem PyProof.Rows
section
variable {prog : Program} {w : World} {A : Around} {E : Value → Shared → Prop} {s : Shared}
end
end Rv
open PySem PyProof.Rows
section
variable {X : Cx} {pins : List (Addr × Obj)} {σ : St} {H : Hp} {s : Shared}
end
end L2
set_option Elab.async false
set_option linter.all false
set_option maxRecDepth 100000
namespace L2
open PySem PyProof.Rows
def FE (J : It) (g : TG) (tb : TS) (D : dU) (σ : St) (H : Hp) : Prop := ∃ W : Nat → Nat → St → Hp → Prop, (∃ m, W 0 m σ H) ∧ ∀ i m σ H, W i m σ H →
  (J.stop i H ∧ D.nx σ H) ∨ (J.go i H ∧ ∃ N : St → Hp → Prop, (∀ σ' H', N σ' H' → ∃ m', m' < m ∧ W (i + 1) m' σ' H') ∧ ∀ x H', J.yld i H x H' → g x σ H' fun σ2 H2 => tb { D with nx := N, ct := N, bk := D.nx } σ2 H2)
theorem i6 {J : It} {H1 : Hp} {D : Addr} {Q : VK} {σr : St} {tt : TT} {te : TE} (h : ∃ W : Nat → Nat → List V → Hp → Prop, (∃ m, W 0 m [] (upd H1 D (.lst []))) ∧
      ∀ i m ys H2, W i m ys H2 → H2 D = some (.lst ys) ∧ ((J.stop i H2 ∧ Q (.ref D) H2) ∨ (J.go i H2 ∧ ∀ x H3, J.yld i H2 x H3 →
        tt (some x :: σr) H3 fun b H4 => if b = true then te (some x :: σr) H4 fun y H5 => H5 D = some (.lst ys) ∧ ys.length < sizeLine ∧ ∃ m', m' < m ∧ W (i + 1) m' (ys ++ [y]) (upd H5 D (.lst (ys ++ [y])))
          else ∃ m', m' < m ∧ W (i + 1) m' ys H4))) :
    ∃ W : Nat → Nat → List V → Hp → Prop, (∃ m, W 0 m [] (upd H1 D (.lst []))) ∧
      ∀ i m ys H2, W i m ys H2 → H2 D = some (.lst ys) ∧ ((J.stop i H2 ∧ Q (.ref D) H2) ∨ (J.go i H2 ∧ ∀ x H3, J.yld i H2 x H3 → ∀ zs : St, zs.length = 1 →
        hR 0 x (zs ++ σr) H3 fun σ4 H4 => (∃ zs4 : St, zs4.length = 1 ∧ σ4 = zs4 ++ σr) ∧
          tt σ4 H4 fun b H5 => if b = true then te σ4 H5 fun y H6 => H6 D = some (.lst ys) ∧ ys.length < sizeLine ∧ ∃ m', m' < m ∧ W (i + 1) m' (ys ++ [y]) (upd H6 D (.lst (ys ++ [y])))
            else ∃ m', m' < m ∧ W (i + 1) m' ys H5)) := by
  obtain ⟨W, h0, h⟩ := h
  refine ⟨W, h0, fun i m ys H2 w => ?_⟩
  obtain ⟨h1, h2⟩ := h i m ys H2 w
  refine ⟨h1, h2.imp id fun ⟨g1, g2⟩ => ⟨g1, fun x H3 y zs hz => ?_⟩⟩
  obtain ⟨z, rfl⟩ := ex1 hz
  exact ⟨⟨[some x], rfl, rfl⟩, g2 x H3 y⟩
theorem cmS {tl : TE} {ks : List Nat} {σ : St} {H : Hp} {Q : VK} {tt : TT} {te : TE} (C : Hp → Prop) (hC : ∀ D ys, H D = none → C (upd H D (.lst ys))) (l : List Nat) (p : Nat → Bool) (f : Nat → V) (hl : ∀ R : VK, R (T l) H → tl σ H R) (ha : ∀ c ∈ l, c < 128) (hz : l.length ≤ sizeLine)
    (hp : ∀ c ∈ l, ∀ H (R : Bool → Hp → Prop), C H → R (p c) H → tt (some (T [c]) :: ks.map fun k => (σ[k]?).join) H R) (hf : ∀ c ∈ l, p c = true → ∀ H (R : VK), C H → R (f c) H → te (some (T [c]) :: ks.map fun k => (σ[k]?).join) H R)
    (q : ∀ D, H D = none → Q (.ref D) (upd H D (.lst ((l.filter p).map f)))) : dS (Ap tl) 1 (hR 0) ks tt te σ H Q := by
  refine hl _ ⟨by simpa [cs] using ha, fun D hD => ?_⟩
  have P : ∀ x ∈ l.map fun c => T [c], ∃ c ∈ l, x = T [c] := fun x hx => by
    obtain ⟨c, hc, rfl⟩ := List.mem_map.mp hx; exact ⟨c, hc, rfl⟩
  let hd : V → Nat := fun v => match v with | .str y => (cs y).headD 0 | _ => 0
  have hhd : ∀ c, hd (T [c]) = c := fun c => rfl
  refine i6 (mw (vI l) C (fun v => p (hd v)) (fun v => f (hd v)) (by simpa using hz) (fun x hx H R c r => ?_) (fun x hx hb H R c r => ?_) D hD (fun ys => hC D ys hD) ?_)
  · obtain ⟨y, hy, rfl⟩ := P x hx
    exact hp y hy H R c r
  · obtain ⟨y, hy, rfl⟩ := P x hx
    exact hf y hy hb H R c r
  · have e : ((l.map fun c => T [c]).filter fun v => p (hd v)).map (fun v => f (hd v)) = (l.filter p).map f := by
      rw [List.filter_map, List.map_map]
      rfl
    rw [e]; exact q D hD
theorem cmR {ta : TA} {ks : List Nat} {σ : St} {H : Hp} {Q : VK} {tt : TT} {te : TE} (C : Hp → Prop) (hC : ∀ D ys, H D = none → C (upd H D (.lst ys))) (n : Nat) (p : Nat → Bool) (f : Nat → V) (hl : ∀ R : List V → Hp → Prop, R [.int n] H → ta σ H R) (hz : n ≤ sizeLine)
    (hp : ∀ k, k < n → ∀ H (R : Bool → Hp → Prop), C H → R (p k) H → tt (some (.int k) :: ks.map fun k => (σ[k]?).join) H R) (hf : ∀ k, k < n → p k = true → ∀ H (R : VK), C H → R (f k) H → te (some (.int k) :: ks.map fun k => (σ[k]?).join) H R)
    (q : ∀ D, H D = none → Q (.ref D) (upd H D (.lst (((List.range n).filter p).map f)))) : dS (rN ta) 1 (hR 0) ks tt te σ H Q := by
  have hz' : (n : Int) < 2 ^ 62 := by
    have : sizeLine < 2 ^ 62 := by rw [sizeLine_eq]; decide
    have h2 : n < 2 ^ 62 := by omega
    have e : ((2 ^ 62 : Nat) : Int) = (2 : Int) ^ 62 := by decide
    omega
  refine hl _ ⟨n, rfl, by omega, hz', ?_⟩
  rw [Int.toNat_natCast]
  intro D hD
  have P : ∀ x ∈ (List.range n).map fun k => V.int (k : Nat), ∃ k, k < n ∧ x = .int (k : Nat) := fun x hx => by
    obtain ⟨c, hc, rfl⟩ := List.mem_map.mp hx; exact ⟨c, by simpa using hc, rfl⟩
  let hd : V → Nat := fun v => match v with | .int i => i.toNat | _ => 0
  have hhd : ∀ c : Nat, hd (.int c) = c := fun c => Int.toNat_natCast c
  refine i6 (mw (ut n) C (fun v => p (hd v)) (fun v => f (hd v)) (by simpa using hz) (fun x hx H R c' r => ?_) (fun x hx hb H R c' r => ?_) D hD (fun ys => hC D ys hD) ?_)
  · obtain ⟨c, hc, rfl⟩ := P x hx
    rw [hhd] at r
    exact hp c hc H R c' r
  · obtain ⟨c, hc, rfl⟩ := P x hx
    rw [hhd] at r hb
    exact hf c hc hb H R c' r
  · have e : (((List.range n).map fun k => V.int (k : Nat)).filter fun v => p (hd v)).map (fun v => f (hd v)) = ((List.range n).filter p).map f := by
      rw [List.filter_map, List.map_map]
      have e1 : ((fun v => p (hd v)) ∘ fun k : Nat => V.int (k : Nat)) = p := by funext k; simp only [Function.comp, hhd]
      have e2 : ((fun v => f (hd v)) ∘ fun k : Nat => V.int (k : Nat)) = f := by funext k; simp only [Function.comp, hhd]
      rw [e1, e2]
    rw [e]; exact q D hD
theorem cmT {K : PySem.W.Frag} {tl : TE} {ks : List Nat} {σ : St} {H H1 : Hp} {Q : VK} {tt : TT} {te : TE} (a : Addr) (vs : List V) (C : Hp → Prop) (hC : ∀ D ys, H1 D = none → C (upd H1 D (.lst ys))) (hT : ∀ H, C H → SqT K H a vs) (p : V → Bool) (f : V → V)
    (hl : ∀ R : VK, R (.ref a) H1 → tl σ H R) (h1 : SqT K H1 a vs) (hz : vs.length ≤ sizeLine)
    (hp : ∀ x ∈ vs, ∀ H (R : Bool → Hp → Prop), C H → R (p x) H → tt (some x :: ks.map fun k => (σ[k]?).join) H R) (hf : ∀ x ∈ vs, p x = true → ∀ H (R : VK), C H → R (f x) H → te (some x :: ks.map fun k => (σ[k]?).join) H R)
    (q : ∀ D, H1 D = none → Q (.ref D) (upd H1 D (.lst ((vs.filter p).map f)))) : dS (tN K tl) 1 (hR 0) ks tt te σ H Q :=
  hl _ ⟨a, rfl, ⟨vs, h1⟩, fun D hD => i6 (qm C (u4 hT) p f hz hp hf D hD (fun ys => hC D ys hD) (q D hD))⟩
inductive A2 {α β : Type} (R : α → β → Prop) : List α → List β → Prop
  | nil : A2 R [] []
  | cons {a : α} {b : β} {as : List α} {bs : List β} : R a b → A2 R as bs → A2 R (a :: as) (b :: bs)
namespace A2
variable {α β : Type} {R S : α → β → Prop}
theorem len {as : List α} {bs : List β} (h : A2 R as bs) : as.length = bs.length := by
  induction h with
  | nil => rfl
  | cons _ _ ih => simp [ih]
theorem imp {as : List α} {bs : List β} (h : A2 R as bs) (f : ∀ a b, a ∈ as → b ∈ bs → R a b → S a b) : A2 S as bs := by
  induction h with
  | nil => exact .nil
  | cons r _ ih => exact .cons (f _ _ (.head _) (.head _) r) (ih fun a b ha hb => f a b (.tail _ ha) (.tail _ hb))
theorem at_ {as : List α} {bs : List β} (h : A2 R as bs) : ∀ {i : Nat} {a : α}, as[i]? = some a → ∃ b, bs[i]? = some b ∧ R a b := by
  induction h with
  | nil => intro i a e; simp at e
  | cons r _ ih =>
    intro i a e
    cases i with
    | zero => cases e; exact ⟨_, rfl, r⟩
    | succ i => exact ih (i := i) (by simpa using e)
theorem app {as : List α} {bs : List β} (h : A2 R as bs) {cs : List α} {ds : List β} (g : A2 R cs ds) : A2 R (as ++ cs) (bs ++ ds) := by
  induction h with
  | nil => exact g
  | cons r _ ih => exact .cons r ih
theorem snoc {as : List α} {bs : List β} {a : α} {b : β} (h : A2 R as bs) (r : R a b) : A2 R (as ++ [a]) (bs ++ [b]) := h.app (.cons r .nil)
end A2
def sp6 (f : V → V → V → V → V → V → Hp → VK → XK → Prop) : Sp := fun vs H Q E => match vs with
  | [x, y, z, u, v, a] => f x y z u v a H Q E
  | _ => False
theorem sp6.inv {vs : List V} {H : Hp} {Q : VK} {E : XK} {f} (h : sp6 f vs H Q E) : ∃ x y z u v a, vs = [x, y, z, u, v, a] ∧ f x y z u v a H Q E := by
  unfold sp6 at h
  split at h
  · exact ⟨_, _, _, _, _, _, rfl, h⟩
  · exact h.elim
theorem sp6.len {vs : List V} {H : Hp} {Q : VK} {E : XK} {f} (h : sp6 f vs H Q E) : vs.length = 6 := by obtain ⟨_, _, _, _, _, _, rfl, _⟩ := sp6.inv h; rfl
def sp7 (f : V → V → V → V → V → V → V → Hp → VK → XK → Prop) : Sp := fun vs H Q E => match vs with
  | [x, y, z, u, v, a, b] => f x y z u v a b H Q E
  | _ => False
open Lean Meta Simp
def wM : List Name := wU ++ [`L2.d8, `Option.join]
def xh : List Name := wq ++ [`L2.gCnt, `L2.gSortT, `L2.sp5, `L2.sp6, `L2.sp7]
def zg : Name → Bool
  | .str _ s => s.startsWith "sp_"
  | _ => false
end L2
set_option Elab.async false
set_option linter.all false
set_option maxRecDepth 100000
namespace L2
open PySem PyProof.Rows Builtin Builtin.Str
section
variable {X : Cx}
end
end L2
set_option Elab.async false
set_option linter.all false
set_option maxRecDepth 100000
namespace L2
open PySem PyProof.Rows
section
variable {prog : Program} {w : World} {A : Around} {E : Value → Shared → Prop} {s : Shared} {it d : Addr} {i ep : Nat} {od : Obj} {es : Array DictEntry}
theorem wz {Q : Value → Shared → Prop} (lo : (d == sysModules) = false) (ho : s.heap.get? d = some od) (ex : od.ExactDict) (hd : od.data = .dict es ep)
    (q : Q (.ref s.heap.objs.size) { s with heap := s.heap.push { cls := .type "dict_keyiterator", data := .fields #[.ref d, .int 0 0, .int es.size 0, .int ep 0] } }) : wpAny (model prog w) A (pyIter (.ref d)) Q E s := by
  have ty : s.TypeIs (.ref d) "dict" := ⟨od, ho, ex.1⟩
  refine wpAny_pyIter_slot ty F.slot_dict_iter (wpAny_call_entry F.slot_dict_iter ty F.entry_dict_iter ?_ (F.args_dict_iter_1 _))
  unfold Builtin.«dict.__iter__» Builtin.Dict.dictSlotNone
  refine wpAny_bind (wpAny_bind (wpAny_notOrdered_dict ty ?_)); show wpAny _ _ (pure (Value.ref d)) _ _ s
  refine wpAny_pure ?_; show wpAny _ _ (Builtin.Dict.showsAll d >>= _) _ _ s
  unfold Builtin.Dict.showsAll; rw [if_neg (by rw [lo]; exact Bool.false_ne_true)]
  refine wpAny_bind (wpAny_pure (wpAny_bind (wpAny_dictEntries ho hd (wpAny_bind (wpAny_dictEpoch ho hd ?_)))))
  refine wpAny_bind (wpAny_newObj_type (wpAny_pure ⟨_, rfl, "dict_keyiterator", _, ⟨_, Heap.get?_push_size _ rfl, rfl⟩, F.slot_dict_keyiterator_next.lookup, by simpa [rawInt] using q⟩))
theorem wF {e : DictEntry} {Q : Option Value → Shared → Prop} (hi : s.heap.IsKeyIter it d i es.size ep) (hod : s.heap.get? d = some od) (hdd : od.data = .dict es ep) (hx : es[i]? = some e)
    (q : ∀ h', h'.IsKeyIter it d (i + 1) es.size ep → Heap.SameBut it s.heap h' → Q (some e.key) { s with heap := h' }) : wpAny (model prog w) A (pyNext (.ref it)) Q E s := by
  obtain ⟨o, ho, hc, hd⟩ := id hi
  have ty := hi.typeIs
  unfold pyNext
  refine wpAny_bind (wpAny_attempt (wpAny_callSpecial?_slot (name := Str.ofString "__next__") ty F.slot_dict_keyiterator_next (wpAny_call_entry F.slot_dict_keyiterator_next ty F.entry_dict_keyiterator_next ?_ (F.args_dict_keyiterator_next_1 _))))
  refine wpAny_bind (wpAny_pure (wpAny_bind (wpAny_bind ?_)))
  first | refine wpAny_bind (wpAny_typeNameOfWhole_keyiter ty (wpAny_pure (wpAny_bind (wpAny_fieldsOf ho hd ?_)))) | refine wpAny_bind (wpAny_typeNameOf_keyiter ty (wpAny_pure (wpAny_bind (wpAny_fieldsOf ho hd ?_))))
  simp only [show Builtin.Dict_items.ownsTuple "dict_keyiterator" = false by decide, Bool.false_eq_true, if_false]
  show wpAny _ _ (if (Value.ref d == Value.none) = true then _ else _) _ _ s; rw [if_neg (show ¬ ((Value.ref d == Value.none) = true) from Bool.false_ne_true)]
  refine wpAny_bind (wpAny_pure (wpAny_bind (wpAny_dictEntries hod hdd ?_))); rw [if_neg (by simp)]
  refine wpAny_bind (wpAny_pure (wpAny_bind (wpAny_dictEpoch hod hdd ?_))); rw [if_neg (by simp)]
  refine wpAny_pure ?_
  have lt : i < es.size := (Array.getElem?_eq_some_iff.mp hx).1
  have ee : es[i] = e := (Array.getElem?_eq_some_iff.mp hx).2
  simp only [show ¬ ((i : Int) < 0) from by omega, if_false, Int.toNat_natCast, Array.getElem?_eq_getElem lt]; refine wpAny_bind ?_
  first | refine wpAny_bind (wpAny_typeNameOfWhole_keyiter ty (wpAny_pure (wpAny_bind (wpAny_isOneOf_keyiter ty ?_)))) | refine wpAny_bind (wpAny_typeNameOf_keyiter ty (wpAny_pure (wpAny_bind (wpAny_isOneOf_keyiter ty ?_))))
  show wpAny _ _ (setField (.ref it) 1 (rawInt ((i : Int) + 1)) >>= _) _ _ s; refine wpAny_bind (wpAny_setField ho hd (by simp) ?_)
  have hi' : (s.heap.update it (Obj.mapFields (·.setIfInBounds 1 (rawInt ((i : Int) + 1))))).IsKeyIter it d (i + 1) es.size ep := ⟨_, Heap.get?_update_self _ ho (Obj.isFreed_of_fields (Obj.data_mapFields hd _)), (Obj.cls_mapFields ..).trans hc, by rw [Obj.data_mapFields hd]; simp [rawInt]⟩
  refine wpAny_bind (wpAny_holding (wpAny_bind (wpAny_isOneOf_keyiter (s := { s with heap := s.heap.update it (Obj.mapFields (·.setIfInBounds 1 (rawInt ((i : Int) + 1)))) }) hi'.typeIs ?_)))
  show wpAny _ _ (pure es[i].key) _ _ _; rw [ee]
  exact wpAny_pure (wpAny_pure ⟨_, rfl, wpAny_pure (q _ hi' (Heap.SameBut.update ..))⟩)
theorem yL {Q : Option Value → Shared → Prop} (hh : A.handled = none) (hi : s.heap.IsKeyIter it d i es.size ep) (hod : s.heap.get? d = some od) (hdd : od.data = .dict es ep) (hx : es.size ≤ i)
    (q : ∀ h', Heap.ExtBut it s.heap h' → Q none { s with heap := h' }) : wpAny (model prog w) A (pyNext (.ref it)) Q E s := by
  obtain ⟨o, ho, hc, hd⟩ := id hi
  have ty := hi.typeIs
  unfold pyNext
  refine wpAny_bind (wpAny_attempt (wpAny_callSpecial?_slot (name := Str.ofString "__next__") ty F.slot_dict_keyiterator_next (wpAny_call_entry F.slot_dict_keyiterator_next ty F.entry_dict_keyiterator_next ?_ (F.args_dict_keyiterator_next_1 _))))
  refine wpAny_bind (wpAny_pure (wpAny_bind (wpAny_bind ?_)))
  first | refine wpAny_bind (wpAny_typeNameOfWhole_keyiter ty (wpAny_pure (wpAny_bind (wpAny_fieldsOf ho hd ?_)))) | refine wpAny_bind (wpAny_typeNameOf_keyiter ty (wpAny_pure (wpAny_bind (wpAny_fieldsOf ho hd ?_))))
  simp only [show Builtin.Dict_items.ownsTuple "dict_keyiterator" = false by decide, Bool.false_eq_true, if_false]
  show wpAny _ _ (if (Value.ref d == Value.none) = true then _ else _) _ _ s; rw [if_neg (show ¬ ((Value.ref d == Value.none) = true) from Bool.false_ne_true)]
  refine wpAny_bind (wpAny_pure (wpAny_bind (wpAny_dictEntries hod hdd ?_))); rw [if_neg (by simp)]
  refine wpAny_bind (wpAny_pure (wpAny_bind (wpAny_dictEpoch hod hdd ?_))); rw [if_neg (by simp)]
  refine wpAny_pure ?_
  simp only [show ¬ ((i : Int) < 0) from by omega, if_false, Int.toNat_natCast, Array.getElem?_eq_none hx]; refine wpAny_bind ?_
  first | refine wpAny_bind (wpAny_typeNameOfWhole_keyiter ty (wpAny_pure ?_)) | refine wpAny_bind (wpAny_typeNameOf_keyiter ty (wpAny_pure ?_))
  show wpAny _ _ (setField (.ref it) 0 .none >>= _) _ _ s; refine wpAny_bind (wpAny_setField ho hd (by simp) ?_)
  show wpAny _ _ (newExc (.type "StopIteration") [] >>= _) _ _ _; refine wpAny_bind ?_
  simp only [newExc, newTuple]; refine wpAny_bind (wpAny_newObj_type ?_ (by size_fits))
  refine wpAny_bind (m := firstArgMember _ _) (wpAny_of_eq (a := Value.none) (by first | rfl | (simp only [firstArgMember]; rfl)) (wpAny_newObj_type ?_ (by size_fits)))
  simp only [raiseNew]; refine wpAny_bind (wpAny_handled ?_)
  rw [show A.in1.handled = none from hh]; refine wpAny_bind (wpAny_pure (wpAny_throw ?_))
  refine wpAny_bind (wpAny_isInstance (T := "StopIteration") (b := true) ⟨_, Heap.get?_push_size _ rfl, rfl⟩ isSubtype_stop (wpAny_pure (q _ (((Heap.SameBut.update ..).extBut.push _).push _))))
end
theorem tW {α : Type} {p q : α → Bool} (h : ∀ e, p e = true → q e = true) : ∀ {l : List α} {u : α}, u ∈ l → q u = true → p u = false → l.countP p < l.countP q
  | x :: r, u, m, hq, hp => by
    rw [List.countP_cons, List.countP_cons]
    have le : r.countP p ≤ r.countP q := List.countP_mono_left fun e _ => h e
    rcases List.mem_cons.mp m with rfl | m
    · rw [if_pos hq, if_neg (by rw [hp]; decide)]; omega
    · have := tW h m hq hp
      by_cases c : p x = true
      · rw [if_pos c, if_pos (h x c)]; omega
      · rw [if_neg c]; split <;> omega
abbrev Pt := List Nat × List Nat
def ltP (a b : Pt) : Prop := a.1 < b.1 ∨ (a.1 = b.1 ∧ a.2 < b.2)
instance (a b : Pt) : Decidable (ltP a b) := by unfold ltP; infer_instance
theorem jW (a b : List Nat) : a < b ∨ a = b ∨ b < a := by
  by_cases h : a < b
  · exact .inl h
  · by_cases g : b < a
    · exact .inr (.inr g)
    · exact .inr (.inl (List.le_antisymm (List.not_lt.mp g) (List.not_lt.mp h)))
namespace Srt
def Bd (h : Heap) (p : Addr) (e : Pt) : Prop := ∃ (o : Obj) (t u : Tok) (n : Nat), h.get? p = some o ∧ o.cls = .type "tuple" ∧ o.data = .seq #[.str ⟨⟨e.1⟩⟩ t, .str ⟨⟨e.2⟩⟩ u] n
section
variable {prog : Program} {w : World} {A : Around} {E : Value → Shared → Prop} {s : Shared}
end
end Srt
section
variable {X : Cx} {pins : List (Addr × Obj)} {σ : St} {H : Hp} {s : Shared}
abbrev kP (e : Pt) : List Key := [.inr ⟨⟨e.1⟩⟩, .inr ⟨⟨e.2⟩⟩]
theorem nG {a b : Pt} (h : kP a = kP b) : a = b := by
  obtain ⟨a1, a2⟩ := a
  obtain ⟨b1, b2⟩ := b
  simp only [kP, List.cons.injEq, and_true] at h
  obtain ⟨h1, h2⟩ := h
  injection h1 with h1; injection h1 with h1; injection h1 with h1
  injection h2 with h2; injection h2 with h2; injection h2 with h2
  rw [h1, h2]
end
def CEl (J : It) (n : Nat) (g : TG) (ks : List Nat) (tt : TT) (te : TE) (σ : St) (H1 : Hp) (Q : VK) : Prop := ∀ D, H1 D = none → ∃ W : Nat → Nat → List V → Hp → Prop, (∃ m, W 0 m [] (upd H1 D (.lst []))) ∧
  ∀ i m ys H2, W i m ys H2 → H2 D = some (.lst ys) ∧ ((J.stop i H2 ∧ Q (.ref D) H2) ∨ (J.go i H2 ∧ ∀ x H3, J.yld i H2 x H3 → ∀ zs : St, zs.length = n →
    g x (zs ++ ks.map fun k => (σ[k]?).join) H3 fun σ4 H4 => (∃ zs4 : St, zs4.length = n ∧ σ4 = zs4 ++ ks.map fun k => (σ[k]?).join) ∧
      tt σ4 H4 fun b H5 => if b = true then te σ4 H5 fun y H6 => H6 D = some (.lst ys) ∧ ys.length < sizeLine ∧ ∃ m', m' < m ∧ W (i + 1) m' (ys ++ [y]) (upd H6 D (.lst (ys ++ [y])))
        else ∃ m', m' < m ∧ W (i + 1) m' ys H5))
theorem xD {K : PySem.W.Frag} {tl : TE} {n : Nat} {g : TG} {ks : List Nat} {tt : TT} {te : TE} {σ : St} {H : Hp} {Q : VK} (h : tl σ H fun x H1 => ∃ a, x = .ref a ∧ (∃ xs, SqL K H1 a xs) ∧ CEl (Itl K a) n g ks tt te σ H1 Q) : dS (mK K tl) n g ks tt te σ H Q := h
theorem xH {K : PySem.W.Frag} {n : Nat} {g : TG} {ks : List Nat} {tt : TT} {te : TE} {σ : St} {H1 : Hp} {Q : VK} (a : Addr) (xs : List V) (P : Addr → Nat → List V → Hp → Prop) (hz : xs.length < sizeLine)
    (h0 : ∀ D, H1 D = none → P D 0 [] (upd H1 D (.lst []))) (hD : ∀ D i ys H', P D i ys H' → H' D = some (.lst ys) ∧ SqL K H' a xs ∧ ys.length ≤ i)
    (hs : ∀ D i y ys H' (zs : St) (N1 : VK) (N0 : Hp → Prop), xs[i]? = some y → P D i ys H' → zs.length = n → (∀ v H6, H6 D = some (.lst ys) → P D (i + 1) (ys ++ [v]) (upd H6 D (.lst (ys ++ [v]))) → N1 v H6) → (∀ H6, P D (i + 1) ys H6 → N0 H6) →
      g y (zs ++ ks.map fun k => (σ[k]?).join) H' fun σ4 H4 => (∃ zs4 : St, zs4.length = n ∧ σ4 = zs4 ++ ks.map fun k => (σ[k]?).join) ∧ tt σ4 H4 fun b H5 => if b = true then te σ4 H5 N1 else N0 H5)
    (hd : ∀ D ys H', P D xs.length ys H' → Q (.ref D) H') : CEl (Itl K a) n g ks tt te σ H1 Q := by
  intro D hDn
  refine ⟨fun i m ys H' => m = xs.length - i ∧ i ≤ xs.length ∧ P D i ys H', ⟨_, rfl, Nat.zero_le _, h0 D hDn⟩, ?_⟩
  rintro i m ys H' ⟨rfl, hi, p⟩
  obtain ⟨d1, d2, d3⟩ := hD D i ys H' p
  refine ⟨d1, ?_⟩
  rcases Nat.lt_or_ge i xs.length with lt | ge
  · refine .inr ⟨⟨xs, xs[i], d2, by simp [lt]⟩, ?_⟩
    rintro x H3 ⟨rfl, hx⟩ zs hzs
    exact hs D i x ys _ zs _ _ (hx xs d2) p hzs (fun v H6 h6 p6 => ⟨h6, by omega, _, by omega, rfl, lt, p6⟩) fun H6 p6 => ⟨_, by omega, rfl, lt, p6⟩
  · obtain rfl : i = xs.length := Nat.le_antisymm hi ge
    exact .inl ⟨⟨xs, d2, Nat.le_refl _⟩, hd D ys H' p⟩
section
variable {X : Cx} {pos : Pos}
end
open Lean Meta Simp
def wZ : List Name := wM ++ [`L2.u_, `L2.rExtT, `L2.tPar3]
def wT : List Name := xh ++ [`L2.gSortDT, `L2.gRp]
end L2
set_option Elab.async false
set_option linter.all false
set_option maxRecDepth 100000
namespace L2
open PySem PyProof.Rows
theorem pX {H : Hp} {a : Addr} {o : HO} (h : H a = some o) : upd H a o = H := by
  funext b
  by_cases e : b = a
  · subst e; rw [ac, h]
  · rw [af e]
def isD : HO → Bool
  | .dK _ => true
  | .dT _ => true
  | _ => false
def eO : HO → Nat
  | .dK kvs => kvs.length
  | .dT kvs => kvs.length
  | _ => 0
def l_ (H : Hp) (u : HO) (i : Nat) (x v : V) : Prop := match u with
  | .dK kvs => ∃ k, kvs[i]? = some (k, v) ∧ x = kV k
  | .dT kvs => ∃ k q, kvs[i]? = some (k, v) ∧ x = .ref q ∧ H q = some (.tup (k.map kV))
  | _ => False
theorem wm {P : Program} {w : World} {k : Key} {u : Value} (h : (b7 P w).is k u = true) : RelV (kV k) u := by
  cases k with
  | inl i => obtain ⟨t, z⟩ := Value.isInt_shape h; exact ⟨t, z⟩
  | inr x => obtain ⟨t, z⟩ := Value.isStrOf_shape h; exact ⟨t, z⟩
theorem xV {α β : Type} {R : α → β → Prop} {xs : List α} {ys : List β} (h : Paired R xs ys) : ∀ {i : Nat} {y : β}, ys[i]? = some y → ∃ x, xs[i]? = some x ∧ R x y := by
  induction h with
  | nil => intro i y e; simp at e
  | cons r _ ih =>
    intro i y e
    cases i with
    | zero => cases e; exact ⟨_, rfl, r⟩
    | succ i => exact ih (i := i) (by simpa using e)
section
variable {X : Cx} {pins : List (Addr × Obj)} {σ : St} {H : Hp} {s : Shared} {a : Addr}
theorem sI (I : Inv X pins σ H s) {u : HO} (hu : isD u = true) (x : ObjOk X.prog X.w H s.heap a u) : ∃ (o : Obj) (es : Array DictEntry) (ep : Nat), s.heap.get? a = some o ∧ o.ExactDict ∧ o.data = .dict es ep ∧ (a == sysModules) = false ∧ es.size = eO u ∧
    ∀ i e, es[i]? = some e → ∃ x v, l_ H u i x v ∧ RelV x e.key ∧ RelV v e.val := by
  cases u with
  | dK kvs =>
    obtain ⟨z, lo, vs, rel, o, es, ep, ho, ex, hd, hk, hp, hn⟩ := x
    have hl : es.size = vs.length := by rw [← hp.length]; simp
    refine ⟨o, es, ep, ho, ex, hd, lo, by rw [hl]; exact rel.length.symm, fun i e he => ?_⟩
    have hi : i < vs.length := by rw [← hl]; exact (Array.getElem?_eq_some_iff.mp he).1
    obtain ⟨p1, p2⟩ := hp.get? (e := e) (k := vs[i].1) (v := vs[i].2) (by rw [Array.getElem?_toList]; exact he) (by simp [hi])
    obtain ⟨⟨k, v⟩, hx, e1, e2⟩ := xV rel (y := vs[i]) (List.getElem?_eq_getElem hi)
    have e1' : k = vs[i].1 := e1
    refine ⟨kV k, v, ⟨k, hx, rfl⟩, by rw [e1']; exact wm p1, by rw [p2]; exact e2⟩
  | dT kvs =>
    obtain ⟨z, lo, xs, rel, o, es, ep, ho, ex, hd, he, hn⟩ := x
    have hl : es.size = xs.length := size_of_entries he
    refine ⟨o, es, ep, ho, ex, hd, lo, by rw [hl]; exact (Paired.length rel).symm, fun i e h => ?_⟩
    rw [entry_at he i] at h
    obtain ⟨q, hq, rfl⟩ := Option.map_eq_some_iff.mp h
    obtain ⟨⟨k, v⟩, hx, e1, e2, e3⟩ := xV rel hq
    exact ⟨.ref q.2.1, v, ⟨k, q.2.1, hx, rfl, e2⟩, rfl, e3⟩
  | _ => cases hu
theorem Inv.freeze (I : Inv X pins σ H s) {u : HO} (hu : isD u = true) (e : Rd H a u) : ∃ (o : Obj) (es : Array DictEntry) (ep : Nat), s.heap.get? a = some o ∧ o.ExactDict ∧ o.data = .dict es ep ∧ (a == sysModules) = false ∧ es.size = eO u ∧ (H a = some u ∨ H a = some (.frz o u)) ∧ Inv X pins σ (upd H a (.frz o u)) s := by
  have x := uI I.hok e
  obtain ⟨o, es, ep, ho, ex, hd, lo, hz, _⟩ := sI I hu x
  rcases e with e | ⟨o', e⟩
  · refine ⟨o, es, ep, ho, ex, hd, lo, hz, .inl e, ?_⟩
    have no : ∀ b w, H b = some w → isD w = false → b ≠ a := fun b w q n z => by rw [z, e] at q; cases q; rw [hu] at n; cases n
    exact I.write (x := a) (e := a) (t' := s.toks) (h' := s.heap) (by rw [e]; cases u <;> first | exact True.intro | cases hu) (.inl rfl) (fun _ _ _ q => q) ⟨o, ho⟩ ⟨ho, x.stay (fun _ _ _ q => q) (fun c z => by rw [af (no c _ z rfl)]; exact z) fun c xs z => by rw [af (no c _ z rfl)]; exact z⟩
  · have h1 := (show ObjOk X.prog X.w H s.heap a (.frz o' u) from I.hok a _ e).1
    rw [ho] at h1; cases h1
    refine ⟨o, es, ep, ho, ex, hd, lo, hz, .inr e, ?_⟩
    rw [pX e]; exact I
theorem Inv.thaw (I : Inv X pins σ H s) {o : Obj} {u : HO} (e : H a = some (.frz o u)) (nf : ∀ o' u', X.H₀ a ≠ some (.frz o' u')) : Inv X pins σ (upd H a u) s := by
  have na : ∀ b, H b = none → b ≠ a := fun b n z => by rw [z, e] at n; cases n
  have no : ∀ b w, H b = some w → (∀ o x, w ≠ .frz o x) → b ≠ a := fun b w q n z => by rw [z, e] at q; cases q; exact n _ _ rfl
  have own : ∀ {d : Addr} c, H c = some (.own d) → upd H a u c = some (.own d) := fun c z => by rw [af (no c _ z (by intro _ _ y; cases y))]; exact z
  have tup : ∀ c xs, H c = some (.tup xs) → upd H a u c = some (.tup xs) := fun c xs z => by rw [af (no c _ z (by intro _ _ y; cases y))]; exact z
  refine ⟨I.ok, I.os, I.bare, ⟨I.base.keep, I.base.slot, fun b ob q n hx => ?_, I.base.there, fun b xs q => tup b xs (I.base.tups b xs q), fun b ob x q => ?_, fun b ps q => ?_⟩, I.loc, I.cell, ?_, fun x c ec => ?_, fun p hp => ?_, fun b ob q => ?_, I.len⟩
  · have h := I.base.free b ob q n hx
    rw [af (na b h)]; exact h
  · have h := I.base.frzs b ob x q
    by_cases eb : b = a
    · subst eb; exact absurd q (nf _ _)
    · rw [af eb]; exact h
  · obtain ⟨m, h⟩ := I.base.tbls b ps q
    exact ⟨m, by rw [af (no b _ h (by intro _ _ z; cases z))]; exact h⟩
  · rw [af (na _ I.free)]; exact I.free
  · have h := I.freeC x c ec
    rw [af (na _ h)]; exact h
  · obtain ⟨p1, p2, p3⟩ := I.pin p hp
    exact ⟨p1, by rw [af (na _ p2)]; exact p2, p3⟩
  · by_cases eb : b = a
    · subst eb
      rw [ac] at q; cases q
      exact (show ObjOk X.prog X.w H s.heap b (.frz o u) from I.hok _ _ e).2.stay (fun _ _ _ z => z) own tup
    · rw [af eb] at q
      exact (I.hok b ob q).stay (fun _ _ _ z => z) own tup
def Th (H H1 : Hp) (P : Hp → Prop) : Prop := ∃ a o u, H1 a = some (.frz o u) ∧ ((H a = some u ∧ isD u = true ∧ P (upd H1 a u)) ∨ (H a = some (.frz o u) ∧ P H1))
theorem Inv.th {H1 : Hp} {s1 : Shared} {σ1 : St} {P : Hp → Prop} (I : Inv X pins σ H s) (I1 : Inv X pins σ1 H1 s1) (h : Th H H1 P) : ∃ H2, Inv X pins σ1 H2 s1 ∧ P H2 := by
  obtain ⟨a, o, u, e1, ⟨e2, hu, q⟩ | ⟨e2, q⟩⟩ := h
  · exact ⟨_, I1.thaw e1 (fun o' u' z => by rw [I.base.frzs _ _ _ z] at e2; cases e2; cases hu), q⟩
  · exact ⟨_, I1, q⟩
def sw (te : TE) : TE := fun σ H Q => te σ H fun v H1 => Th H H1 (Q v)
theorem v5 {e : Expr} {te : TE} (he : PE X e te) : PE X e (sw te) := by
  intro pins s σ H Q I h
  refine thn (he pins s σ H _ I h) fun u s1 ⟨v, H1, I1, r, q⟩ => ?_
  obtain ⟨H2, I2, q2⟩ := I.th I1 q
  exact ⟨v, H2, I2, r, q2⟩
def uL (ts : TS) : TS := fun D σ H => ts { nx := fun σ' H1 => Th H H1 (D.nx σ'), rt := fun v H1 => Th H H1 (D.rt v), bk := fun σ' H1 => Th H H1 (D.bk σ'), ct := fun σ' H1 => Th H H1 (D.ct σ') } σ H
theorem j0 {st : Stmt} {ts : TS} (h : PS X st ts) : PS X st (uL ts) := by
  intro pins s σ H D I q
  refine thn (h pins s σ H _ I q) fun f s1 hf => ?_
  cases f with
  | next =>
    obtain ⟨σ', H', I', z⟩ := hf
    obtain ⟨H2, I2, q2⟩ := I.th I' z
    exact ⟨σ', H2, I2, q2⟩
  | brk =>
    obtain ⟨σ', H', I', z⟩ := hf
    obtain ⟨H2, I2, q2⟩ := I.th I' z
    exact ⟨σ', H2, I2, q2⟩
  | cont =>
    obtain ⟨σ', H', I', z⟩ := hf
    obtain ⟨H2, I2, q2⟩ := I.th I' z
    exact ⟨σ', H2, I2, q2⟩
  | ret u =>
    obtain ⟨v, σ', H', I', r, z⟩ := hf
    obtain ⟨H2, I2, q2⟩ := I.th I' z
    exact ⟨v, σ', H2, I2, r, q2⟩
def Itk (a : Addr) (o : Obj) (u : HO) : It :=
  ⟨fun i H => i < eO u ∧ H a = some (.frz o u), fun i H x H' => H' = H ∧ ∃ v, l_ H u i x v, fun i H => eO u ≤ i ∧ H a = some (.frz o u)⟩
theorem m8 (I : Inv X pins σ H s) {o : Obj} {es : Array DictEntry} {ep : Nat} {u : HO} (hu : isD u = true) (hd : o.data = .dict es ep) (e : H a = some (.frz o u)) : s.heap.get? a = some o ∧ es.size = eO u ∧ ∀ i e, es[i]? = some e → ∃ x v, l_ H u i x v ∧ RelV x e.key ∧ RelV v e.val := by
  obtain ⟨ho, x⟩ := (show ObjOk X.prog X.w H s.heap a (.frz o u) from I.hok a _ e)
  obtain ⟨o', es', ep', ho', ex, hd', lo, hz, h⟩ := sI I hu x
  rw [ho] at ho'; cases ho'
  rw [hd] at hd'
  injection hd' with h2 h3
  subst h2
  exact ⟨ho, hz, h⟩
theorem tz {P : Program} {w : World} {K : PySem.W.Frag} {tg : Expr} (a it : Addr) (o : Obj) (es : Array DictEntry) (ep : Nat) (u : HO) (hu : isD u = true) (hd : o.data = .dict es ep) : ph P w K tg (Itk a o u) [it] it (fun i h => h.IsKeyIter it a i es.size ep) where
  mem := by simp
  obj := fun i h st b hb => by
    have e : b = it := by simpa using hb
    subst e
    obtain ⟨o, e, c, d⟩ := st
    exact ⟨o, e, fun v z => by rw [d] at z; cases z⟩
  keep := fun i h h' st k => st.at fun o e => k it (by simp) o e
  item := by
    intro X hP hw hK hc i pins s σ H E I hf st hg
    subst hP hw hK
    obtain ⟨hi, hq⟩ := hg
    obtain ⟨ho, hz, hen⟩ := m8 I hu hd hq
    obtain ⟨f0, f1, f2, f3, f4, f5⟩ := hf it (by simp)
    have hx : es[i]? = some es[i] := by simp [show i < es.size by omega]
    obtain ⟨x, v, en, rx, rv⟩ := hen i _ hx
    refine wF st ho hd hx fun h' st' sb => ?_
    have I1 : Inv X pins σ H { s with heap := h' } := I.turned (t' := s.toks) (fun b o hb e => (sb.2 b hb).trans e) f0 f1 f3 f4 f5
    obtain ⟨oi, e, c, d⟩ := id st'
    exact ⟨_, rfl, jx (s := { s with heap := h' }) e c d (by decide) ⟨x, H, I1, rx, ⟨rfl, v, en⟩, st', fun b hb => (hf b hb).1⟩⟩
  done := by
    intro X hP hw hK hc i pins s σ H E I hf st hg
    subst hP hw hK
    obtain ⟨hi, hq⟩ := hg
    obtain ⟨ho, hz, hen⟩ := m8 I hu hd hq
    obtain ⟨f0, f1, f2, f3, f4, f5⟩ := hf it (by simp)
    exact yL (I.ok.hd hc) st ho hd (by omega) fun h' eb => ⟨rfl, I.turned (t' := s.toks) (fun b o hb e => eb b o hb e) f0 f1 f3 f4 f5⟩
  self := fun _ _ _ _ _ st h => wpAny_pyIter_keyiter st h
def pV (td : TE) : TI := fun σ H R => td σ H fun x H1 => ∃ b u, x = .ref b ∧ isD u = true ∧ Rd H1 b u ∧ ∀ o, (H1 b = some u ∨ H1 b = some (.frz o u)) → R (Itk b o u) (upd H1 b (.frz o u))
theorem nK {tg l : Expr} {td : TE} (hl : PE X l td) : PI X tg l (pV td) := by
  intro pins s σ H R I h
  refine thn (hl pins s σ H _ I h) fun v s1 ⟨x, H1, I1, rx, b, u, ex, hu, hr, q⟩ => ?_
  subst ex
  cases (show v = Value.ref b from rx)
  obtain ⟨o, es, ep, ho, ex, hd, lo, hz, hor, I2⟩ := I1.freeze hu hr
  refine wz lo ho ex hd ?_
  refine ⟨s1.heap.objs.size, [s1.heap.objs.size], _, Itk b o u, _, rfl, I2.kept (t' := s1.toks) (fun c ob e => Heap.get?_push_of_some _ e), tz b _ o es ep u hu hd, ⟨_, Heap.get?_push_size _ rfl, rfl, rfl⟩, fun c hc => ?_, q o hor⟩
  rw [List.mem_singleton.mp hc]
  exact I2.fpOk (Nat.le_refl _) (I2.hok.fresh (Nat.le_refl _))
end
theorem xO {td : TE} {n : Nat} {g : TG} {ks : List Nat} {tt : TT} {te : TE} {σ : St} {H : Hp} {Q : VK} (h : td σ H fun x H1 => ∃ b u, x = .ref b ∧ isD u = true ∧ Rd H1 b u ∧ ∀ o, (H1 b = some u ∨ H1 b = some (.frz o u)) → CEl (Itk b o u) n g ks tt te σ (upd H1 b (.frz o u)) fun v H2 => Th H H2 (Q v)) : sw (dS (pV td) n g ks tt te) σ H Q := h
theorem xI {n : Nat} {g : TG} {ks : List Nat} {tt : TT} {te : TE} {σ : St} {H1 : Hp} {Q : VK} (b : Addr) (o : Obj) (u : HO) (P : Addr → Nat → List V → Hp → Prop) (hz : eO u < sizeLine)
    (h0 : ∀ D, H1 D = none → P D 0 [] (upd H1 D (.lst []))) (hD : ∀ D i ys H', P D i ys H' → H' D = some (.lst ys) ∧ H' b = some (.frz o u) ∧ ys.length ≤ i)
    (hs : ∀ D i y v ys H' (zs : St) (N1 : VK) (N0 : Hp → Prop), i < eO u → l_ H' u i y v → P D i ys H' → zs.length = n → (∀ v H6, H6 D = some (.lst ys) → P D (i + 1) (ys ++ [v]) (upd H6 D (.lst (ys ++ [v]))) → N1 v H6) → (∀ H6, P D (i + 1) ys H6 → N0 H6) →
      g y (zs ++ ks.map fun k => (σ[k]?).join) H' fun σ4 H4 => (∃ zs4 : St, zs4.length = n ∧ σ4 = zs4 ++ ks.map fun k => (σ[k]?).join) ∧ tt σ4 H4 fun b H5 => if b = true then te σ4 H5 N1 else N0 H5)
    (hd : ∀ D ys H', P D (eO u) ys H' → Q (.ref D) H') : CEl (Itk b o u) n g ks tt te σ H1 Q := by
  intro D hDn
  refine ⟨fun i m ys H' => m = eO u - i ∧ i ≤ eO u ∧ P D i ys H', ⟨_, rfl, Nat.zero_le _, h0 D hDn⟩, ?_⟩
  rintro i m ys H' ⟨rfl, hi, p⟩
  obtain ⟨d1, d2, d3⟩ := hD D i ys H' p
  refine ⟨d1, ?_⟩
  rcases Nat.lt_or_ge i (eO u) with lt | ge
  · refine .inr ⟨⟨lt, d2⟩, ?_⟩
    rintro x H3 ⟨rfl, v, hx⟩ zs hzs
    exact hs D i x v ys _ zs _ _ lt hx p hzs (fun v H6 h6 p6 => ⟨h6, by omega, _, by omega, rfl, lt, p6⟩) fun H6 p6 => ⟨_, by omega, rfl, lt, p6⟩
  · obtain rfl : i = eO u := Nat.le_antisymm hi ge
    exact .inl ⟨⟨Nat.le_refl _, d2⟩, hd D ys H' p⟩
theorem cmK {td : TE} {ks : List Nat} {tt : TT} {te : TE} {σ : St} {H : Hp} {Q : VK} (b : Addr) (kvs : List (Key × V)) (p : V → Bool) (f : V → V) (hl : ∀ R : VK, R (.ref b) H → td σ H R) (hr : Rd H b (.dK kvs)) (hz : kvs.length < sizeLine)
    (hp : ∀ x ∈ kvs.map (fun e => kV e.1), ∀ D ys o (R : Bool → Hp → Prop), H D = none → D ≠ b → R (p x) (upd (upd H b (.frz o (.dK kvs))) D (.lst ys)) → tt (some x :: ks.map fun k => (σ[k]?).join) (upd (upd H b (.frz o (.dK kvs))) D (.lst ys)) R)
    (hf : ∀ x ∈ kvs.map (fun e => kV e.1), p x = true → ∀ D ys o (R : VK), H D = none → D ≠ b → R (f x) (upd (upd H b (.frz o (.dK kvs))) D (.lst ys)) → te (some x :: ks.map fun k => (σ[k]?).join) (upd (upd H b (.frz o (.dK kvs))) D (.lst ys)) R)
    (q : ∀ D, H D = none → Q (.ref D) (upd H D (.lst (((kvs.map fun e => kV e.1).filter p).map f)))) : sw (dS (pV td) 1 (hR 0) ks tt te) σ H Q := by
  have hb : ∃ u, H b = some u := by rcases hr with e | ⟨o, e⟩ <;> exact ⟨_, e⟩
  obtain ⟨u, hb⟩ := hb
  refine xO (hl _ ⟨b, .dK kvs, rfl, rfl, hr, fun o hor => xI b o (.dK kvs) (fun D i ys G => G = upd (upd H b (.frz o (.dK kvs))) D (.lst ys) ∧ H D = none ∧ ys = (((kvs.map fun e => kV e.1).take i).filter p).map f) hz (fun D hD => ⟨rfl, ?_, by simp⟩) ?_ ?_ ?_⟩)
  · have nb : D ≠ b := fun z => by rw [z, ac] at hD; cases hD
    rwa [af nb] at hD
  · rintro D i ys G ⟨rfl, hD, rfl⟩
    have nb : b ≠ D := ak hb hD
    refine ⟨ac, (af nb).trans ac, ?_⟩
    rw [List.length_map]
    exact Nat.le_trans (List.length_filter_le _ _) (by rw [List.length_take]; omega)
  · rintro D i y vv ys G zs N1 N0 hi ⟨kk, hk, rfl⟩ ⟨rfl, hD, rfl⟩ hzs n1 n0
    have hy : (kvs.map fun e => kV e.1)[i]? = some (kV kk) := by rw [List.getElem?_map, hk]; rfl
    generalize kV kk = y at hy
    obtain ⟨z, rfl⟩ := ex1 hzs
    have nb : D ≠ b := Ne.symm (ak hb hD)
    have my := List.mem_of_getElem? hy
    have et : (kvs.map fun e => kV e.1).take (i + 1) = (kvs.map fun e => kV e.1).take i ++ [y] := by rw [List.take_succ, hy]; rfl
    rw [et, List.filter_append] at n1 n0
    refine ⟨⟨[some y], rfl, rfl⟩, hp y my D _ o _ hD nb ?_⟩
    cases py : p y with
    | true =>
      rw [if_pos rfl]
      refine hf y my py D _ o _ hD nb (n1 _ _ ac ⟨sM, hD, ?_⟩)
      rw [List.filter_cons_of_pos py, List.map_append]; rfl
    | false =>
      rw [if_neg (by decide)]
      refine n0 _ ⟨rfl, hD, ?_⟩
      rw [List.filter_cons_of_neg (by rw [py]; decide), List.filter_nil, List.append_nil]
  · rintro D ys G ⟨rfl, hD, rfl⟩
    rw [show eO (.dK kvs) = kvs.length from rfl, List.take_of_length_le (by rw [List.length_map]; exact Nat.le_refl _)]
    have nb : b ≠ D := ak hb hD
    have q1 := q D hD
    refine ⟨b, o, .dK kvs, (af nb).trans ac, ?_⟩
    have e1 : ∀ w z, upd (upd (upd H b w) D z) b u = upd H D z := fun w z => by
      funext c
      by_cases h1 : c = b
      · subst h1; rw [ac, af nb, hb]
      · rw [af h1]
        by_cases h2 : c = D
        · subst h2; rw [ac, ac]
        · rw [af h2, af h1, af h2]
    rcases hor with e | e
    · refine .inl ⟨e, rfl, ?_⟩
      rw [hb] at e; cases e
      rw [e1]; exact q1
    · refine .inr ⟨e, ?_⟩
      rw [pX e]; exact q1
section
variable {X : Cx} {pos : Pos}
end
section
variable {X : Cx}
def sS : Value → Bool
  | .bool b => b
  | _ => false
def xw (K : PySem.W.Frag) : V → List V → Hp → VK → Prop := fun x vs H Q => ∃ (p : Addr) (bs : List Bool), x = .ref p ∧ vs = [.bl true] ∧ SqL K H p (bs.map V.bl) ∧ Q (.int (bs.countP id : Nat)) H
theorem kC {A : Around} {s : Shared} {bs : List Bool} {its : List Value} (r : Vals (bs.map V.bl) its) : ∀ y, y ∈ its.toArray → SeqAt.EqAt A s y (.bool true) (sS y) := fun y hy => by
  obtain ⟨j, hj⟩ := List.getElem?_of_mem (by simpa using hy)
  obtain ⟨b, _, rfl⟩ := (j_ r).get j y hj
  have := SeqAt.EqAt.bool_bool (A := A) (s := s) b true
  rwa [show (b == true) = sS (.bool b) by cases b <;> rfl] at this
theorem pB : ∀ {bs : List Bool} {its : List Value}, Vals (bs.map V.bl) its → its.countP sS = bs.countP id
  | [], _, .nil => rfl
  | b :: r, _, .cons e t => by
    cases (show _ = Value.bool b from e)
    rw [List.countP_cons, List.countP_cons, pB t]; rfl
theorem wb (K : PySem.W.Frag) (hK : X.K = K := by rfl) : MtM X "list.count" (xw K) := by
  subst hK
  intro pins s σ H x vs v us Q I rx rv h
  obtain ⟨p, bs, rfl, rfl, hq, q⟩ := h
  cases rx
  obtain ⟨u, rfl, ru⟩ := rv.one
  cases (show u = Value.bool true from ru)
  obtain ⟨its, r, pl, hz⟩ := I.list hq
  obtain ⟨⟨oc, od, ot, os⟩, e, c, n, d⟩ := pl.isList
  simp only at c d
  subst c; subst d
  refine call_meets F.slot_list_count ⟨_, e, rfl⟩ F.entry_list_count (F.args_list_count_2 _ _) (SeqAt.list_countAt p its.toArray n od os (.bool true) sS) ⟨e, kC r, ?_⟩
  exact ⟨.int _, H, I.tok _, ⟨_, by rw [List.toList_toArray, pB r]⟩, q⟩
def xx (K : PySem.W.Frag) : V → List V → Hp → VK → Prop := fun x vs H Q => ∃ (p : Addr) (bs : List Bool) (j : Nat), x = .ref p ∧ vs = [.bl true] ∧ SqL K H p (bs.map V.bl) ∧ bs[j]? = some true ∧ (∀ i, i < j → bs[i]? = some false) ∧ Q (.int j) H
theorem oA : ∀ {bs : List Bool} {its : List Value}, Vals (bs.map V.bl) its → ∀ {j : Nat} {b : Bool}, bs[j]? = some b → ∃ h : j < its.length, sS its[j] = b
  | [], _, .nil, j, b, h => by simp at h
  | c :: r, _, .cons e t, j, b, h => by
    cases (show _ = Value.bool c from e)
    cases j with
    | zero => cases h; exact ⟨by simp, rfl⟩
    | succ j =>
      obtain ⟨h1, h2⟩ := oA t (j := j) (by simpa using h)
      exact ⟨by simp; omega, by simpa using h2⟩
theorem wy (K : PySem.W.Frag) (hK : X.K = K := by rfl) : MtM X "list.index" (xx K) := by
  subst hK
  intro pins s σ H x vs v us Q I rx rv h
  obtain ⟨p, bs, j, rfl, rfl, hq, hj, hi, q⟩ := h
  cases rx
  obtain ⟨u, rfl, ru⟩ := rv.one
  cases (show u = Value.bool true from ru)
  obtain ⟨its, r, pl, hz⟩ := I.list hq
  obtain ⟨⟨oc, od, ot, os⟩, e, c, n, d⟩ := pl.isList
  simp only at c d
  subst c; subst d
  obtain ⟨jl, jt⟩ := oA r hj
  have hl := r.length
  refine call_meets F.slot_list_index ⟨_, e, rfl⟩ F.entry_list_index (F.args_list_index_2 _ _) (SeqAt.list_indexAt p its.toArray n od os (.bool true) sS j (by simpa using jl) (by have : sizeLine < 2 ^ 62 := (by rw [sizeLine_eq]; decide); omega) (by simpa using jt) fun m hm lt => ?_) ⟨e, kC r, ?_⟩
  · obtain ⟨_, h2⟩ := oA r (hi m lt)
    simpa using h2
  · exact ⟨.int _, H, I.tok _, ⟨_, rfl⟩, q⟩
end
end L2
set_option Elab.async false
set_option linter.all false
set_option maxRecDepth 100000
namespace L2
open PySem PyProof.Rows
section
variable {prog : Program} {w : World} {A : Around} {E : Value → Shared → Prop} {s : Shared} {it d : Addr} {i ep : Nat} {od : Obj} {es : Array DictEntry}
theorem ua {Q : Value → Shared → Prop} (lo : (d == sysModules) = false) (ho : s.heap.get? d = some od) (ex : od.ExactDict)
    (q : Q (.ref s.heap.objs.size) { s with heap := s.heap.push { cls := .type "dict_items", data := .fields #[.ref d] } }) : wpAny (model prog w) A (call (.builtin "dict.items") [.ref d]) Q E s := by
  have ty : s.TypeIs (.ref d) "dict" := ⟨od, ho, ex.1⟩
  refine wpAny_call_entry PySem.F.slot_dict_items ty PySem.F.entry_dict_items ?_ (PySem.F.args_dict_items_1 _)
  unfold Builtin.«dict.items» Builtin.Dict.noArgs
  refine wpAny_bind (wpAny_bind (wpAny_notOrdered_dict ty ?_)); show wpAny _ _ (pure d) _ _ s
  refine wpAny_pure ?_; show wpAny _ _ (Builtin.Dict.showsAll d >>= _) _ _ s
  unfold Builtin.Dict.showsAll; rw [if_neg (by rw [lo]; exact Bool.false_ne_true)]
  exact wpAny_bind (wpAny_pure (wpAny_bind (wpAny_newObj_type (wpAny_pure ⟨_, rfl, q⟩))))
theorem nZ {v : Addr} {Q : Value → Shared → Prop} (hv : s.heap.IsItemsView v d) (ho : s.heap.get? d = some od) (hd : od.data = .dict es ep)
    (q : Q (.ref s.heap.objs.size) { s with heap := s.heap.push { cls := .type "dict_itemiterator", data := .fields #[.none, .bool false, .ref d, .int 0 0, .int es.size 0, .int ep 0, .none, .none] } }) : wpAny (model prog w) A (pyIter (.ref v)) Q E s := by
  obtain ⟨ov, hov, hcv, hdv⟩ := id hv
  refine wpAny_pyIter_slot hv.typeIs F.slot_dict_items_iter (wpAny_call_entry F.slot_dict_items_iter hv.typeIs F.entry_dict_items_iter ?_ (F.args_dict_items_iter_1 _))
  unfold Builtin.«dict_items.__iter__» Builtin.Dict_items.dictOf Builtin.Dict_items.newIterator
  refine wpAny_bind (wpAny_pure (wpAny_bind (wpAny_bind (wpAny_field hov hdv (x := .ref d) rfl (wpAny_pure (wpAny_bind (wpAny_bind (wpAny_dictEntries ho hd (wpAny_bind (wpAny_dictEpoch ho hd ?_)))))))) ))
  simp only [show Builtin.Dict_items.ownsTuple "dict_itemiterator" = true by decide, if_true]
  refine wpAny_newObj_type (wpAny_pure ⟨_, rfl, "dict_itemiterator", _, ⟨_, Heap.get?_push_size _ rfl, rfl⟩, F.slot_dict_itemiterator_next.lookup, by simpa [rawInt, Builtin.Dict_items.ownedTupleFields] using q⟩)
    (by simp only [sizeOk, Builtin.Dict_items.ownedTupleFields, List.size_toArray, List.length_append, List.length_cons, List.length_nil, sizeLine_eq]; omega)
theorem v6 {e : DictEntry} {ok ov : Value} {Q : Option Value → Shared → Prop} (hit : IsItemIter s.heap it d i es.size ep ok ov) (hod : s.heap.get? d = some od) (hdd : od.data = .dict es ep) (hx : es[i]? = some e)
    (q : ∀ h', IsItemIterOut h' it d (i + 1) es.size ep e.key e.val s.heap.objs.size → h'.get? s.heap.objs.size = some { cls := .type "tuple", data := .seq #[e.key, e.val] } → h'.objs.size = s.heap.objs.size + 1 →
      (∀ b o, b ≠ it → s.heap.get? b = some o → h'.get? b = some o) → Q (some (.ref s.heap.objs.size)) { s with heap := h' }) : wpAny (model prog w) A (pyNext (.ref it)) Q E s := by
  obtain ⟨hp, g, dr, tk, os⟩ := s
  have ty : Shared.TypeIs ⟨hp, g, dr, tk, os⟩ (.ref it) "dict_itemiterator" := ⟨_, hit, rfl⟩
  unfold pyNext
  refine wpAny_bind (wpAny_attempt (wpAny_callSpecial?_slot (name := Str.ofString "__next__") ty F.slot_dict_itemiterator_next (wpAny_call_entry F.slot_dict_itemiterator_next ty F.entry_dict_itemiterator_next ?_ (F.args_dict_itemiterator_next_1 _))))
  refine wpAny_bind (wpAny_pure (wpAny_bind (wpAny_bind ?_)))
  first | refine wpAny_bind (wpAny_typeNameOfWhole_itemiter ty (wpAny_pure (wpAny_bind (wpAny_fieldsOf hit rfl ?_)))) | refine wpAny_bind (wpAny_typeNameOf_itemiter ty (wpAny_pure (wpAny_bind (wpAny_fieldsOf hit rfl ?_))))
  simp only [show Builtin.Dict_items.ownsTuple "dict_itemiterator" = true by decide, if_true]
  show wpAny _ _ (if (Value.ref d == Value.none) = true then _ else _) _ _ _; rw [if_neg (show ¬ ((Value.ref d == Value.none) = true) from Bool.false_ne_true)]
  refine wpAny_bind (wpAny_pure (wpAny_bind (wpAny_dictEntries hod hdd ?_))); rw [if_neg (by simp)]
  refine wpAny_bind (wpAny_pure (wpAny_bind (wpAny_dictEpoch hod hdd ?_))); rw [if_neg (by simp)]
  refine wpAny_pure ?_
  have lt : i < es.size := (Array.getElem?_eq_some_iff.mp hx).1
  have ee : es[i] = e := (Array.getElem?_eq_some_iff.mp hx).2
  simp only [show ¬ ((i : Int) < 0) from by omega, if_false, Int.toNat_natCast, Array.getElem?_eq_getElem lt]; refine wpAny_bind ?_
  first | refine wpAny_bind (wpAny_typeNameOfWhole_itemiter ty (wpAny_pure (wpAny_bind (wpAny_isOneOf_itemiter ty ?_)))) | refine wpAny_bind (wpAny_typeNameOf_itemiter ty (wpAny_pure (wpAny_bind (wpAny_isOneOf_itemiter ty ?_))))
  show wpAny _ _ (setField (.ref it) 3 (rawInt ((i : Int) + 1)) >>= _) _ _ ⟨hp, g, dr, tk, os⟩; refine wpAny_bind (wpAny_setField_rec hit (by simp) fun a1 n1 b1 => ?_)
  replace b1 : Heap.SameBut it hp a1 := b1
  replace n1 : IsItemIter a1 it d (i + 1) es.size ep ok ov := by
    have z : ((i + 1 : Nat) : Int) = (i : Int) + 1 := by omega
    unfold IsItemIter; rw [z]; simpa [rawInt] using n1
  have ty1 : Shared.TypeIs ⟨a1, g, dr, tk, os⟩ (.ref it) "dict_itemiterator" := ⟨_, n1, rfl⟩
  refine wpAny_bind (wpAny_holding (wpAny_bind (wpAny_isOneOf_itemiter ty1 (wpAny_bind (wpAny_isOneOf_itemiter ty1 ?_)))))
  show wpAny _ _ (Builtin.Dict_items.pairFromOwner (.ref it) 6 es[i].key es[i].val) _ _ ⟨a1, g, dr, tk, os⟩
  rw [ee]; unfold Builtin.Dict_items.pairFromOwner; refine wpAny_bind (wpAny_newTuple ?_)
  have n2 : IsItemIter (a1.push { cls := .type "tuple", data := .seq #[e.key, e.val] }) it d (i + 1) es.size ep ok ov := Heap.get?_push_of_some _ n1
  generalize ha : a1.push { cls := .type "tuple", data := .seq #[e.key, e.val] } = a2 at n2
  have z1 : a1.objs.size = hp.objs.size := b1.1
  have il : it < hp.objs.size := Heap.lt_size hit
  have t2 : a2.get? hp.objs.size = some { cls := .type "tuple", data := .seq #[e.key, e.val] } := by rw [← ha, ← z1]; exact Heap.get?_push_size _ rfl
  have z2 : a2.objs.size = hp.objs.size + 1 := by rw [← ha, Heap.size_push, z1]
  have k2 : ∀ b o, b ≠ it → hp.get? b = some o → a2.get? b = some o := fun b o hb z => by rw [← ha]; exact Heap.get?_push_of_some _ (b1.extBut b o hb z)
  show wpAny _ _ (Builtin.Dict_items.ownedTupleIsFree (.ref it) >>= _) _ _ ⟨a2, g, dr, tk, os⟩; rw [z1]; clear ha n1 b1 ty1 z1 a1
  refine wpAny_bind ?_; unfold Builtin.Dict_items.ownedTupleIsFree
  refine wpAny_bind (wpAny_field n2 rfl (x := .none) rfl (wpAny_pure ?_)); simp only [if_true]
  refine wpAny_bind (wpAny_field n2 rfl (x := ok) rfl (wpAny_bind (wpAny_field n2 rfl (x := ov) rfl (wpAny_bind (wpAny_setField_rec n2 (by simp) fun a3 n3 b3 => ?_)))))
  replace b3 : Heap.SameBut it a2 a3 := b3
  replace n3 : IsItemIter a3 it d (i + 1) es.size ep e.key ov := n3
  refine wpAny_bind (wpAny_setField_rec n3 (by simp) fun a4 n4 b4 => ?_)
  replace b4 : Heap.SameBut it a3 a4 := b4
  replace n4 : IsItemIter a4 it d (i + 1) es.size ep e.key e.val := n4
  refine wpAny_bind (wpAny_setField_rec n4 (by simp) fun a5 n5 b5 => ?_)
  replace b5 : Heap.SameBut it a4 a5 := b5
  replace n5 : IsItemIterOut a5 it d (i + 1) es.size ep e.key e.val hp.objs.size := n5
  refine wpAny_bind (wpAny_setField_rec n5 (by simp) fun a6 n6 b6 => ?_)
  replace b6 : Heap.SameBut it a5 a6 := b6
  replace n6 : IsItemIterOut a6 it d (i + 1) es.size ep e.key e.val hp.objs.size := n6
  have up : ∀ b o, b ≠ it → a2.get? b = some o → a6.get? b = some o := fun b o hb z => b6.extBut b o hb (b5.extBut b o hb (b4.extBut b o hb (b3.extBut b o hb z)))
  exact wpAny_bind (wpAny_letGo (wpAny_pure (wpAny_pure ⟨_, rfl, wpAny_pure (q a6 n6 (up _ _ (Nat.ne_of_gt il) t2) (by show a6.objs.size = hp.objs.size + 1; rw [b6.1, b5.1, b4.1, b3.1, z2]) fun b o hb z => up b o hb (k2 b o hb z))⟩)))
theorem qj {ok ov : Value} {Q : Option Value → Shared → Prop} (hh : A.handled = none) (hit : IsItemIter s.heap it d i es.size ep ok ov) (hod : s.heap.get? d = some od) (hdd : od.data = .dict es ep) (hx : es.size ≤ i)
    (q : ∀ h', Heap.ExtBut it s.heap h' → Q none { s with heap := h' }) : wpAny (model prog w) A (pyNext (.ref it)) Q E s := by
  have ty : s.TypeIs (.ref it) "dict_itemiterator" := ⟨_, hit, rfl⟩
  unfold pyNext
  refine wpAny_bind (wpAny_attempt (wpAny_callSpecial?_slot (name := Str.ofString "__next__") ty F.slot_dict_itemiterator_next (wpAny_call_entry F.slot_dict_itemiterator_next ty F.entry_dict_itemiterator_next ?_ (F.args_dict_itemiterator_next_1 _))))
  refine wpAny_bind (wpAny_pure (wpAny_bind (wpAny_bind ?_)))
  first | refine wpAny_bind (wpAny_typeNameOfWhole_itemiter ty (wpAny_pure (wpAny_bind (wpAny_fieldsOf hit rfl ?_)))) | refine wpAny_bind (wpAny_typeNameOf_itemiter ty (wpAny_pure (wpAny_bind (wpAny_fieldsOf hit rfl ?_))))
  simp only [show Builtin.Dict_items.ownsTuple "dict_itemiterator" = true by decide, if_true]
  show wpAny _ _ (if (Value.ref d == Value.none) = true then _ else _) _ _ s; rw [if_neg (show ¬ ((Value.ref d == Value.none) = true) from Bool.false_ne_true)]
  refine wpAny_bind (wpAny_pure (wpAny_bind (wpAny_dictEntries hod hdd ?_))); rw [if_neg (by simp)]
  refine wpAny_bind (wpAny_pure (wpAny_bind (wpAny_dictEpoch hod hdd ?_))); rw [if_neg (by simp)]
  refine wpAny_pure ?_
  simp only [show ¬ ((i : Int) < 0) from by omega, if_false, Int.toNat_natCast, Array.getElem?_eq_none hx]; refine wpAny_bind ?_
  first | refine wpAny_bind (wpAny_typeNameOfWhole_itemiter ty (wpAny_pure ?_)) | refine wpAny_bind (wpAny_typeNameOf_itemiter ty (wpAny_pure ?_))
  show wpAny _ _ (setField (.ref it) 2 .none >>= _) _ _ s; refine wpAny_bind (wpAny_setField hit rfl (by simp) ?_)
  show wpAny _ _ (newExc (.type "StopIteration") [] >>= _) _ _ _; refine wpAny_bind ?_
  simp only [newExc, newTuple]; refine wpAny_bind (wpAny_newObj_type ?_ (by size_fits))
  refine wpAny_bind (m := firstArgMember _ _) (wpAny_of_eq (a := Value.none) (by first | rfl | (simp only [firstArgMember]; rfl)) (wpAny_newObj_type ?_ (by size_fits)))
  simp only [raiseNew]; refine wpAny_bind (wpAny_handled ?_)
  rw [show A.in1.handled = none from hh]; refine wpAny_bind (wpAny_pure (wpAny_throw ?_))
  refine wpAny_bind (wpAny_isInstance (T := "StopIteration") (b := true) ⟨_, Heap.get?_push_size _ rfl, rfl⟩ isSubtype_stop (wpAny_pure (q _ (((Heap.SameBut.update ..).extBut.push _).push _))))
end
section
variable {X : Cx} {pins : List (Addr × Obj)} {σ : St} {H : Hp} {s : Shared}
theorem Inv.turned1 {h' : Heap} {t' : Nat} {it : Addr} {oi : Obj} (I : Inv X pins σ H s) (gi : s.heap.get? it = some oi) (hi : ∃ o, h'.get? it = some o ∧ o.isFreed = false)
    (k : ∀ b o, b ≠ it → s.heap.get? b = some o → h'.get? b = some o) (fi : oF X pins H it) : ∃ h2 : Heap, h2.objs.size = s.heap.objs.size ∧ Inv X pins σ H { s with heap := h2, toks := t' } ∧ ∀ b o, h2.get? b = some o → h'.get? b = some o := by
  obtain ⟨o2, g2, z2⟩ := hi
  refine ⟨s.heap.update it fun _ => o2, by rw [Heap.size_update], I.turned (fun b o hb q => (Heap.get?_update_other _ _ (Ne.symm hb)).trans q) fi.1 fi.2.1 fi.2.2.2.1 fi.2.2.2.2.1 fi.2.2.2.2.2, fun b o q => ?_⟩
  by_cases b2 : b = it
  · subst b2
    rw [Heap.get?_update_self _ gi z2] at q
    cases q; exact g2
  · rw [Heap.get?_update_other _ _ (Ne.symm b2)] at q
    exact k b o b2 q
def Iti (a : Addr) (o : Obj) (u : HO) : It :=
  ⟨fun i H => i < eO u ∧ H a = some (.frz o u), fun i H y H' => ∃ p x v, H p = none ∧ y = .ref p ∧ l_ H u i x v ∧ H' = upd H p (.tup [x, v]), fun i H => eO u ≤ i ∧ H a = some (.frz o u)⟩
theorem qi {P : Program} {w : World} {K : PySem.W.Frag} {elts : List Expr} {cx : _} {pos : Pos} (a it : Addr) (o : Obj) (es : Array DictEntry) (ep : Nat) (u : HO) (hu : isD u = true) (hd : o.data = .dict es ep) :
    ph P w K (.Tuple elts cx pos) (Iti a o u) [it] it (fun i h => ∃ ok ov, IsItemIter h it a i es.size ep ok ov) where
  mem := by simp
  obj := fun i h st b hb => by
    have e : b = it := by simpa using hb
    subst e
    obtain ⟨ok, ov, e⟩ := st
    exact ⟨_, e, fun v z => by
      have z' : Data.fields _ = Data.cell v := z
      cases z'⟩
  keep := fun i h h' st k => by
    obtain ⟨ok, ov, e⟩ := st
    exact ⟨ok, ov, k it (by simp) _ e⟩
  item := by
    intro X hP hw hK hc i pins s σ H E I hf st hg
    subst hP hw hK
    obtain ⟨hi, hq⟩ := hg
    obtain ⟨ho, hz, hen⟩ := m8 I hu hd hq
    have fi := hf it (by simp)
    obtain ⟨ok, ov, st⟩ := st
    have hx : es[i]? = some es[i] := by simp [show i < es.size by omega]
    obtain ⟨x, v, en, rx, rv⟩ := hen i _ hx
    refine v6 st ho hd hx fun h' n1 t1 z1 k1 => ?_
    obtain ⟨h3, z3, I3, k3⟩ := I.turned1 (t' := s.toks) (h' := h') st ⟨_, n1, rfl⟩ k1 fi
    have hn := I.hok.fresh (Nat.le_refl s.heap.objs.size)
    have I4 : Inv X pins σ (upd H s.heap.objs.size (.tup [x, v])) { s with heap := h', toks := s.toks } :=
      I3.laid (t' := s.toks) k3 (Nat.le_of_eq z3) (show ObjOk X.prog X.w _ h' _ (.tup [x, v]) from ⟨by show 2 ≤ sizeLine; rw [sizeLine_eq]; decide, [es[i].key, es[i].val], .cons rx (.cons rv .nil), ⟨_, t1, rfl, 0, rfl⟩⟩)
    have li : it < s.heap.objs.size := Heap.lt_size st
    have nH : upd H s.heap.objs.size (.tup [x, v]) it = H it := af (Nat.ne_of_lt li)
    refine ⟨_, rfl, wpAny_letOwnedTupleGo_items (s := { s with heap := h' }) n1 fun h5 e5 s5 => ?_⟩
    have I5 : Inv X pins σ (upd H s.heap.objs.size (.tup [x, v])) { s with heap := h5, toks := s.toks } :=
      I4.turned (t' := s.toks) (fun b o hb q => (s5.2 b hb).trans q) (nH.trans fi.1) fi.2.1 fi.2.2.2.1 fi.2.2.2.2.1 fi.2.2.2.2.2
    refine ⟨.ref s.heap.objs.size, _, I5, rfl, ⟨_, x, v, hn, rfl, en, rfl⟩, ⟨_, _, e5⟩, fun b hb => ?_⟩
    rw [List.mem_singleton.mp hb]; exact nH.trans fi.1
  done := by
    intro X hP hw hK hc i pins s σ H E I hf st hg
    subst hP hw hK
    obtain ⟨hi, hq⟩ := hg
    obtain ⟨ho, hz, hen⟩ := m8 I hu hd hq
    have fi := hf it (by simp)
    obtain ⟨ok, ov, st⟩ := st
    exact qj (I.ok.hd hc) st ho hd (by omega) fun h' eb => ⟨rfl, I.turned (t' := s.toks) (fun b o hb q => eb b o hb q) fi.1 fi.2.1 fi.2.2.2.1 fi.2.2.2.2.1 fi.2.2.2.2.2⟩
  self := fun _ _ s Q E st h => by
    obtain ⟨ok, ov, st⟩ := st
    exact PySem.W.kcp_self st h
def uR (td : TE) : TI := fun σ H R => td σ H fun x H1 => ∃ b u, x = .ref b ∧ isD u = true ∧ Rd H1 b u ∧ ∀ o, (H1 b = some u ∨ H1 b = some (.frz o u)) → R (Iti b o u) (upd H1 b (.frz o u))
theorem oV {o : Expr} {td : TE} {apos cpos tp : Pos} {elts : List Expr} {cx : _} (ho : PE X o td)
    (hbase : attributeBase o "items" X.env (eval o X.env) = eval o X.env := by rfl) (hline : (apos.endLine == cpos.line) = true := by rfl) : PI X (.Tuple elts cx tp) (.Call (.Attribute o "items" apos) [] [] cpos) (uR td) := by
  intro pins s σ H R I h
  refine wpAny_Call_method0_late hbase hline (thn (ho pins s σ H _ I h) fun v s1 ⟨x, H1, I1, rx, b, u, ex, hu, hr, q⟩ => ?_)
  subst ex
  cases (show v = Value.ref b from rx)
  obtain ⟨oo, es, ep, hob, ex, hd, lo, hz, hor, I2⟩ := I1.freeze hu hr
  refine ⟨"dict", "dict.items", PySem.F.plainAttrs_dict, PySem.F.slot_dict_items, PySem.F.type_dict_items, ⟨oo, hob, ex.1⟩, fun a e => by cases e; exact ⟨oo, hob, ex.2.1⟩, Calls.callWith_builtin rfl (PySem.evalArgs_none (ua lo hob ex ?_))⟩
  refine nZ (s := { s1 with heap := _ }) ⟨_, Heap.get?_push_size _ rfl, rfl, rfl⟩ (Heap.get?_push_of_some _ hob) hd ?_
  have I3 : Inv X pins σ (upd H1 b (.frz oo u)) { s1 with heap := s1.heap.push { cls := .type "dict_items", data := .fields #[.ref b] } } := I2.kept (t' := s1.toks) fun c ob e => Heap.get?_push_of_some _ e
  refine ⟨_, [_], _, Iti b oo u, _, rfl, I3.kept (t' := s1.toks) (fun c ob e => Heap.get?_push_of_some _ e), qi b _ oo es ep u hu hd, ⟨_, _, Heap.get?_push_size _ rfl⟩, fun c hc => ?_, q oo hor⟩
  rw [List.mem_singleton.mp hc]
  exact I3.fpOk (Nat.le_refl _) (I3.hok.fresh (Nat.le_refl _))
theorem sK {td : TE} {g : TG} {tb : TS} {D : dU} {σ : St} {H : Hp} (h : td σ H fun x H1 => ∃ b u, x = .ref b ∧ isD u = true ∧ Rd H1 b u ∧ ∀ o, (H1 b = some u ∨ H1 b = some (.frz o u)) → FE (Iti b o u) g tb { nx := fun σ' H2 => Th H H2 (D.nx σ'), rt := fun v H2 => Th H H2 (D.rt v), bk := fun σ' H2 => Th H H2 (D.bk σ'), ct := fun σ' H2 => Th H H2 (D.ct σ') } σ (upd H1 b (.frz o u))) : uL (lH (uR td) g tb) D σ H := h
theorem sN {b : Addr} {o : Obj} {u : HO} {g : TG} {tb : TS} {D : dU} {σ : St} {H : Hp} (Pv : Nat → St → Hp → Prop) (h0 : Pv 0 σ H) (hl : ∀ i σ H, Pv i σ H → H b = some (.frz o u))
    (hs : ∀ i x v σ H p, i < eO u → l_ H u i x v → H p = none → Pv i σ H → g (.ref p) σ (upd H p (.tup [x, v])) fun σ2 H2 => tb { D with nx := Pv (i + 1), ct := Pv (i + 1), bk := D.nx } σ2 H2) (hd : ∀ σ H, Pv (eO u) σ H → D.nx σ H) : FE (Iti b o u) g tb D σ H := by
  refine ⟨fun i m σ H => m = eO u - i ∧ i ≤ eO u ∧ Pv i σ H, ⟨_, rfl, Nat.zero_le _, h0⟩, ?_⟩
  rintro i m σ H ⟨rfl, hi, p⟩
  have q := hl i σ H p
  rcases Nat.lt_or_ge i (eO u) with lt | ge
  · refine .inr ⟨⟨lt, q⟩, Pv (i + 1), fun σ' H' p' => ⟨_, by omega, rfl, lt, p'⟩, ?_⟩
    rintro y H' ⟨r, x, v, hr, rfl, en, rfl⟩
    exact hs i x v σ H r lt en hr p
  · obtain rfl : i = eO u := Nat.le_antisymm hi ge
    exact .inl ⟨⟨Nat.le_refl _, q⟩, hd σ H p⟩
end
section
variable {prog : Program} {w : World} {A : Around} {E : Value → Shared → Prop} {s : Shared} {d : Addr}
theorem yn {K : Type} [DecidableEq K] {knd : KeyKind prog w K} {kvs : List (K × Value)} {k : K} {key dflt : Value} {Q : Value → Shared → Prop} (hkey : knd.is k key = true) (hm : s.heap.DictOf knd d kvs) (hv : valueAt kvs k = none) (hsz : kvs.length ≤ sizeLine)
    (q : ∀ h', h'.DictOf knd d (stored kvs k dflt) → Heap.SameBut d s.heap h' → Q dflt { s with heap := h', toks := s.toks + 1 }) : wpAny (model prog w) A (dictSetDefault d key dflt) Q E s := by
  obtain ⟨o, es, ep, ho, hc, hd, hk, hp, hn⟩ := id hm
  have hes : es.size ≤ sizeLine := by have e1 := hp.length; rw [Array.length_toList] at e1; omega
  have hidx : (es.findIdx? fun e => knd.is k e.key) = kvs.findIdx? fun kv => decide (kv.1 = k) := by rw [← hp.findIdx k]; obtain ⟨l⟩ := es; simp
  have hany : (kvs.any fun kv => decide (kv.1 = k)) = false := by
    cases c : kvs.any fun kv => decide (kv.1 = k) with
    | false => rfl
    | true =>
      exfalso
      unfold valueAt at hv
      rw [Option.map_eq_none_iff, List.find?_eq_none] at hv
      obtain ⟨kv, m, e⟩ := List.any_eq_true.mp c
      exact hv kv m e
  have hno : (kvs.findIdx? fun kv => decide (kv.1 = k)) = none := by
    rw [List.findIdx?_eq_none_iff]
    intro x hx
    cases c : decide (x.1 = k) with
    | false => rfl
    | true => rw [List.any_eq_true.mpr ⟨x, hx, c⟩] at hany; cases hany
  have hnot : k ∉ kvs.map (·.1) := not_mem_of_findIdx_none hno
  unfold dictSetDefault
  try with_reducible refine wpAny_holding ?_
  refine wpAny_bind (knd.pyHash hkey (wpAny_bind (wpAny_dictFind_of (s := { s with toks := s.toks + 1 }) hkey ho hd hk ?_)))
  rw [hidx, hno]
  refine wpAny_bind (wpAny_rule (wpAny_bind (wpAny_updateDictKeys (hz := hes) (s := { s with toks := s.toks + 1 }) ho hd (wpAny_pure (q _ ⟨_, _, ep + 1, Heap.get?_update_self _ ho (Obj.isFreed_of_dict (Obj.data_mapDictKeys hd _)), hc.mapDictKeys _, Obj.data_mapDictKeys hd _, hk.push hkey _, ?_, ?_⟩ (Heap.SameBut.update ..))))))
  · rw [stored, if_neg (by rw [hany]; decide)]
    have := hp.append hkey (knd.hash k) dflt
    obtain ⟨l⟩ := es
    simpa using this
  · rw [stored, if_neg (by rw [hany]; decide), List.map_append]
    exact List.nodup_append.mpr ⟨hn, by simp, fun a ha b hb => by simp at hb; rw [hb]; rintro rfl; exact hnot ha⟩
theorem rm {K : Type} [DecidableEq K] {knd : HeapKind prog w K} {a : Addr} {xs : List (K × Addr × Value)} {k : K} {dflt : Value} {Q : Value → Shared → Prop} (hu : knd.room A) (hkey : knd.is s.heap k a) (hm : s.heap.DictOfH knd d xs) (hsz : xs.length ≤ sizeLine)
    (q1 : ∀ p, atKey xs k = some p → Q p.2 { s with toks := s.toks + knd.draws k })
    (q2 : atKey xs k = none → ∀ h', h'.DictOfH knd d (storedH xs k a dflt) → Heap.SameBut d s.heap h' → Q dflt { s with heap := h', toks := s.toks + knd.draws k }) : wpAny (model prog w) A (dictSetDefault d (.ref a) dflt) Q E s := by
  obtain ⟨o, es, ep, ho, hc, hd, he, his, hn⟩ := id hm
  unfold dictSetDefault
  try with_reducible refine wpAny_holding ?_
  refine wpAny_bind (knd.pyHash hu hkey (wpAny_bind (wpAny_dictFind_heap (s := { s with toks := s.toks + knd.draws k }) hu hkey ho hd he his hn ?_ ?_)))
  · intro hno
    have hnot : k ∉ xs.map (·.1) := not_mem_keys_of_get hno
    have en := atKey_none_of_get hno
    refine wpAny_bind (wpAny_rule (wpAny_bind (wpAny_updateDictKeys (hz := by have e := size_of_entries he; omega) (s := { s with toks := s.toks + knd.draws k }) ho hd (wpAny_pure (q2 en _ ⟨_, _, ep + 1, Heap.get?_update_self _ ho (Obj.isFreed_of_dict (Obj.data_mapDictKeys hd _)), hc.mapDictKeys _, Obj.data_mapDictKeys hd _, ?_, ?_, ?_⟩ (Heap.SameBut.update ..))))))
    · rw [storedH_new en]; simp [he, entryOfKey]
    · rw [storedH_new en]
      intro x hx
      rcases List.mem_append.mp hx with hx | hx
      · exact knd.keeps (his x hx) ho hd (Heap.SameBut.update ..)
      · rw [List.mem_singleton.mp hx]; exact knd.keeps hkey ho hd (Heap.SameBut.update ..)
    · rw [storedH_new en, List.map_append]
      exact List.nodup_append.mpr ⟨hn, by simp, fun a ha b hb => by simp at hb; rw [hb]; rintro rfl; exact hnot ha⟩
  · intro j p hj
    refine wpAny_bind (wpAny_dictEntries (s := { s with toks := s.toks + knd.draws k }) ho hd ?_)
    rw [entry_at he j, hj]
    exact wpAny_bind (wpAny_rule (wpAny_pure (q1 p (atKey_of_get hn hj))))
theorem jZ {key dflt : Value} {Q : Value → Shared → Prop} (lo : (d == sysModules) = false) (ty : s.TypeIs (.ref d) "dict") (h : ∀ E' : Value → Shared → Prop, wpAny (model prog w) A.in1 (dictSetDefault d key dflt) Q E' s) : wpAny (model prog w) A (call (.builtin "dict.setdefault") [.ref d, key, dflt]) Q E s := by
  refine wpAny_call_entry PySem.F.slot_dict_setdefault ty PySem.F.entry_dict_setdefault ?_ (PySem.F.args_dict_setdefault_3 _ _ _)
  unfold Builtin.«dict.setdefault» Builtin.Dict.keyAndDefault
  refine wpAny_bind (wpAny_bind (wpAny_notOrdered_dict ty ?_)); show wpAny _ _ (pure (d, key, some dflt)) _ _ s
  refine wpAny_pure ?_; show wpAny _ _ (if (d == sysModules) = true then _ else (dictSetDefault d key dflt >>= _)) _ _ s
  rw [if_neg (by rw [lo]; exact Bool.false_ne_true)]
  exact wpAny_bind (wpAny_mono (h _) (fun v s' z => wpAny_pure ⟨v, rfl, z⟩) fun _ _ z => z)
end
section
variable {X : Cx} {o e f : Expr} {apos cpos : Pos} {td ty tx : TE}
def ya (td ty tx : TE) : TE := fun σ H Q => td σ H fun x H1 => ∃ a, x = .ref a ∧ IsD H1 a ∧ ty σ H1 fun y H2 => tx σ H2 fun z H3 => (∃ v, DGet H3 a y (some v) ∧ Q v H3) ∨ (DGet H3 a y none ∧ ∃ H4, DPut H3 a y z H4 ∧ Q z H4)
theorem rf (hu : X.A.units + 1 < cLine) (ho : PE X o td) (he : PE X e ty) (hf : PE X f tx) (m : M2 X o "setdefault" apos e f cpos) : PE X (.Call (.Attribute o "setdefault" apos) [e, f] [] cpos) (ya td ty tx) := by
  intro pins s σ H Q I h
  refine wpAny_Call_method m.base m.few m.line PySem.F.plainAttrs_dict PySem.F.slot_dict_setdefault PySem.F.type_dict_setdefault (thn (ho pins s σ H _ I h) fun u s1 ⟨x, H1, I1, rx, a, ex, d, q1⟩ => ?_)
  subst ex
  obtain rfl : u = Value.ref a := rx
  obtain ⟨t1, t2, _⟩ := vo I1 d
  refine ⟨t1, t2, ?_⟩
  rw [m.trees]
  refine Calls.callWith_builtin rfl (Calls.evalArgs_plain (Calls.spliced_cons (thn (he pins s1 σ H1 _ I1 q1) fun iv s2 ⟨y, H2, I2, ry, q2⟩ =>
    Calls.spliced_cons (thn (hf pins s2 σ H2 _ I2 q2) fun fv s3 ⟨z, H3, I3, rz, q3⟩ => Calls.spliced_nil ?_))))
  rcases q3 with ⟨v, g, q⟩ | ⟨g, H4, p, q⟩
  · rcases g with ⟨kvs, k, er, ey, l⟩ | ⟨kvs, k, b, er, ey, eb, l⟩
    · subst ey
      obtain ⟨zz, lo, vs, rel, dd⟩ := mG I3.hok er
      obtain ⟨v', hv', rv⟩ : ∃ v', valueAt vs k = some v' ∧ RelV v v' := by
        have r := rel.val k
        rw [← l] at r
        cases c : valueAt vs k with
        | none => rw [c] at r; exact (show False from r).elim
        | some v' => rw [c] at r; exact ⟨v', rfl, r⟩
      refine jZ lo dd.typeIs fun E' => wpAny_dictSetDefault_of (f := valueAt vs) (mi ry) dd.mapOf (fun v2 e2 => ?_) (fun e2 => by rw [hv'] at e2; cases e2) (hz := ?_)
      · rw [hv'] at e2; cases e2
        exact ⟨v, H3, I3.tok _, rv, q⟩
      · obtain ⟨o1, es, ep, h1, _, h3, _, hp, _⟩ := dd
        intro o2 es2 ep2 g1 g2
        rw [h1] at g1; cases g1
        rw [h3] at g2; injection g2 with g2 _
        subst g2
        have e1 := hp.length
        rw [Array.length_toList] at e1
        rw [rel.length] at zz; omega
    · subst ey
      cases (show iv = Value.ref b from ry)
      obtain ⟨zz, lo, xs, rel, dd⟩ := mV I3.hok er
      have r := rel.val k
      rw [← l] at r
      refine jZ lo dd.typeIs fun E' => rm (tupleKind_room_in1 hu) (jg I3.hok eb) dd (by rw [← Paired.length rel]; exact zz) (fun p e2 => ?_) (fun e2 => by rw [e2] at r; exact (show False from r).elim)
      rw [e2] at r
      exact ⟨v, H3, I3.tok _, r, q⟩
  · rcases p with ⟨kvs, k, er, ey, hl, eH⟩ | ⟨kvs, k, b, er, ey, eb, hl, eH⟩
    · subst ey eH
      obtain ⟨zz, lo, vs, rel, dd⟩ := uk I3.hok er
      have hv : valueAt vs k = none := by
        rcases g with ⟨kvs2, k2, er2, ey2, l2⟩ | ⟨_, _, b2, _, ey2, _, _⟩
        · have ek := tX ey2
          subst ek
          rcases er2 with er2 | ⟨o2, er2⟩
          · rw [er] at er2; cases er2
            have r := rel.val k
            rw [← l2] at r
            exact RelO.none_of r
          · rw [er] at er2; cases er2
        · cases k <;> cases ey2
      have hz : vs.length ≤ sizeLine := by rw [← rel.length]; exact zz
      have hl2 : (cH kvs k z).length ≤ sizeLine := by have := eV kvs k z; omega
      refine jZ lo dd.typeIs fun E' => yn (mi ry) dd hv hz fun h' dd' hs => ⟨z, _, ?_, rz, q⟩
      have hx : ∃ q, h'.get? a = some q := let ⟨q, _, _, hq, _⟩ := dd'; ⟨q, hq⟩
      exact jU I3 (by rw [er]; exact True.intro) hs hx (vt hl2 lo (rel.put k rz) dd')
    · subst ey eH
      cases (show iv = Value.ref b from ry)
      obtain ⟨zz, lo, xs, rel, dd⟩ := xT I3.hok er
      have hv : atKey xs k = none := by
        rcases g with ⟨kvs2, k2, er2, ey2, l2⟩ | ⟨kvs2, k2, b2, er2, ey2, eb2, l2⟩
        · cases k2 <;> cases ey2
        · cases ey2
          rw [eb] at eb2
          injection eb2 with eb2; injection eb2 with eb2
          have ek := n8 eb2
          subst ek
          rcases er2 with er2 | ⟨o2, er2⟩
          · rw [er] at er2; cases er2
            have r := rel.val k
            rw [← l2] at r
            exact Option.map_eq_none_iff.mp (RelO.none_of r)
          · rw [er] at er2; cases er2
      have hl2 : (cH kvs k z).length ≤ sizeLine := by have := eV kvs k z; omega
      refine jZ lo dd.typeIs fun E' => rm (tupleKind_room_in1 hu) (jg I3.hok eb) dd (by rw [← Paired.length rel]; exact zz) (fun p e2 => by rw [hv] at e2; cases e2) fun _ h' dd' hs => ⟨z, _, ?_, rz, q⟩
      obtain ⟨qo, es, ep, hq, h2, h3, h4, _, h5⟩ := dd'
      refine jU I3 (by rw [er]; exact True.intro) hs ⟨qo, hq⟩ ⟨hl2, lo, _, (rel.put k eb rz).keeps fun c ys ec => ?_, qo, es, ep, hq, h2, h3, h4, h5⟩
      rw [af (db ec er (fun z => nomatch z))]
      exact ec
end
end L2
set_option Elab.async false
set_option linter.all false
set_option maxRecDepth 100000
namespace L2
open PySem PyProof.Rows
def ij : Key → Key → Bool
  | .inl i, .inl j => decide (i < j)
  | .inr x, .inr y => decide (x.cps.toList < y.cps.toList)
  | _, _ => false
def ltK : List Key → List Key → Bool
  | x :: xs, y :: ys => if x = y then ltK xs ys else ij x y
  | _, _ => false
def shK : List Key → List Bool := List.map fun k => match k with
  | .inl _ => true
  | .inr _ => false
theorem w4 {x y : Str} (h : x.cps.toList = y.cps.toList) : x = y := by
  obtain ⟨⟨x⟩⟩ := x
  obtain ⟨⟨y⟩⟩ := y
  simp at h; rw [h]
theorem yO : ∀ {x y : Key}, shK [x] = shK [y] → ij x y = true ∨ x = y ∨ ij y x = true
  | .inl i, .inl j, _ => by
    rcases Int.lt_trichotomy i j with h | h | h
    · exact .inl (decide_eq_true h)
    · exact .inr (.inl (by rw [h]))
    · exact .inr (.inr (decide_eq_true h))
  | .inr x, .inr y, _ => by
    rcases jW x.cps.toList y.cps.toList with h | h | h
    · exact .inl (decide_eq_true h)
    · exact .inr (.inl (by rw [w4 h]))
    · exact .inr (.inr (decide_eq_true h))
  | .inl _, .inr _, h => by cases h
  | .inr _, .inl _, h => by cases h
theorem AD : ∀ x : Key, ij x x = false
  | .inl i => decide_eq_false (Int.lt_irrefl i)
  | .inr x => decide_eq_false (List.lt_irrefl _)
theorem AI : ∀ {x y z : Key}, ij x y = true → ij y z = true → ij x z = true
  | .inl i, .inl j, .inl k, h, g => decide_eq_true (Int.lt_trans (of_decide_eq_true h) (of_decide_eq_true g))
  | .inr x, .inr y, .inr z, h, g => decide_eq_true (List.lt_trans (of_decide_eq_true h) (of_decide_eq_true g))
  | .inl _, .inr _, _, h, _ => by cases h
  | .inr _, .inl _, _, h, _ => by cases h
  | .inl _, .inl _, .inr _, _, g => by cases g
  | .inr _, .inr _, .inl _, _, g => by cases g
theorem mO : ∀ a : List Key, ltK a a = false
  | [] => rfl
  | x :: r => by rw [ltK, if_pos rfl]; exact mO r
theorem vM : ∀ {a b c : List Key}, ltK a b = true → ltK b c = true → ltK a c = true
  | x :: a, y :: b, z :: c, h, g => by
    rw [ltK] at h g ⊢
    by_cases e : x = y
    · subst e
      rw [if_pos rfl] at h
      by_cases e2 : x = z
      · subst e2
        rw [if_pos rfl] at g ⊢; exact vM h g
      · rw [if_neg e2] at g ⊢; exact g
    · rw [if_neg e] at h
      by_cases e2 : y = z
      · subst e2
        rw [if_neg e]; exact h
      · rw [if_neg e2] at g
        have k := AI h g
        rw [if_neg]
        · exact k
        · rintro rfl; rw [AD] at k; cases k
  | [], _, _, h, _ => by cases h
  | _ :: _, [], _, h, _ => by cases h
  | _ :: _, _ :: _, [], _, g => by cases g
theorem qX : ∀ {a b : List Key}, shK a = shK b → ltK a b = true ∨ a = b ∨ ltK b a = true
  | [], [], _ => .inr (.inl rfl)
  | [], _ :: _, h => by simp [shK] at h
  | _ :: _, [], h => by simp [shK] at h
  | x :: a, y :: b, h => by
    simp only [shK, List.map_cons, List.cons.injEq] at h
    rw [ltK, ltK]
    by_cases e : x = y
    · subst e
      rw [if_pos rfl, if_pos rfl]
      rcases qX (a := a) (b := b) h.2 with g | g | g
      · exact .inl g
      · exact .inr (.inl (by rw [g]))
      · exact .inr (.inr g)
    · rw [if_neg e, if_neg (Ne.symm e)]
      rcases yO (x := x) (y := y) (by simp [shK, h.1]) with g | g | g
      · exact .inl g
      · exact absurd g e
      · exact .inr (.inr g)
def rkK (l : List (List Key)) (u : List Key) : Nat := l.countP fun e => ltK e u
theorem vE {l : List (List Key)} {u v : List Key} (mu : u ∈ l) (h : ltK u v = true) : rkK l u < rkK l v := tW (fun e he => vM he h) mu h (mO u)
theorem j1 {l : List (List Key)} {sh : List Bool} (hs : ∀ e ∈ l, shK e = sh) {u v : List Key} (mu : u ∈ l) (mv : v ∈ l) : ltK u v = true ↔ (rkK l u : Int) < rkK l v := by
  refine ⟨fun h => by have := vE mu h; omega, fun h => ?_⟩
  rcases qX (a := u) (b := v) ((hs u mu).trans (hs v mv).symm) with g | rfl | g
  · exact g
  · exact absurd h (Int.lt_irrefl _)
  · have := vE mv g; omega
abbrev tI (l : List (List Key)) : Prop := l.Pairwise fun a b => ltK a b = true
theorem pO : ∀ {a b : List (List Key)}, tI a → tI b → (∀ x, x ∈ a ↔ x ∈ b) → a = b
  | [], [], _, _, _ => rfl
  | [], y :: t, _, _, h => by have := (h y).mpr (.head _); cases this
  | x :: r, [], _, _, h => by have := (h x).mp (.head _); cases this
  | x :: r, y :: t, ha, hb, h => by
    have ha' := List.pairwise_cons.mp ha
    have hb' := List.pairwise_cons.mp hb
    have no : ∀ {u v : List Key}, ltK u v = true → ltK v u = true → False := fun p q => by have := vM p q; rw [mO] at this; cases this
    have e : x = y := by
      rcases List.mem_cons.mp ((h x).mp (.head _)) with g | g
      · exact g
      · rcases List.mem_cons.mp ((h y).mpr (.head _)) with g' | g'
        · exact g'.symm
        · exact (no (ha'.1 y g') (hb'.1 x g)).elim
    subst e
    rw [pO ha'.2 hb'.2 fun z => ?_]
    constructor
    · intro m
      rcases List.mem_cons.mp ((h z).mp (.tail _ m)) with g | g
      · subst g; have := ha'.1 z m; rw [mO] at this; cases this
      · exact g
    · intro m
      rcases List.mem_cons.mp ((h z).mpr (.tail _ m)) with g | g
      · subst g; have := hb'.1 z m; rw [mO] at this; cases this
      · exact g
namespace Srt
section
variable {prog : Program} {w : World} {A : Around} {E : Value → Shared → Prop} {s : Shared}
theorem qO {Q : Bool → Shared → Prop} : ∀ (a b : List Key) (us vs : List Value) (i : Nat), Vals (a.map kV) us → Vals (b.map kV) vs → shK a = shK b → Q (ltK a b) s → PySem.W.KatLex prog w A true false Q (us.zip vs) i s
  | [], [], _, _, i, .nil, .nil, _, h => PySem.W.kat_nil h
  | [], _ :: _, _, _, _, _, _, e, _ => by simp [shK] at e
  | _ :: _, [], _, _, _, _, _, e, _ => by simp [shK] at e
  | x :: a, y :: b, _, _, i, .cons rx ra, .cons ry rb, e, h => by
    simp only [shK, List.map_cons, List.cons.injEq] at e
    rw [List.zip_cons_cons]
    refine PySem.W.kat_cons ?_
    rw [ltK] at h
    cases x with
    | inl n =>
      cases y with
      | inl m =>
        obtain ⟨t, rfl⟩ := (show ∃ t, _ = Value.int n t from rx)
        obtain ⟨t', rfl⟩ := (show ∃ t, _ = Value.int m t from ry)
        refine wpAny_eqBool_int ?_
        by_cases g : n = m
        · subst g
          rw [if_pos rfl] at h
          rw [beq_self_eq_true]
          exact PySem.W.kat_yes (qO a b _ _ (i + 1) ra rb e.2 h)
        · rw [if_neg (fun z => g (by injection z))] at h
          rw [beq_eq_false_iff_ne.mpr g]
          refine PySem.W.kat_no ?_
          by_cases i0 : i = 0
          · subst i0; exact oneLt_int h
          · rw [show (true && i == 0) = false by simp [i0]]
            exact PySem.W.kat_one _ _ (PySem.P.lt_int h)
      | inr m => cases e.1
    | inr n =>
      cases y with
      | inl m => cases e.1
      | inr m =>
        obtain ⟨t, rfl⟩ := (show ∃ t, _ = Value.str n t from rx)
        obtain ⟨t', rfl⟩ := (show ∃ t, _ = Value.str m t from ry)
        refine wpAny_eqBool_str ?_
        by_cases g : n = m
        · subst g
          rw [if_pos rfl] at h
          rw [decide_eq_true rfl]
          exact PySem.W.kat_yes (qO a b _ _ (i + 1) ra rb e.2 h)
        · rw [if_neg (fun z => g (by injection z))] at h
          rw [decide_eq_false g]
          refine PySem.W.kat_no ?_
          by_cases i0 : i = 0
          · subst i0; exact oneLt_str h
          · rw [show (true && i == 0) = false by simp [i0]]
            exact PySem.W.kat_one _ _ (PySem.P.lt_str h)
def TupK (h : Heap) (p : Addr) (k : List Key) : Prop := ∃ (o : Obj) (its : List Value) (n : Nat), h.get? p = some o ∧ o.cls = .type "tuple" ∧ o.data = .seq its.toArray n ∧ Vals (k.map kV) its
theorem cmp_K {h : Heap} {os : OsState} {vs : List Value} {κ : Value → Int} {f : Value → List Key} {c : Bool} {sh : List Bool} (h2 : 2 ≤ vs.length) (hv : ∀ v ∈ vs, ∃ p, v = .ref p ∧ TupK h p (f v)) (hs : ∀ v ∈ vs, shK (f v) = c :: sh) (hk : ∀ u ∈ vs, ∀ v ∈ vs, (ltK (f u) (f v) = true ↔ κ u < κ v)) : Cmp prog w h os (tuples' true) κ vs where
  kind A E s Q e q := by
    subst e
    have go : ∀ (l : List Value), (∀ v ∈ l, v ∈ vs) → ∃ fs, PySem.W.KatTups s.heap l fs ∧ fs.length = l.length ∧ ∀ v ∈ fs, ∃ k : Key, shK [k] = [c] ∧ RelV (kV k) v := by
      intro l
      induction l with
      | nil => intro _; exact ⟨[], PySem.W.KatTups.nil, rfl, fun _ m => nomatch m⟩
      | cons v r ih =>
        intro hm
        obtain ⟨fs, t, hl, hf⟩ := ih fun u m => hm u (.tail _ m)
        obtain ⟨p, rfl, o, its, n, ho, hc, hd, rv⟩ := hv v (hm v (.head _))
        have hsv := hs _ (hm _ (.head _))
        generalize f (.ref p) = k at rv hsv
        cases k with
        | nil => simp [shK] at hsv
        | cons k0 kr =>
          rw [List.map_cons] at rv
          cases rv with
          | cons r0 rr =>
            rename_i b0 l0
            refine ⟨b0 :: fs, PySem.W.KatTups.cons (f := b0) ho hc hd (by simp) t, by simp [hl], fun u m => ?_⟩
            rcases List.mem_cons.mp m with rfl | m
            · simp only [shK, List.map_cons, List.cons.injEq] at hsv
              exact ⟨k0, by simp [shK, hsv.1], r0⟩
            · exact hf u m
    obtain ⟨fs, t, hl, hf⟩ := go vs fun _ m => m
    have hT : ∀ v ∈ fs, PySem.W.Looks (model prog w) s.heap (typeOf v) (.type (if c then "int" else "str")) := fun v m => by
      obtain ⟨k, e, r⟩ := hf v m
      cases k with
      | inl n =>
        obtain ⟨t, rfl⟩ := (show ∃ t, _ = Value.int n t from r)
        simp [shK] at e; subst e
        exact .now
      | inr n =>
        obtain ⟨t, rfl⟩ := (show ∃ t, _ = Value.str n t from r)
        simp [shK] at e; subst e
        exact .now
    refine PySem.W.kat_kind t (by omega) hT (by cases c <;> decide) ?_
    cases c <;> exact q
  lt A E s u v Q e mu mv q := by
    subst e
    have su := hs u mu
    have sv := hs v mv
    have hk' := hk u mu v mv
    obtain ⟨p, rfl, o, its, n, ho, hc, hd, rv⟩ := hv u mu
    obtain ⟨p', rfl, o', its', n', ho', hc', hd', rv'⟩ := hv v mv
    have l1 := rv.length
    have l2 := rv'.length
    have l3 := congrArg List.length (su.trans sv.symm)
    simp only [shK, List.length_map] at l1 l2 l3
    refine PySem.W.kat_lt ho hd ho' hd' ?_
    rw [show decide (its.toArray.size < its'.toArray.size) = false by rw [List.size_toArray, List.size_toArray]; exact decide_eq_false (by omega)]
    refine qO _ _ _ _ 0 rv rv' (su.trans sv.symm) ?_
    have e : ltK (f (.ref p)) (f (.ref p')) = decide (κ (.ref p) < κ (.ref p')) := by
      cases g : ltK (f (.ref p)) (f (.ref p')) with
      | true => rw [decide_eq_true (hk'.mp g)]
      | false => rw [decide_eq_false fun z => by rw [hk'.mpr z] at g; cases g]
    rw [e]; exact q
end
end Srt
section
variable {X : Cx} {pins : List (Addr × Obj)} {σ : St} {H : Hp} {s : Shared}
abbrev AK := Addr × List Key
def kOf (ps : List AK) : Value → List Key
  | .ref a => ((ps.find? fun e => e.1 == a).map (·.2)).getD []
  | _ => []
theorem yG {ps : List AK} (hp : ∀ e ∈ ps, H e.1 = some (.tup (e.2.map kV))) {e : AK} (m : e ∈ ps) : kOf ps (.ref e.1) = e.2 := by
  show ((ps.find? fun z => z.1 == e.1).map (·.2)).getD [] = e.2
  cases f : ps.find? fun z => z.1 == e.1 with
  | none => exact absurd (List.find?_eq_none.mp f e m) (by simp)
  | some z =>
    have e1 : z.1 = e.1 := by simpa using List.find?_some f
    have t1 := hp z (List.mem_of_find?_eq_some f)
    rw [e1] at t1
    have t3 := t1.symm.trans (hp e m)
    injection t3 with t3; injection t3 with t3
    exact n8 t3
theorem Inv.tupK (I : Inv X pins σ H s) {p : Addr} {k : List Key} (h : H p = some (.tup (k.map kV))) : Srt.TupK s.heap p k := by
  obtain ⟨_, its, r, o, ho, hc, n, hd⟩ := (show ObjOk X.prog X.w H s.heap p (.tup (k.map kV)) from I.hok p _ h)
  exact ⟨o, its, n, ho, hc, hd, r⟩
theorem w6 {ps : List AK} {its : List Value} (r : Vals (ps.map fun e => V.ref e.1) its) : its = ps.map fun e => Value.ref e.1 := by
  induction ps generalizing its with
  | nil => cases r; rfl
  | cons e ps ih =>
    cases r with
    | cons r1 r2 => rw [ih r2]; cases (show _ = Value.ref e.1 from r1); rfl
theorem q_ : ∀ ps : List AK, Vals (ps.map fun e => V.ref e.1) (ps.map fun e => Value.ref e.1)
  | [] => .nil
  | e :: ps => .cons rfl (q_ ps)
def qz (K : PySem.W.Frag) : List V → Hp → VK → Prop
  | [.ref p], H, Q => ∃ (ps : List AK) (c : Bool) (sh : List Bool), SqL K H p (ps.map fun e => .ref e.1) ∧ (∀ e ∈ ps, H e.1 = some (.tup (e.2.map kV))) ∧ ps.length < 64 ∧ (∀ e ∈ ps, shK e.2 = c :: sh) ∧ (ps.map (·.2)).Nodup ∧
      ∀ out : List AK, out.Perm ps → tI (out.map (·.2)) → ∀ l, H l = none → Q (.ref l) (upd H l (.lst (out.map fun e => .ref e.1)))
  | _, _, _ => False
theorem pd (K : PySem.W.Frag) (hK : X.K = K := by rfl) : CallR X (.builtin "sorted") (qz K) := by
  subst hK
  intro pins s σ H xs us Q I r h
  unfold qz at h
  split at h
  · rename_i p
    obtain ⟨ps, c, sh, hq, hp, h64, hs, nd, q⟩ := h
    obtain ⟨u, rfl, rx⟩ := gg r
    cases (show u = Value.ref p from rx)
    obtain ⟨its, r', pl, hz⟩ := I.list hq
    have ei := w6 r'
    subst ei
    have inv : ∀ e ∈ ps, kOf ps (.ref e.1) = e.2 := fun e m => yG hp m
    have em : (ps.map fun e => Value.ref e.1).map (kOf ps) = ps.map (·.2) := by
      rw [List.map_map]
      exact List.map_congr_left fun e m => inv e m
    have hs2 : ∀ e ∈ ps.map (·.2), shK e = c :: sh := fun e m => by
      obtain ⟨z, mz, rfl⟩ := List.mem_map.mp m
      exact hs z mz
    have mk : ∀ v ∈ ps.map (fun e => Value.ref e.1), kOf ps v ∈ ps.map (·.2) := fun v m => by rw [← em]; exact List.mem_map_of_mem m
    have nd2 : ((ps.map fun e => Value.ref e.1).map fun v => (rkK (ps.map (·.2)) (kOf ps v) : Int)).Nodup := by
      rw [show (ps.map fun e => Value.ref e.1).map (fun v => (rkK (ps.map (·.2)) (kOf ps v) : Int)) = ((ps.map fun e => Value.ref e.1).map (kOf ps)).map (fun e => (rkK (ps.map (·.2)) e : Int)) by simp only [List.map_map]; rfl, em]
      refine List.pairwise_map.mpr (List.Pairwise.imp_of_mem (fun {a b} ma mb ne e => ?_) nd)
      rcases qX (a := a) (b := b) ((hs2 a ma).trans (hs2 b mb).symm) with g | g | g
      · have := (j1 hs2 ma mb).mp g; omega
      · exact ne g
      · have := (j1 hs2 mb ma).mp g; omega
    refine Srt.sorted_by (kd := tuples' true) (κ := fun v => (rkK (ps.map (·.2)) (kOf ps v) : Int)) pl.isList (by simpa using h64) nd2 (fun h2 h' kp => Srt.cmp_K (f := kOf ps) (c := c) (sh := sh) (by simpa using h2) (fun v m => ?_) (fun v m => hs2 _ (mk v m)) fun u mu v mv => j1 hs2 (mk u mu) (mk v mv)) fun out h' cc pm sr kp e => ?_
    · obtain ⟨e, me, rfl⟩ := List.mem_map.mp m
      refine ⟨e.1, rfl, ?_⟩
      rw [inv e me]
      obtain ⟨o, its, n, ho, h1⟩ := I.tupK (hp e me)
      exact ⟨o, its, n, kp _ _ ho, h1⟩
    · have fs : ∀ v ∈ out, ∃ e ∈ ps, v = Value.ref e.1 := fun v m => by
        obtain ⟨e, me, rfl⟩ := List.mem_map.mp (pm.mem_iff.mp m)
        exact ⟨e, me, rfl⟩
      let back : Value → AK := fun v => match v with | .ref a => (a, kOf ps v) | _ => (0, [])
      have bk : ∀ e ∈ ps, back (.ref e.1) = e := fun e m => by show (e.1, kOf ps (.ref e.1)) = e; rw [inv e m]
      have pm' : (out.map back).Perm ps := by
        have := pm.map back
        rwa [List.map_map, (List.map_congr_left fun e m => bk e m : ps.map (back ∘ fun e => Value.ref e.1) = ps.map id), List.map_id] at this
      have eo : out = (out.map back).map fun e => Value.ref e.1 := by
        rw [List.map_map]
        refine ((List.map_congr_left fun v m => ?_).trans (List.map_id _)).symm
        obtain ⟨e, _, rfl⟩ := fs v m
        rfl
      have so : tI ((out.map back).map (·.2)) := by
        rw [List.map_map]
        refine List.pairwise_map.mpr (List.Pairwise.imp_of_mem (fun {a b} ma mb l => ?_) sr)
        obtain ⟨ea, _, rfl⟩ := fs a ma
        obtain ⟨eb, _, rfl⟩ := fs b mb
        exact (j1 hs2 (mk _ (pm.mem_iff.mp ma)) (mk _ (pm.mem_iff.mp mb))).mpr l
      refine ⟨.ref (s.heap.objs.size + 1), _, I.laid (t' := s.toks) (a := s.heap.objs.size + 1) kp (Nat.le_succ _) (show ObjOk X.prog X.w _ h' _ (.lst ((out.map back).map fun e => .ref e.1)) from ⟨?_, out, cc, ?_, e⟩), rfl, q _ pm' so _ (I.hok.fresh (Nat.le_succ _))⟩
      · rw [List.length_map, pm'.length_eq, sizeLine_eq]; omega
      · have := q_ (out.map back)
        rwa [← eo] at this
  · exact h.elim
end
end L2
set_option Elab.async false
set_option linter.all false
set_option maxRecDepth 100000
namespace L2
open PySem PyProof.Rows
section
variable {X : Cx}
def uA (K : PySem.W.Frag) : List V → Hp → VK → Prop
  | [.ref p], H, Q => ∃ ns : List Int, SqL K H p (ns.map V.int) ∧ ns ≠ [] ∧ ∀ m ∈ ns, (∀ n ∈ ns, n ≤ m) → Q (.int m) H
  | _, _, _ => False
theorem kG {ys : Array (Int × Tok)} {i : Nat} {y : Int × Tok} (h : ys[i]? = some y) : numAt ys i = y.1 := by simp [numAt, h]
theorem sE (K : PySem.W.Frag) (hc : X.calm = true) (hK : X.K = K := by rfl) : CallR X (.builtin "max") (uA K) := by
  subst hK
  intro pins s σ H xs us Q I r h
  unfold uA at h
  split at h
  · rename_i p
    obtain ⟨ns, hq, ne, q⟩ := h
    obtain ⟨u, rfl, rx⟩ := gg r
    cases (show u = Value.ref p from rx)
    obtain ⟨its, r', pl, hz⟩ := I.list hq
    have hi := qH r'
    obtain ⟨ys, hy⟩ := hi.allInts.items
    have hn : numsOf its.toArray.toList = ns := by rw [show its.toArray.toList = its from rfl, hi.numsOf]
    have pl' := pl.isList
    rw [hy] at pl' hn
    rw [nums_intItems] at hn
    have hs : 0 < ys.size := by
      rcases Nat.eq_zero_or_pos ys.size with z | z
      · exact absurd (by rw [← hn]; simp [Array.eq_empty_of_size_eq_zero z]) ne
      · exact z
    refine max_intList (I.ok.hd hc) pl' hs fun v h' tk hv hk => ?_
    obtain ⟨b1, b2⟩ := argBest_gt (numAt ys) (ys.size - 1)
    generalize argBest (fun i j => decide (numAt ys i > numAt ys j)) (ys.size - 1) = m at hv b1 b2
    obtain ⟨t, rfl⟩ := intItems_at hv
    have hm : m < ys.size := by omega
    refine ⟨.int (numAt ys m), H, I.kept hk, ⟨_, rfl⟩, q _ ?_ fun n mn => ?_⟩
    · rw [← hn, kG (Array.getElem?_eq_getElem hm)]
      exact List.mem_map.mpr ⟨_, Array.mem_toList_iff.mpr (Array.getElem_mem hm), rfl⟩
    · rw [← hn] at mn
      obtain ⟨y, my, rfl⟩ := List.mem_map.mp mn
      obtain ⟨j, hj, ej⟩ := Array.mem_iff_getElem.mp (Array.mem_toList_iff.mp my)
      have := b2 j (by omega)
      rw [kG (Array.getElem?_eq_getElem hj), ej] at this
      exact this
  · exact h.elim
end
section
variable {prog : Program} {w : World} {A : Around} {E : Value → Shared → Prop} {s : Shared}
theorem xj {x y : Str} {t u : Tok} : CmpOf prog w A .Gt (fun i v => (#[Value.str x t, .str y u] : Array Value)[i]? = some v) (fun i j => decide (((#[x, y] : Array Str).getD j Str.empty).cps.toList < ((#[x, y] : Array Str).getD i Str.empty).cps.toList)) := fun i j vi vj s Q E hi hj h => by
  have go : ∀ {i : Nat} {v : Value}, (#[Value.str x t, .str y u] : Array Value)[i]? = some v → ∃ tk, v = .str ((#[x, y] : Array Str).getD i Str.empty) tk := fun {i v} hv => by
    match i, hv with
    | 0, hv => exact ⟨t, by simpa using hv.symm⟩
    | 1, hv => exact ⟨u, by simpa using hv.symm⟩
    | i + 2, hv => simp at hv
  obtain ⟨t1, rfl⟩ := go hi
  obtain ⟨t2, rfl⟩ := go hj
  exact richCompare_gives (op := .Gt) (typeIs_str s _ t1) (typeIs_str s _ t2) F.slot_str_gt F.entry_str_gt (F.args_str_gt_2 _ _) (gives_str_gt _ _ t1 t2) (fun x => nomatch x) h
theorem wX {x y : Str} {t u : Tok} : CmpOf prog w A .Lt (fun i v => (#[Value.str x t, .str y u] : Array Value)[i]? = some v) (fun i j => decide (((#[x, y] : Array Str).getD i Str.empty).cps.toList < ((#[x, y] : Array Str).getD j Str.empty).cps.toList)) := fun i j vi vj s Q E hi hj h => by
  have go : ∀ {i : Nat} {v : Value}, (#[Value.str x t, .str y u] : Array Value)[i]? = some v → ∃ tk, v = .str ((#[x, y] : Array Str).getD i Str.empty) tk := fun {i v} hv => by
    match i, hv with
    | 0, hv => exact ⟨t, by simpa using hv.symm⟩
    | 1, hv => exact ⟨u, by simpa using hv.symm⟩
    | i + 2, hv => simp at hv
  obtain ⟨t1, rfl⟩ := go hi
  obtain ⟨t2, rfl⟩ := go hj
  exact richCompare_gives (op := .Lt) (typeIs_str s _ t1) (typeIs_str s _ t2) F.slot_str_lt F.entry_str_lt (F.args_str_lt_2 _ _) (gives_str_lt _ _ t1 t2) (fun x => nomatch x) h
theorem pN {x y : Value} (hh : A.handled = none) {P : Value → Shared → Prop} {op : _} {bt : Nat → Nat → Bool} (hcmp : CmpOf prog w A op (fun i v => (#[x, y] : Array Value)[i]? = some v) bt)
    (h : ∀ v h' tk, (#[x, y] : Array Value)[argBest bt 1]? = some v → (∀ c o, s.heap.get? c = some o → h'.get? c = some o) → P v { s with heap := h', toks := tk }) :
    wpAny (model prog w) A (pyIter (.ref s.heap.objs.size)) (fun it s₂ => ∃ I fp wr n P' St bt, it = .ref I ∧ Walks prog w A I fp wr n P' St ∧ St 0 s₂.heap ∧ (∀ b ∈ fp, b < s₂.heap.objs.size) ∧ 0 < n ∧ CmpOf prog w A op P' bt ∧
      ∀ v h' tk, P' (argBest bt (n - 1)) v → (∀ b o, b ∉ wr → s₂.heap.get? b = some o → h'.get? b = some o) → P v { s₂ with heap := h', toks := tk }) E
      { s with heap := s.heap.push { cls := .type "tuple", data := .seq #[x, y] } } := by
  have hT : (s.heap.push { cls := .type "tuple", data := .seq #[x, y] }).IsTuple s.heap.objs.size #[x, y] := ⟨_, Heap.get?_push_size _ rfl, rfl, 0, by simp⟩
  refine wpAny_pyIter_tuple hT ?_
  have hsz : (s.heap.push { cls := .type "tuple", data := .seq #[x, y] }).objs.size = s.heap.objs.size + 1 := Heap.size_push ..
  refine ⟨_, [_, s.heap.objs.size], [_], _, _, _, _, rfl, Walks.tuple (A := A) hh _ s.heap.objs.size (by rw [hsz]; exact Nat.ne_of_lt (Nat.lt_succ_self _)) #[x, y],
    ⟨⟨_, Heap.get?_push_size _ rfl, rfl, rfl⟩, hT.push _⟩, fun c hc => ?_, by simp, hcmp, fun v h' tk hP hk => ?_⟩
  · show c < ((s.heap.push _).push _).objs.size
    rw [Heap.size_push, hsz]
    rcases List.mem_cons.mp hc with rfl | hc
    · rw [hsz]; exact Nat.lt_succ_self _
    · rcases List.mem_cons.mp hc with rfl | hc
      · exact Nat.lt_succ_of_lt (Nat.lt_succ_self _)
      · cases hc
  · refine h v h' tk hP fun c o e => ?_
    refine hk c o (fun hm => ?_) (Heap.get?_push_of_some _ (Heap.get?_push_of_some _ e))
    rcases List.mem_cons.mp hm with e1 | hm
    · have := Heap.lt_size e; rw [e1, hsz] at this; exact Nat.lt_irrefl _ (Nat.lt_of_succ_lt this)
    · cases hm
end
section
variable {X : Cx}
theorem xU {bt : Nat → Nat → Bool} (h : bt 1 0 = true) : argBest bt 1 = 1 := if_pos h
theorem xQ {bt : Nat → Nat → Bool} (h : bt 1 0 = false) : argBest bt 1 = 0 := if_neg (by rw [show bt (0 + 1) (argBest bt 0) = false from h]; decide)
def mnT (x y : Str) : Str := if cs y < cs x then y else x
def mxT (x y : Str) : Str := if cs x < cs y then y else x
def vR : List V → Hp → VK → Prop
  | [.str x, .str y], H, Q => Q (.str (mnT x y)) H
  | _, _, _ => False
def ui : List V → Hp → VK → Prop
  | [.str x, .str y], H, Q => Q (.str (mxT x y)) H
  | _, _, _ => False
theorem v8 (hc : X.calm = true) : CallR X (.builtin "min") vR := by
  intro pins s σ H xs us Q I r h
  unfold vR at h
  split at h
  · rename_i x y
    obtain ⟨u, w', rfl, ⟨t, rfl⟩, ⟨t', rfl⟩⟩ := m6 r
    refine call_min_two (pN (A := X.A.in1) (I.ok.hd hc) wX fun v h' tk hv hk => ⟨_, H, I.kept hk, ?_, h⟩)
    unfold mnT
    by_cases hl : cs y < cs x
    · have e : argBest (fun i j => decide (((#[x, y] : Array Str).getD i Str.empty).cps.toList < ((#[x, y] : Array Str).getD j Str.empty).cps.toList)) 1 = 1 := xU (decide_eq_true (show y.cps.toList < x.cps.toList from hl))
      rw [e] at hv
      rw [if_pos hl]
      exact ⟨t', by simpa using hv.symm⟩
    · have e : argBest (fun i j => decide (((#[x, y] : Array Str).getD i Str.empty).cps.toList < ((#[x, y] : Array Str).getD j Str.empty).cps.toList)) 1 = 0 := xQ (decide_eq_false (show ¬ y.cps.toList < x.cps.toList from hl))
      rw [e] at hv
      rw [if_neg hl]
      exact ⟨t, by simpa using hv.symm⟩
  · exact h.elim
theorem xt (hc : X.calm = true) : CallR X (.builtin "max") ui := by
  intro pins s σ H xs us Q I r h
  unfold ui at h
  split at h
  · rename_i x y
    obtain ⟨u, w', rfl, ⟨t, rfl⟩, ⟨t', rfl⟩⟩ := m6 r
    refine call_max_two (pN (A := X.A.in1) (I.ok.hd hc) xj fun v h' tk hv hk => ⟨_, H, I.kept hk, ?_, h⟩)
    unfold mxT
    by_cases hl : cs x < cs y
    · have e : argBest (fun i j => decide (((#[x, y] : Array Str).getD j Str.empty).cps.toList < ((#[x, y] : Array Str).getD i Str.empty).cps.toList)) 1 = 1 := xU (decide_eq_true (show x.cps.toList < y.cps.toList from hl))
      rw [e] at hv
      rw [if_pos hl]
      exact ⟨t', by simpa using hv.symm⟩
    · have e : argBest (fun i j => decide (((#[x, y] : Array Str).getD j Str.empty).cps.toList < ((#[x, y] : Array Str).getD i Str.empty).cps.toList)) 1 = 0 := xQ (decide_eq_false (show ¬ x.cps.toList < y.cps.toList from hl))
      rw [e] at hv
      rw [if_neg hl]
      exact ⟨t, by simpa using hv.symm⟩
  · exact h.elim
end
open Lean Meta Simp
def wf : List Name := wZ ++ [`L2.ya, `L2.xw, `L2.xx, `L2.gLstU]
def wI : List Name := wT ++ [`L2.uA, `L2.vR, `L2.ui, `L2.qz]
def wC (e : Lean.Expr) : MetaM (Option Lean.Expr) := do
  let .const n us := e.getAppFn | return none
  let fr := zg n || wf.contains n
  unless fr || wI.contains n do return none
  let some (.defnInfo d) := (← getEnv).find? n | return none
  let v := d.value.instantiateLevelParams d.levelParams us
  if e.getAppNumArgs < v.getNumHeadLambdas then return none
  let b := v.beta e.getAppArgs
  if fr then return some b
  match ← reduceMatcher? b with
  | .reduced r => return some r
  | .notMatcher => return some b
  | _ => return none
dsimproc_decl vm (_) := fun e => do
  match ← wC e with
  | some r => return .visit r
  | none => return .continue
end L2
set_option Elab.async false
set_option linter.all false
set_option maxRecDepth 100000
namespace L2
section
variable {κ : Type} [DecidableEq κ]
theorem j5 {kvs : List (κ × V)} {k : κ} {v : V} (h : eC kvs k = some v) : (k, v) ∈ kvs := by
  unfold eC at h
  obtain ⟨e, he, rfl⟩ := Option.map_eq_some_iff.mp h
  have h1 := List.find?_some he
  have h2 := List.mem_of_find?_eq_some he
  have h3 := of_decide_eq_true h1
  subst h3; exact h2
theorem jV {kvs : List (κ × V)} {k : κ} (h : eC kvs k = none) {v : V} : (k, v) ∉ kvs := fun m => by
  unfold eC at h
  have h1 := List.find?_eq_none.mp (Option.map_eq_none_iff.mp h) _ m
  exact h1 (decide_eq_true rfl)
theorem vy {kvs : List (κ × V)} {k : κ} {v : V} (h : (k, v) ∈ kvs) : ∃ v', eC kvs k = some v' ∧ (k, v') ∈ kvs := by
  cases e : eC kvs k with
  | none => exact absurd h (jV e)
  | some v' => exact ⟨v', rfl, j5 e⟩
theorem uK {kvs : List (κ × V)} (nd : (kvs.map (·.1)).Nodup) {k : κ} {v v' : V} (h : (k, v) ∈ kvs) (h' : (k, v') ∈ kvs) : v = v' := by
  induction kvs with
  | nil => cases h
  | cons p r ih =>
    rw [List.map_cons, List.nodup_cons] at nd
    rcases List.mem_cons.mp h with e | m
    · rcases List.mem_cons.mp h' with e' | m'
      · rw [← e] at e'; exact (Prod.mk.inj e').2.symm
      · exact absurd (List.mem_map.mpr ⟨_, m', rfl⟩) (by rw [← e] at nd; exact nd.1)
    · rcases List.mem_cons.mp h' with e' | m'
      · exact absurd (List.mem_map.mpr ⟨_, m, rfl⟩) (by rw [← e'] at nd; exact nd.1)
      · exact ih nd.2 m m'
theorem cG {kvs : List (κ × V)} {k : κ} {v : V} {x : κ × V} : x ∈ cH kvs k v ↔ x = (k, v) ∨ (x ∈ kvs ∧ x.1 ≠ k) := by
  unfold cH
  split
  · rename_i h
    obtain ⟨e, me, he⟩ := List.any_eq_true.mp h
    have he := of_decide_eq_true he
    constructor
    · intro m
      obtain ⟨z, mz, rfl⟩ := List.mem_map.mp m
      split
      · rename_i q; exact .inl (by rw [q])
      · rename_i q; exact .inr ⟨mz, q⟩
    · rintro (rfl | ⟨m, n⟩)
      · exact List.mem_map.mpr ⟨e, me, by rw [if_pos he, he]⟩
      · exact List.mem_map.mpr ⟨x, m, by rw [if_neg n]⟩
  · rename_i h
    rw [List.mem_append, List.mem_singleton]
    constructor
    · rintro (m | e)
      · refine .inr ⟨m, fun z => h (List.any_eq_true.mpr ⟨x, m, decide_eq_true z⟩)⟩
      · exact .inl e
    · rintro (e | ⟨m, _⟩)
      · exact .inr e
      · exact .inl m
theorem v9 (kvs : List (κ × V)) (k : κ) (v : V) : (cH kvs k v).map (·.1) = if (kvs.any fun kv => decide (kv.1 = k)) = true then kvs.map (·.1) else kvs.map (·.1) ++ [k] := by
  unfold cH
  split
  · rw [List.map_map]
    apply List.map_congr_left
    intro e _
    show (if e.1 = k then (e.1, v) else e).1 = e.1
    split <;> rfl
  · rw [List.map_append]; rfl
theorem pe {kvs : List (κ × V)} {k : κ} {v : V} (nd : (kvs.map (·.1)).Nodup) : ((cH kvs k v).map (·.1)).Nodup := by
  rw [v9]
  split
  · exact nd
  · rename_i h
    rw [List.nodup_append]
    refine ⟨nd, by simp, fun x mx y my => ?_⟩
    rw [List.mem_singleton.mp my]
    rintro rfl
    obtain ⟨e, me, rfl⟩ := List.mem_map.mp mx
    exact h (List.any_eq_true.mpr ⟨e, me, decide_eq_true rfl⟩)
theorem ip (kvs : List (κ × V)) (k : κ) (v : V) : (cH kvs k v).length ≤ kvs.length + 1 := by
  unfold cH
  split
  · rw [List.length_map]; omega
  · rw [List.length_append]; exact Nat.le_refl _
end
structure Qr where
  d : Int
  a : List Nat
  p : Int
  b : List Nat
  q : Int
abbrev Wt := Int × Int
def hit (r : Qr) (x y : List Nat) : Option Wt := if r.a = x ∧ r.b = y then some (r.p, r.q) else if r.a = y ∧ r.b = x then some (r.q, r.p) else none
def j9 (r : Qr) (x y : List Nat) (D : Int) (o : Option Wt) : Option Wt := if r.d = D then (hit r x y).or o else o
def val (R : List Qr) (x y : List Nat) (D : Int) : Option Wt := R.foldl (fun o r => j9 r x y D o) none
theorem eM (R : List Qr) (r : Qr) (x y : List Nat) (D : Int) : val (R ++ [r]) x y D = j9 r x y D (val R x y D) := by
  unfold val; rw [List.foldl_append]; rfl
def inQ (R : List Qr) (c : List Nat) : Prop := ∃ r ∈ R, r.a = c ∨ r.b = c
theorem pG {R : List Qr} {r : Qr} {c : List Nat} : inQ (R ++ [r]) c ↔ inQ R c ∨ r.a = c ∨ r.b = c := by
  constructor
  · rintro ⟨z, m, h⟩
    rcases List.mem_append.mp m with m | m
    · exact .inl ⟨z, m, h⟩
    · rw [List.mem_singleton.mp m] at h; exact .inr h
  · rintro (⟨z, m, h⟩ | h)
    · exact ⟨z, List.mem_append_left _ m, h⟩
    · exact ⟨r, List.mem_append_right _ (.head _), h⟩
def swp (w : Wt) : Wt := (w.2, w.1)
def dB (R : List Qr) : Prop := ∀ r ∈ R, r.a ≠ r.b
theorem vW {r : Qr} (n : r.a ≠ r.b) (x y : List Nat) : hit r y x = (hit r x y).map swp := by
  unfold hit
  by_cases h1 : r.a = x ∧ r.b = y
  · rw [if_pos h1, if_neg (fun z => n (z.1.trans h1.2.symm)), if_pos h1]; rfl
  · by_cases h2 : r.a = y ∧ r.b = x
    · rw [if_pos h2, if_neg h1, if_pos h2]; rfl
    · rw [if_neg h2, if_neg h1, if_neg h1, if_neg h2]; rfl
theorem lu {α : Type} {P : List α → Prop} (h0 : P []) (h1 : ∀ l x, P l → P (l ++ [x])) : ∀ l, P l := fun l => by
  rw [← List.reverse_reverse l]
  generalize l.reverse = m
  induction m with
  | nil => exact h0
  | cons x m ih => rw [List.reverse_cons]; exact h1 _ _ ih
theorem uJ (x y : List Nat) (D : Int) : ∀ R : List Qr, dB R → val R y x D = (val R x y D).map swp := by
  refine lu (fun _ => rfl) fun R r ih n => ?_
  have ih := ih fun z m => n z (List.mem_append_left _ m)
  have nr := n r (List.mem_append_right _ (.head _))
  rw [eM, eM, ih]
  unfold j9
  split
  · rw [vW nr]
    cases hit r x y <;> rfl
  · rfl
theorem xf (x : List Nat) (D : Int) : ∀ R : List Qr, dB R → val R x x D = none := by
  refine lu (fun _ => rfl) fun R r ih n => ?_
  have ih := ih fun z m => n z (List.mem_append_left _ m)
  have nr := n r (List.mem_append_right _ (.head _))
  have h : hit r x x = none := by
    unfold hit
    rw [if_neg fun z => nr (z.1.trans z.2.symm), if_neg fun z => nr (z.1.trans z.2.symm)]
  rw [eM, ih]
  unfold j9
  rw [h]; split <;> rfl
def fW (f : Int → Option Wt) (d : Int) : Option (Int × Wt) → Prop
  | none => ∀ D, D ≤ d → f D = none
  | some e => e.1 ≤ d ∧ f e.1 = some e.2 ∧ ∀ D, D ≤ d → f D ≠ none → D ≤ e.1
theorem uE {f : Int → Option Wt} {d : Int} : ∀ {o o' : Option (Int × Wt)}, fW f d o → fW f d o' → o = o'
  | none, none, _, _ => rfl
  | none, some e, h, h' => by have := h _ h'.1; rw [h'.2.1] at this; cases this
  | some e, none, h, h' => by have := h' _ h.1; rw [h.2.1] at this; cases this
  | some e, some e', h, h' => by
    have h1 := h.2.2 e'.1 h'.1 (by rw [h'.2.1]; exact fun z => nomatch z)
    have h2 := h'.2.2 e.1 h.1 (by rw [h.2.1]; exact fun z => nomatch z)
    have e1 : e.1 = e'.1 := by omega
    have e2 := h.2.1
    rw [e1, h'.2.1] at e2
    exact congrArg some (Prod.ext e1 (Option.some.inj e2).symm)
theorem wN {f g : Int → Option Wt} {d : Int} {t : Wt → Wt} (h : ∀ D, g D = (f D).map t) : ∀ {o : Option (Int × Wt)}, fW f d o → fW g d (o.map fun e => (e.1, t e.2))
  | none, n => fun D l => by rw [h, n D l]; rfl
  | some e, n => ⟨n.1, by rw [h, n.2.1]; rfl, fun D l z => n.2.2 D l fun q => z (by rw [h, q]; rfl)⟩
def nxt (r : Qr) (x y : List Nat) (d : Int) (o : Option (Int × Wt)) : Option (Int × Wt) :=
  if r.d ≤ d ∧ (∀ e, o = some e → e.1 ≤ r.d) then (match hit r x y with | some w => some (r.d, w) | none => o) else o
theorem wa {R : List Qr} {x y : List Nat} {d : Int} {r : Qr} {o : Option (Int × Wt)} (h : fW (val R x y) d o) : fW (val (R ++ [r]) x y) d (nxt r x y d o) := by
  have hv : ∀ D, val (R ++ [r]) x y D = j9 r x y D (val R x y D) := fun D => eM R r x y D
  unfold nxt
  cases e : hit r x y with
  | none =>
    have hv : val (R ++ [r]) x y = val R x y := by
      funext D; rw [hv]; unfold j9; rw [e]; split <;> rfl
    rw [hv]
    split <;> exact h
  | some w =>
    have v1 : val (R ++ [r]) x y r.d = some w := by rw [hv]; unfold j9; rw [if_pos rfl, e]; rfl
    have v2 : ∀ D, D ≠ r.d → val (R ++ [r]) x y D = val R x y D := fun D n => by rw [hv]; unfold j9; rw [if_neg (Ne.symm n)]
    split
    · rename_i c
      refine ⟨c.1, v1, fun D l z => ?_⟩
      show D ≤ r.d
      by_cases hD : D = r.d
      · omega
      · rw [v2 D hD] at z
        cases o with
        | none => exact absurd (h D l) z
        | some b =>
          have := h.2.2 D l z
          have := c.2 b rfl
          omega
    · rename_i c
      cases o with
      | none =>
        intro D l
        by_cases hD : D = r.d
        · exact absurd ⟨by omega, fun _ z => nomatch z⟩ c
        · rw [v2 D hD]; exact h D l
      | some b =>
        have hb : b.1 ≠ r.d := fun z => c ⟨by rw [← z]; exact h.1, fun e' he => by cases he; omega⟩
        refine ⟨h.1, by rw [v2 _ hb]; exact h.2.1, fun D l z => ?_⟩
        by_cases hD : D = r.d
        · by_cases hl : r.d ≤ d
          · have : ¬ ∀ e', some b = some e' → e'.1 ≤ r.d := fun q => c ⟨hl, q⟩
            have : ¬ b.1 ≤ r.d := fun q => this fun e' he => by cases he; exact q
            omega
          · omega
        · rw [v2 D hD] at z; exact h.2.2 D l z
abbrev qK (D : Int) (x y : List Nat) (w : Wt) : List Key := [.inl D, .inr ⟨⟨x⟩⟩, .inl w.1, .inr ⟨⟨y⟩⟩, .inl w.2]
def IsQ (f : List Nat → List Nat → Int → Option Wt) (k : List Key) : Prop := ∃ D x y w, x < y ∧ f x y D = some w ∧ k = qK D x y w
theorem qY {D D' : Int} {x y x' y' : List Nat} {w w' : Wt} (h : qK D x y w = qK D' x' y' w') : D = D' ∧ x = x' ∧ y = y' ∧ w = w' := by
  injection h with h1 h
  injection h with h2 h
  injection h with h3 h
  injection h with h4 h
  injection h with h5 h
  injection h1 with h1
  injection h2 with h2; injection h2 with h2; injection h2 with h2
  injection h3 with h3
  injection h4 with h4; injection h4 with h4; injection h4 with h4
  injection h5 with h5
  exact ⟨h1, h2, h4, Prod.ext h3 h5⟩
theorem xp {a b : List (List Nat)} (na : a.Nodup) (nb : b.Nodup) (h : ∀ x, x ∈ a ↔ x ∈ b) (oa : InO a) (ob : InO b) : a = b :=
  pP ((List.perm_ext_iff_of_nodup na nb).mpr h) oa ob
theorem m4 {r : Qr} {a b : List Nat} {p q : Int} (hh : (r.a = a ∧ r.b = b ∧ r.p = p ∧ r.q = q) ∨ (r.a = b ∧ r.b = a ∧ r.p = q ∧ r.q = p)) (ab : a < b) (x y : List Nat) (xy : x < y) (D : Int) (o : Option Wt) :
    j9 r x y D o = if x = a ∧ y = b ∧ D = r.d then some (p, q) else o := by
  have nab : a ≠ b := fun z => List.lt_irrefl _ (z ▸ ab)
  have nlt : ¬ b < a := fun z => List.lt_irrefl _ (List.lt_trans ab z)
  have n1 : ¬ (a = y ∧ b = x) := fun z => nlt (by rw [z.1, z.2]; exact xy)
  unfold j9 hit
  rcases hh with ⟨h1, h2, h3, h4⟩ | ⟨h1, h2, h3, h4⟩
  · rw [h1, h2, h3, h4, if_neg n1]
    by_cases c : x = a ∧ y = b ∧ D = r.d
    · rw [if_pos c, if_pos c.2.2.symm, if_pos ⟨c.1.symm, c.2.1.symm⟩]; rfl
    · rw [if_neg c]
      by_cases cd : r.d = D
      · rw [if_pos cd, if_neg fun z => c ⟨z.1.symm, z.2.symm, cd.symm⟩]; rfl
      · rw [if_neg cd]
  · rw [h1, h2, h3, h4]
    have n2 : ¬ (b = x ∧ a = y) := fun z => n1 ⟨z.2, z.1⟩
    rw [if_neg n2]
    by_cases c : x = a ∧ y = b ∧ D = r.d
    · rw [if_pos c, if_pos c.2.2.symm, if_pos ⟨c.2.1.symm, c.1.symm⟩]; rfl
    · rw [if_neg c]
      by_cases cd : r.d = D
      · rw [if_pos cd, if_neg fun z => c ⟨z.2.symm, z.1.symm, cd.symm⟩]; rfl
      · rw [if_neg cd]
theorem yP {td : TE} {n i : Nat} {g : TG} {ks : List Nat} {tt : TT} {te : TE} {σ : St} {H : Hp} {D : dU} (h : sw (dS (pV td) n g ks tt te) σ H fun v H1 => D.nx (σ.set i (some v)) H1) : uL (u6 (dS (pV td) n g ks tt te) (hR i)) D σ H := h
theorem qT {α : Type} [DecidableEq α] : ∀ {l l' : List α}, l.Nodup → (∀ x ∈ l, x ∈ l') → l.length ≤ l'.length
  | [], _, _, _ => Nat.zero_le _
  | x :: r, l', nd, s => by
    rw [List.nodup_cons] at nd
    have m := s x (.head _)
    have ih := qT (l := r) (l' := l'.erase x) nd.2 fun y my => (List.mem_erase_of_ne (fun e : y = x => nd.1 (e ▸ my))).mpr (s y (.tail _ my))
    rw [List.length_erase_of_mem m] at ih
    have := List.length_pos_of_mem m
    rw [List.length_cons]; omega
theorem xi {x y : List Nat} {D : Int} : ∀ (R : List Qr) {w : Wt}, val R x y D = some w → ∃ r ∈ R, r.d = D ∧ ((r.a = x ∧ r.b = y) ∨ (r.a = y ∧ r.b = x)) := by
  refine lu (fun h => nomatch h) fun R r ih w h => ?_
  rw [eM] at h
  have old : val R x y D = some w → ∃ r' ∈ R ++ [r], r'.d = D ∧ ((r'.a = x ∧ r'.b = y) ∨ (r'.a = y ∧ r'.b = x)) := fun h => by
    obtain ⟨r', m, q⟩ := ih h
    exact ⟨r', List.mem_append_left _ m, q⟩
  unfold j9 at h
  split at h
  · rename_i e
    unfold hit at h
    by_cases h1 : r.a = x ∧ r.b = y
    · exact ⟨r, List.mem_append_right _ (.head _), e, .inl h1⟩
    · by_cases h2 : r.a = y ∧ r.b = x
      · exact ⟨r, List.mem_append_right _ (.head _), e, .inr h2⟩
      · rw [if_neg h1, if_neg h2] at h; exact old h
  · exact old h
def nrm (r : Qr) : Int × List Nat × List Nat := if r.a < r.b then (r.d, r.a, r.b) else (r.d, r.b, r.a)
def trp : List Key → Int × List Nat × List Nat
  | [.inl D, .inr x, _, .inr y, _] => (D, x.cps.toList, y.cps.toList)
  | _ => (0, [], [])
theorem og {R : List Qr} {ks : List (List Key)} (nd : ks.Nodup) (h : ∀ k ∈ ks, IsQ (val R) k) : ks.length ≤ R.length := by
  have n2 : (ks.map trp).Nodup := List.pairwise_map.mpr ((List.Pairwise.and_mem.mp nd).imp fun {a b} ⟨ma, mb, ne⟩ q => by
    obtain ⟨D, x, y, w, _, e1, rfl⟩ := h a ma
    obtain ⟨D', x', y', w', _, e2, rfl⟩ := h b mb
    have q2 : (D, x, y) = (D', x', y') := q
    clear q
    simp only [Prod.mk.injEq] at q2
    obtain ⟨rfl, rfl, rfl⟩ := q2
    rw [e1] at e2; cases e2
    exact ne rfl)
  have := qT (l' := R.map nrm) n2 fun z mz => by
    obtain ⟨k, mk, rfl⟩ := List.mem_map.mp mz
    obtain ⟨D, x, y, w, xy, e1, rfl⟩ := h k mk
    obtain ⟨r, mr, rd, ⟨ra, rb⟩ | ⟨ra, rb⟩⟩ := xi R e1
    · refine List.mem_map.mpr ⟨r, mr, ?_⟩
      unfold nrm; rw [ra, rb, rd, if_pos xy]; rfl
    · refine List.mem_map.mpr ⟨r, mr, ?_⟩
      unfold nrm; rw [ra, rb, rd, if_neg (fun z => List.lt_irrefl _ (List.lt_trans xy z))]; rfl
  rwa [List.length_map, List.length_map] at this
theorem kz {G G' : Hp} {e : PySem.Addr} {o : PySem.Obj} {u : HO} (s : Same (upd G e (.frz o u)) G') (h : G e = some u) : Same G (upd G' e u) := fun c z q => by
  by_cases hc : c = e
  · subst hc; rw [h] at q; cases q; exact ac
  · rw [af hc]; exact s c z ((af hc).trans q)
end L2
set_option maxHeartbeats 400000
namespace K9
open PySem L2
structure Adr where
  ie : Addr
  jF : FuncData
  ir : Addr
  jv : FuncData
  gc : Addr
  iS : FuncData
  kl : Addr
  mU : FuncData
  dI : Addr
  gs : FuncData
  dY : Addr
  fu : FuncData
  eK : Addr
  fT : FuncData
  dt : Addr
  ef : FuncData
  dG : Addr
  gJ : FuncData
  eS : Addr
  iD : FuncData
  d6 : Addr
  fF : FuncData
  cL : Addr
  d7 : FuncData
  fK : Addr
  jB : FuncData
  cD : Addr
  gh : FuncData
  gG : Addr
  iC : FuncData
  cQ : Addr
  d9 : FuncData
  dD : Addr
  eY : FuncData
  eE : Addr
  h8 : FuncData
  eW : Addr
  iY : FuncData
  dL : Addr
  f_ : FuncData
  di : Addr
  fA : FuncData
  dZ : Addr
  fo : FuncData
  cI : Addr
  uu : FuncData
  c_ : Addr
  eZ : FuncData
  dM : Addr
  fZ : FuncData
  dv : Addr
  hV : FuncData
  eA : Addr
  hZ : FuncData
  bU : Addr
  cU : FuncData
  dk : Addr
  d_ : FuncData
  eG : Addr
  fS : FuncData
  ez : Addr
  ci : Addr
  aL : Addr
  bP : Addr
  gk : Addr
  aq : Addr
structure Txt (K : PySem.W.Frag) (mg : Str → Option Value) (a : Adr) : Prop where
  iy : Fun K "is_whole" "is_whole" cN a.ie a.jF
  qc : mg "is_whole" = some (.ref a.ie)
  eI : Fun K "is_among" "is_among" cO a.ir a.jv
  lb : mg "is_among" = some (.ref a.ir)
  gj : Fun K "signs_lie" "signs_lie" cB a.gc a.iS
  pK : mg "signs_lie" = some (.ref a.gc)
  lw : Fun K "is_day" "is_day" dz a.kl a.mU
  uS : mg "is_day" = some (.ref a.kl)
  dF : Fun K "is_currency" "is_currency" bG a.dI a.gs
  g9 : mg "is_currency" = some (.ref a.dI)
  df : Fun K "is_coin_count" "is_coin_count" bv a.dY a.fu
  fQ : mg "is_coin_count" = some (.ref a.dY)
  aX : Fun K "_law_cell_at" "_law_cell_at" bI a.eK a.fT
  gK : mg "_law_cell_at" = some (.ref a.eK)
  aK : Fun K "_law_currency_by" "_law_currency_by" aP a.dt a.ef
  ig : mg "_law_currency_by" = some (.ref a.dt)
  fe : Fun K "_law_newest" "_law_newest" bE a.dG a.gJ
  lN : mg "_law_newest" = some (.ref a.dG)
  gn : Fun K "_law_word" "_law_word" b9 a.eS a.iD
  pT : mg "_law_word" = some (.ref a.eS)
  cV : Fun K "_law_is_whole" "_law_is_whole" bu a.d6 a.fF
  dR : mg "_law_is_whole" = some (.ref a.d6)
  cR : Fun K "_law_is_currency" "_law_is_currency" aM a.cL a.d7
  eL : mg "_law_is_currency" = some (.ref a.cL)
  cJ : Fun K "_law_due" "_law_due" cE a.fK a.jB
  qI : mg "_law_due" = some (.ref a.fK)
  bR : Fun K "_law_spoilt" "_law_spoilt" aD a.cD a.gh
  lK : mg "_law_spoilt" = some (.ref a.cD)
  cy : Fun K "_law_told" "_law_told" cv a.gG a.iC
  qa : mg "_law_told" = some (.ref a.gG)
  bO : Fun K "_law_newest_good" "_law_newest_good" aJ a.cQ a.d9
  dq : mg "_law_newest_good" = some (.ref a.cQ)
  aQ : Fun K "_law_pair_good" "_law_pair_good" bg a.dD a.eY
  fq : mg "_law_pair_good" = some (.ref a.dD)
  fN : Fun K "_law_lists" "_law_lists" bS a.eE a.h8
  nB : mg "_law_lists" = some (.ref a.eE)
  eU : Fun K "_law_list" "_law_list" b_ a.eW a.iY
  jw : mg "_law_list" = some (.ref a.eW)
  a_ : Fun K "_law_listed" "_law_listed" bF a.dL a.f_
  fb : mg "_law_listed" = some (.ref a.dL)
  dW : Fun K "_law_all_good" "_law_all_good" aY a.di a.fA
  jN : mg "_law_all_good" = some (.ref a.di)
  aZ : Fun K "_law_end_good" "_law_end_good" bp a.dZ a.fo
  jM : mg "_law_end_good" = some (.ref a.dZ)
  AE : Fun K "law" "law" bX a.cI a.uu
  Ba : mg "law" = some (.ref a.cI)
  ba : Fun K "__init__" "Rates.__init__" bf a.c_ a.eZ
  sC : lE K a.aq "__init__" a.c_
  hJ : Fun K "quote" "Rates.quote" bD a.dM a.fZ
  j8 : lE K a.aq "quote" a.dM
  iF : Fun K "keep" "Rates.keep" bq a.dv a.hV
  hX : lE K a.aq "keep" a.dv
  iN : Fun K "link" "Rates.link" bQ a.eA a.hZ
  hU : lE K a.aq "link" a.eA
  cF : Fun K "newest" "Rates.newest" aW a.bU a.cU
  dP : lE K a.aq "newest" a.bU
  eN : Fun K "currencies" "Rates.currencies" aO a.dk a.d_
  gW : lE K a.aq "currencies" a.dk
  gH : Fun K "quotes" "Rates.quotes" bJ a.eG a.fS
  jQ : lE K a.aq "quotes" a.eG
  ng : mg "HouseError" = some (.ref a.ez)
  p_ : mg "BadDay" = some (.ref a.ci)
  ic : mg "BadCurrency" = some (.ref a.aL)
  lZ : mg "BadRate" = some (.ref a.bP)
  uT : mg "NoRate" = some (.ref a.gk)
  rB : mg "Rates" = some (.ref a.aq)
  bT : Cls K a.aq
  dh : NoAttr K a.aq "by_pair"
  eJ : NoAttr K a.aq "beside"
  pM : Mk K a.aq a.c_
  lL : PySem.W.excIn K a.aL [.type "ValueError", .type "Exception", .type "BaseException", .type "object"] "ValueError.__new__" = true
  de : dX K a.aL
  ff : PySem.W.exmOne K (.ref a.aL) (.ref a.ez) = some true
  eR : PySem.W.kitOne K (.ref a.aL) (.ref a.aL) = some true
  gw : PySem.W.kitOne K (.ref a.aL) (.ref a.ci) = some false
  fV : PySem.W.kitOne K (.ref a.aL) (.ref a.bP) = some false
  gl : PySem.W.kitOne K (.ref a.aL) (.ref a.gk) = some false
  fc : PySem.W.kitOne K (.ref a.aL) (.type "ValueError") = some true
  vL : PySem.W.excIn K a.ci [.type "ValueError", .type "Exception", .type "BaseException", .type "object"] "ValueError.__new__" = true
  gb : dX K a.ci
  gX : PySem.W.exmOne K (.ref a.ci) (.ref a.ez) = some true
  fX : PySem.W.kitOne K (.ref a.ci) (.ref a.aL) = some false
  jL : PySem.W.kitOne K (.ref a.ci) (.ref a.ci) = some true
  jj : PySem.W.kitOne K (.ref a.ci) (.ref a.bP) = some false
  jK : PySem.W.kitOne K (.ref a.ci) (.ref a.gk) = some false
  gU : PySem.W.kitOne K (.ref a.ci) (.type "ValueError") = some true
  sU : PySem.W.excIn K a.bP [.type "ValueError", .type "Exception", .type "BaseException", .type "object"] "ValueError.__new__" = true
  fG : dX K a.bP
  gz : PySem.W.exmOne K (.ref a.bP) (.ref a.ez) = some true
  fU : PySem.W.kitOne K (.ref a.bP) (.ref a.aL) = some false
  jk : PySem.W.kitOne K (.ref a.bP) (.ref a.ci) = some false
  iG : PySem.W.kitOne K (.ref a.bP) (.ref a.bP) = some true
  i9 : PySem.W.kitOne K (.ref a.bP) (.ref a.gk) = some false
  gB : PySem.W.kitOne K (.ref a.bP) (.type "ValueError") = some true
  oI : mg "ValueError" = none
  Af : mg "abs" = none
  Ae : mg "all" = none
  qV : mg "bool" = none
  rj : mg "int" = none
  aU : mg "isinstance" = none
  ko : mg "len" = none
  vg : mg "list" = none
  rF : mg "max" = none
  ue : mg "min" = none
  iK : mg "range" = none
  iI : mg "sorted" = none
  xG : mg "str" = none
  v_ : mg "tuple" = none
theorem lU : bootBuiltins "ValueError" = some (.type "ValueError") := by decide +kernel
theorem zI : bootBuiltins "abs" = some (.builtin "abs") := by decide +kernel
theorem y6 : bootBuiltins "all" = some (.builtin "all") := by decide +kernel
theorem oG : bootBuiltins "bool" = some (.type "bool") := by decide +kernel
theorem n9 : bootBuiltins "int" = some (.type "int") := by decide +kernel
theorem aN : bootBuiltins "isinstance" = some (.builtin "isinstance") := by decide +kernel
theorem ik : bootBuiltins "len" = some (.builtin "len") := by decide +kernel
theorem rJ : bootBuiltins "list" = some (.type "list") := by decide +kernel
theorem oj : bootBuiltins "max" = some (.builtin "max") := by decide +kernel
theorem qu : bootBuiltins "min" = some (.builtin "min") := by decide +kernel
theorem gQ : bootBuiltins "sorted" = some (.builtin "sorted") := by decide +kernel
theorem uo : bootBuiltins "str" = some (.type "str") := by decide +kernel
theorem ug : bootBuiltins "tuple" = some (.type "tuple") := by decide +kernel
theorem pj : aF ["thing"] ["thing"] (ad cN) := ⟨rfl, rfl, rfl, by decide +kernel, rfl, by decide +kernel, by decide +kernel⟩
theorem o9 {K : PySem.W.Frag} {f : Addr} {fd : FuncData} (F : Fun K "is_whole" "is_whole" cN f fd) : Binds K fd ["thing"] [] := F.binds (ps := ["thing"]) fun _ _ _ _ _ _ us hl => by obtain ⟨_, rfl⟩ := ex1 hl; rfl
theorem pE : aF ["thing", "least", "most"] ["thing", "least", "most"] (ad cO) := ⟨rfl, rfl, rfl, by decide +kernel, rfl, by decide +kernel, by decide +kernel⟩
theorem ju {K : PySem.W.Frag} {f : Addr} {fd : FuncData} (F : Fun K "is_among" "is_among" cO f fd) : Binds K fd ["thing", "least", "most"] [] := F.binds (ps := ["thing", "least", "most"]) fun _ _ _ _ _ _ us hl => by obtain ⟨_, _, _, rfl⟩ := ex3 hl; rfl
theorem om : aF ["text", "least", "most"] ["text", "least", "most"] (ad cB) := ⟨rfl, rfl, rfl, by decide +kernel, rfl, by decide +kernel, by decide +kernel⟩
theorem nj {K : PySem.W.Frag} {f : Addr} {fd : FuncData} (F : Fun K "signs_lie" "signs_lie" cB f fd) : Binds K fd ["text", "least", "most"] [] := F.binds (ps := ["text", "least", "most"]) fun _ _ _ _ _ _ us hl => by obtain ⟨_, _, _, rfl⟩ := ex3 hl; rfl
theorem tT : aF ["thing"] ["thing"] (ad dz) := ⟨rfl, rfl, rfl, by decide +kernel, rfl, by decide +kernel, by decide +kernel⟩
theorem sY {K : PySem.W.Frag} {f : Addr} {fd : FuncData} (F : Fun K "is_day" "is_day" dz f fd) : Binds K fd ["thing"] [] := F.binds (ps := ["thing"]) fun _ _ _ _ _ _ us hl => by obtain ⟨_, rfl⟩ := ex1 hl; rfl
theorem kM : aF ["thing"] ["thing"] (ad bG) := ⟨rfl, rfl, rfl, by decide +kernel, rfl, by decide +kernel, by decide +kernel⟩
theorem kX {K : PySem.W.Frag} {f : Addr} {fd : FuncData} (F : Fun K "is_currency" "is_currency" bG f fd) : Binds K fd ["thing"] [] := F.binds (ps := ["thing"]) fun _ _ _ _ _ _ us hl => by obtain ⟨_, rfl⟩ := ex1 hl; rfl
theorem je : aF ["thing"] ["thing"] (ad bv) := ⟨rfl, rfl, rfl, by decide +kernel, rfl, by decide +kernel, by decide +kernel⟩
theorem jq {K : PySem.W.Frag} {f : Addr} {fd : FuncData} (F : Fun K "is_coin_count" "is_coin_count" bv f fd) : Binds K fd ["thing"] [] := F.binds (ps := ["thing"]) fun _ _ _ _ _ _ us hl => by obtain ⟨_, rfl⟩ := ex1 hl; rfl
theorem jJ : aF ["_law_script", "_law_k"] ["_law_script", "_law_k"] (ad bI) := ⟨rfl, rfl, rfl, by decide +kernel, rfl, by decide +kernel, by decide +kernel⟩
theorem bM {K : PySem.W.Frag} {f : Addr} {fd : FuncData} (F : Fun K "_law_cell_at" "_law_cell_at" bI f fd) : Binds K fd ["_law_script", "_law_k"] [] := F.binds (ps := ["_law_script", "_law_k"]) fun _ _ _ _ _ _ us hl => by obtain ⟨_, _, rfl⟩ := ex2 hl; rfl
theorem eh : aF ["_law_cell", "_law_k", "_law_letters", "_law_first", "_law_signs"] ["_law_cell", "_law_k"] (ad aP) := ⟨rfl, rfl, rfl, by decide +kernel, rfl, by decide +kernel, by decide +kernel⟩
theorem aS {K : PySem.W.Frag} {f : Addr} {fd : FuncData} (F : Fun K "_law_currency_by" "_law_currency_by" aP f fd) : Binds K fd ["_law_cell", "_law_k"] [] := F.binds (ps := ["_law_cell", "_law_k"]) fun _ _ _ _ _ _ us hl => by obtain ⟨_, _, rfl⟩ := ex2 hl; rfl
theorem gA : aF ["_law_told_here", "_law_one", "_law_other", "_law_day", "_law_best", "_law_row"] ["_law_told_here", "_law_one", "_law_other", "_law_day"] (ad bE) := ⟨rfl, rfl, rfl, by decide +kernel, rfl, by decide +kernel, by decide +kernel⟩
theorem kK {K : PySem.W.Frag} {f : Addr} {fd : FuncData} (F : Fun K "_law_newest" "_law_newest" bE f fd) : Binds K fd ["_law_told_here", "_law_one", "_law_other", "_law_day"] [] := F.binds (ps := ["_law_told_here", "_law_one", "_law_other", "_law_day"]) fun _ _ _ _ _ _ us hl => by obtain ⟨_, _, _, _, rfl⟩ := ex4 hl; rfl
theorem i3 : aF ["_law_e", "_law_found"] ["_law_e"] (ad b9) := ⟨rfl, rfl, rfl, by decide +kernel, rfl, by decide +kernel, by decide +kernel⟩
theorem ow {K : PySem.W.Frag} {f : Addr} {fd : FuncData} (F : Fun K "_law_word" "_law_word" b9 f fd) : Binds K fd ["_law_e"] [] := F.binds (ps := ["_law_e"]) fun _ _ _ _ _ _ us hl => by obtain ⟨_, rfl⟩ := ex1 hl; rfl
theorem jp : aF ["_law_thing", "_law_least", "_law_most"] ["_law_thing", "_law_least", "_law_most"] (ad bu) := ⟨rfl, rfl, rfl, by decide +kernel, rfl, by decide +kernel, by decide +kernel⟩
theorem ja {K : PySem.W.Frag} {f : Addr} {fd : FuncData} (F : Fun K "_law_is_whole" "_law_is_whole" bu f fd) : Binds K fd ["_law_thing", "_law_least", "_law_most"] [] := F.binds (ps := ["_law_thing", "_law_least", "_law_most"]) fun _ _ _ _ _ _ us hl => by obtain ⟨_, _, _, rfl⟩ := ex3 hl; rfl
theorem gY : aF ["_law_thing"] ["_law_thing"] (ad aM) := ⟨rfl, rfl, rfl, by decide +kernel, rfl, by decide +kernel, by decide +kernel⟩
theorem gZ {K : PySem.W.Frag} {f : Addr} {fd : FuncData} (F : Fun K "_law_is_currency" "_law_is_currency" aM f fd) : Binds K fd ["_law_thing"] [] := F.binds (ps := ["_law_thing"]) fun _ _ _ _ _ _ us hl => by obtain ⟨_, rfl⟩ := ex1 hl; rfl
theorem jG : aF ["_law_row", "_law_day", "_law_one", "_law_p", "_law_other", "_law_q"] ["_law_row"] (ad cE) := ⟨rfl, rfl, rfl, by decide +kernel, rfl, by decide +kernel, by decide +kernel⟩
theorem cY {K : PySem.W.Frag} {f : Addr} {fd : FuncData} (F : Fun K "_law_due" "_law_due" cE f fd) : Binds K fd ["_law_row"] [] := F.binds (ps := ["_law_row"]) fun _ _ _ _ _ _ us hl => by obtain ⟨_, rfl⟩ := ex1 hl; rfl
theorem gE : aF ["_law_row", "_law_cell", "_law_more", "_law_day", "_law_one", "_law_p", "_law_other", "_law_q", "_law_far", "_law_wrong", "_law_coin", "_law_count", "_law_some"] ["_law_row", "_law_cell", "_law_more"] (ad aD) := ⟨rfl, rfl, rfl, by decide +kernel, rfl, by decide +kernel, by decide +kernel⟩
theorem cj {K : PySem.W.Frag} {f : Addr} {fd : FuncData} (F : Fun K "_law_spoilt" "_law_spoilt" aD f fd) : Binds K fd ["_law_row", "_law_cell", "_law_more"] [] := F.binds (ps := ["_law_row", "_law_cell", "_law_more"]) fun _ _ _ _ _ _ us hl => by obtain ⟨_, _, _, rfl⟩ := ex3 hl; rfl
theorem i5 : aF ["_law_rates", "_law_row", "_law_found", "_law_e"] ["_law_rates", "_law_row"] (ad cv) := ⟨rfl, rfl, rfl, by decide +kernel, rfl, by decide +kernel, by decide +kernel⟩
theorem cK {K : PySem.W.Frag} {f : Addr} {fd : FuncData} (F : Fun K "_law_told" "_law_told" cv f fd) : Binds K fd ["_law_rates", "_law_row"] [] := F.binds (ps := ["_law_rates", "_law_row"]) fun _ _ _ _ _ _ us hl => by obtain ⟨_, _, rfl⟩ := ex2 hl; rfl
theorem ed : aF ["_law_rates", "_law_told_here", "_law_one", "_law_other", "_law_day", "_law_due_here", "_law_found"] ["_law_rates", "_law_told_here", "_law_one", "_law_other", "_law_day"] (ad aJ) := ⟨rfl, rfl, rfl, by decide +kernel, rfl, by decide +kernel, by decide +kernel⟩
theorem eu {K : PySem.W.Frag} {f : Addr} {fd : FuncData} (F : Fun K "_law_newest_good" "_law_newest_good" aJ f fd) : Binds K fd ["_law_rates", "_law_told_here", "_law_one", "_law_other", "_law_day"] [] := F.binds (ps := ["_law_rates", "_law_told_here", "_law_one", "_law_other", "_law_day"]) fun _ _ _ _ _ _ us hl => by obtain ⟨_, _, _, _, _, rfl⟩ := ex5 hl; rfl
theorem eX : aF ["_law_rates", "_law_told_here", "_law_one", "_law_other", "_law_day", "_law_when"] ["_law_rates", "_law_told_here", "_law_one", "_law_other", "_law_day"] (ad bg) := ⟨rfl, rfl, rfl, by decide +kernel, rfl, by decide +kernel, by decide +kernel⟩
theorem bH {K : PySem.W.Frag} {f : Addr} {fd : FuncData} (F : Fun K "_law_pair_good" "_law_pair_good" bg f fd) : Binds K fd ["_law_rates", "_law_told_here", "_law_one", "_law_other", "_law_day"] [] := F.binds (ps := ["_law_rates", "_law_told_here", "_law_one", "_law_other", "_law_day"]) fun _ _ _ _ _ _ us hl => by obtain ⟨_, _, _, _, _, rfl⟩ := ex5 hl; rfl
theorem h7 : aF ["_law_told_here", "_law_last", "_law_names", "_law_day", "_law_one", "_law_p", "_law_other", "_law_q"] ["_law_told_here"] (ad bS) := ⟨rfl, rfl, rfl, by decide +kernel, rfl, by decide +kernel, by decide +kernel⟩
theorem lC {K : PySem.W.Frag} {f : Addr} {fd : FuncData} (F : Fun K "_law_lists" "_law_lists" bS f fd) : Binds K fd ["_law_told_here"] [] := F.binds (ps := ["_law_told_here"]) fun _ _ _ _ _ _ us hl => by obtain ⟨_, rfl⟩ := ex1 hl; rfl
theorem nS : aF ["_law_rates", "_law_which"] ["_law_rates", "_law_which"] (ad b_) := ⟨rfl, rfl, rfl, by decide +kernel, rfl, by decide +kernel, by decide +kernel⟩
theorem oN {K : PySem.W.Frag} {f : Addr} {fd : FuncData} (F : Fun K "_law_list" "_law_list" b_ f fd) : Binds K fd ["_law_rates", "_law_which"] [] := F.binds (ps := ["_law_rates", "_law_which"]) fun _ _ _ _ _ _ us hl => by obtain ⟨_, _, rfl⟩ := ex2 hl; rfl
theorem gf : aF ["_law_rates", "_law_told_here", "_law_held", "_law_turn", "_law_dues", "_law_which", "_law_found"] ["_law_rates", "_law_told_here", "_law_held", "_law_turn"] (ad bF) := ⟨rfl, rfl, rfl, by decide +kernel, rfl, by decide +kernel, by decide +kernel⟩
theorem bW {K : PySem.W.Frag} {f : Addr} {fd : FuncData} (F : Fun K "_law_listed" "_law_listed" bF f fd) : Binds K fd ["_law_rates", "_law_told_here", "_law_held", "_law_turn"] [] := F.binds (ps := ["_law_rates", "_law_told_here", "_law_held", "_law_turn"]) fun _ _ _ _ _ _ us hl => by obtain ⟨_, _, _, _, rfl⟩ := ex4 hl; rfl
theorem fm : aF ["_law_rates", "_law_told_here", "_law_coins", "_law_day", "_law_one"] ["_law_rates", "_law_told_here", "_law_coins", "_law_day"] (ad aY) := ⟨rfl, rfl, rfl, by decide +kernel, rfl, by decide +kernel, by decide +kernel⟩
theorem jc {K : PySem.W.Frag} {f : Addr} {fd : FuncData} (F : Fun K "_law_all_good" "_law_all_good" aY f fd) : Binds K fd ["_law_rates", "_law_told_here", "_law_coins", "_law_day"] [] := F.binds (ps := ["_law_rates", "_law_told_here", "_law_coins", "_law_day"]) fun _ _ _ _ _ _ us hl => by obtain ⟨_, _, _, _, rfl⟩ := ex4 hl; rfl
theorem fz : aF ["_law_both", "_law_told_here", "_law_coins", "_law_day", "_law_which"] ["_law_both", "_law_told_here", "_law_coins", "_law_day"] (ad bp) := ⟨rfl, rfl, rfl, by decide +kernel, rfl, by decide +kernel, by decide +kernel⟩
theorem bA {K : PySem.W.Frag} {f : Addr} {fd : FuncData} (F : Fun K "_law_end_good" "_law_end_good" bp f fd) : Binds K fd ["_law_both", "_law_told_here", "_law_coins", "_law_day"] [] := F.binds (ps := ["_law_both", "_law_told_here", "_law_coins", "_law_day"]) fun _ _ _ _ _ _ us hl => by obtain ⟨_, _, _, _, rfl⟩ := ex4 hl; rfl
theorem fI : aF ["_law_script", "_law_coins", "_law_base", "_law_both", "_law_told_here", "_law_held", "_law_kept", "_law_day", "_law_k", "_law_side", "_law_most", "_law_one", "_law_other", "_law_row", "_law_due_here", "_law_turn", "_law_good", "_law_which"] ["_law_script"] (ad bX) := ⟨rfl, rfl, rfl, by decide +kernel, rfl, by decide +kernel, by decide +kernel⟩
theorem iP : aF ["self"] ["self"] (ad bf) := ⟨rfl, rfl, rfl, by decide +kernel, rfl, by decide +kernel, by decide +kernel⟩
theorem bj {K : PySem.W.Frag} {f : Addr} {fd : FuncData} (F : Fun K "__init__" "Rates.__init__" bf f fd) : Binds K fd ["self"] [] := F.binds (ps := ["self"]) fun _ _ _ _ _ _ us hl => by obtain ⟨_, rfl⟩ := ex1 hl; rfl
theorem lj : aF ["self", "day", "one", "p", "other", "q"] ["self", "day", "one", "p", "other", "q"] (ad bD) := ⟨rfl, rfl, rfl, by decide +kernel, rfl, by decide +kernel, by decide +kernel⟩
theorem j7 {K : PySem.W.Frag} {f : Addr} {fd : FuncData} (F : Fun K "quote" "Rates.quote" bD f fd) : Binds K fd ["self", "day", "one", "p", "other", "q"] [] := F.binds (ps := ["self", "day", "one", "p", "other", "q"]) fun _ _ _ _ _ _ us hl => by obtain ⟨_, _, _, _, _, _, rfl⟩ := ex6 hl; rfl
theorem ia : aF ["self", "day", "pair", "worth", "by_day"] ["self", "day", "pair", "worth"] (ad bq) := ⟨rfl, rfl, rfl, by decide +kernel, rfl, by decide +kernel, by decide +kernel⟩
theorem lM {K : PySem.W.Frag} {f : Addr} {fd : FuncData} (F : Fun K "keep" "Rates.keep" bq f fd) : Binds K fd ["self", "day", "pair", "worth"] [] := F.binds (ps := ["self", "day", "pair", "worth"]) fun _ _ _ _ _ _ us hl => by obtain ⟨_, _, _, _, rfl⟩ := ex4 hl; rfl
theorem g_ : aF ["self", "currency", "other", "others"] ["self", "currency", "other"] (ad bQ) := ⟨rfl, rfl, rfl, by decide +kernel, rfl, by decide +kernel, by decide +kernel⟩
theorem lI {K : PySem.W.Frag} {f : Addr} {fd : FuncData} (F : Fun K "link" "Rates.link" bQ f fd) : Binds K fd ["self", "currency", "other"] [] := F.binds (ps := ["self", "currency", "other"]) fun _ _ _ _ _ _ us hl => by obtain ⟨_, _, _, rfl⟩ := ex3 hl; rfl
theorem cS : aF ["self", "one", "other", "day", "worth", "by_day", "told_by_then"] ["self", "one", "other", "day"] (ad aW) := ⟨rfl, rfl, rfl, by decide +kernel, rfl, by decide +kernel, by decide +kernel⟩
theorem dQ {K : PySem.W.Frag} {f : Addr} {fd : FuncData} (F : Fun K "newest" "Rates.newest" aW f fd) : Binds K fd ["self", "one", "other", "day"] [] := F.binds (ps := ["self", "one", "other", "day"]) fun _ _ _ _ _ _ us hl => by obtain ⟨_, _, _, _, rfl⟩ := ex4 hl; rfl
theorem gT : aF ["self"] ["self"] (ad aO) := ⟨rfl, rfl, rfl, by decide +kernel, rfl, by decide +kernel, by decide +kernel⟩
theorem g7 {K : PySem.W.Frag} {f : Addr} {fd : FuncData} (F : Fun K "currencies" "Rates.currencies" aO f fd) : Binds K fd ["self"] [] := F.binds (ps := ["self"]) fun _ _ _ _ _ _ us hl => by obtain ⟨_, rfl⟩ := ex1 hl; rfl
theorem fR : aF ["self", "told", "pair", "by_day", "day", "worth"] ["self"] (ad bJ) := ⟨rfl, rfl, rfl, by decide +kernel, rfl, by decide +kernel, by decide +kernel⟩
theorem jT {K : PySem.W.Frag} {f : Addr} {fd : FuncData} (F : Fun K "quotes" "Rates.quotes" bJ f fd) : Binds K fd ["self"] [] := F.binds (ps := ["self"]) fun _ _ _ _ _ _ us hl => by obtain ⟨_, rfl⟩ := ex1 hl; rfl
seal L2.PE L2.PT L2.PW L2.PA L2.PS L2.PSs L2.PI L2.PG L2.PGs L2.PO
local macro_rules | `(tactic| walk_at "rd") => `(tactic| try simp only [vm, rdI, V.int.injEq, V.ref.injEq, sD, t_, rh, rA, vT, vx, ul, uh, tV, L2.d8, List.map_cons, List.map_nil, List.cons_append, List.nil_append, List.append_nil, List.length_cons, List.length_nil, List.replicate, List.getElem?_cons_zero, List.getElem?_cons_succ, List.set_cons_zero, List.set_cons_succ, Nat.reduceSub, Nat.reduceAdd, Int.reduceLT, Int.reduceLE, Int.reducePow, Int.reduceNeg, Nat.reducePow, List.cons.injEq, exists_eq_left', exists_eq_left, eq_self, if_false, if_true, ↓reduceIte, ite_not, forall_const, Option.bind_some, id_eq])
local macro_rules | `(tactic| walk_at "om") => `(tactic| first | exact Nat.le_trans (by decide) (by assumption : 1000 ≤ sizeLine) | omega)
section
variable {P : Program} {w : World} {K : PySem.W.Frag} {mg : Str → Option Value} {base : Heap} {a : Adr}
theorem itp {c : Prop} [Decidable c] {t e : Prop} (h : c) (x : t) : ite c t e := by rw [if_pos h]; exact x
theorem itn {c : Prop} [Decidable c] {t e : Prop} (h : ¬ c) (x : e) : ite c t e := by rw [if_neg h]; exact x
theorem eQ {H H' : Hp} {D : Addr} {o : HO} (s : Same H H') (h : H D = none) : Same H (upd H' D o) := fun c z e => by
  rw [af (ak e h)]; exact s c z e
theorem px {ta : TA} {g : TG} {tb : TS} {D : dU} {σ : St} {H : Hp} (h : ta σ H fun vs H1 => ∃ j : Int, vs = [.int j] ∧ -(2 ^ 62) ≤ j ∧ j < 2 ^ 62 ∧ FE (Itr 0 j.toNat) g tb D σ H1) : lH (rN ta) g tb D σ H := h
def sp_jy : Sp := sp1 fun x H Q _ => asK H x fun _ => Q (.bl (isI x)) H
theorem p8 (T : Txt K mg a) : cz P w K mg base (XE P w) 1 a.ie a.jF ["thing"] sp_jy := by
  refine T.iy.okX pj (fun vs H Q E h => sp1.len h) (fun cdv A outer s H vs Q E hr h => ?_)
  obtain ⟨x0, rfl, h⟩ := sp1.inv h
  try dsimp only [sp_jy, sp1] at h
  obtain ⟨t, ht, hb, k⟩ := asK.inv h
  refine ⟨_, (am (aC (gr (aA (cW K) rfl T.aU aN (FA.pa (aa (fv 0) (aa (dH (v := .ty "int") rfl T.rj n9 rfl) ae)))) (gC (nO (aA (cW K) rfl T.aU aN (FA.pa (aa (fv 0) (aa (dH (v := .ty "bool") rfl T.qV oG rfl) ae))))))))), ?_⟩
  walk_at "rd"
  simp only [ht]
  rw [← pS ht] at k
  rcases hb with rfl | rfl | rfl | rfl | rfl | rfl | rfl
  all_goals first
    | exact y_ k
    | exact ur k
def amg (x : V) (lo hi : Int) : Bool := match x with
  | .int i => decide (lo ≤ i) && decide (i ≤ hi)
  | _ => false
theorem rZ {x : V} {lo hi : Int} (h : isI x = false) : amg x lo hi = false := by
  unfold amg
  split
  · cases h
  · rfl
def sp_jA : Sp := sp3 fun x y z H Q _ => asI y fun lo => asI z fun hi => asK H x fun _ => Q (.bl (amg x lo hi)) H
theorem jE (T : Txt K mg a) : cz P w K mg base (XE P w) 2 a.ir a.jv ["thing", "least", "most"] sp_jA := by
  refine T.eI.okX pE (fun vs H Q E h => sp3.len h) (fun cdv A outer s H vs Q E hr h => ?_)
  obtain ⟨x0, x1, x2, rfl, h⟩ := sp3.inv h
  try dsimp only [sp_jA, sp3] at h
  obtain ⟨lo, rfl, h2⟩ := asI.inv h
  obtain ⟨hi, rfl, h3⟩ := asI.inv h2
  obtain ⟨t, ht, hb, k⟩ := asK.inv h3
  have G_is_whole := p8 (P := P) (w := w) (base := base) T
  have b_is_whole := o9 T.iy
  refine ⟨_, (am (aC (gr (az G_is_whole (hr.mono (by decide)) rfl T.qc T.iy.kp b_is_whole .nil bw (FA.pa (aa (fv 0) ae))) (gC (kt iZ iZ (fv 1) (fv 0) (fv 2)))))), ?_⟩
  walk_at "rd"
  refine asK.of ht ?_
  cases e : isI x0 with
  | false =>
    rw [rZ e] at k
    exact ur k
  | true =>
    cases x0 with
    | int i =>
      refine y_ ?_
      walk_at "rd"
      split
      · rename_i h1
        have e : amg (.int i) lo hi = decide (i ≤ hi) := by simp [amg, h1]
        rw [e] at k; exact k
      · rename_i h1
        have e : amg (.int i) lo hi = false := by simp [amg, h1]
        rw [e] at k; exact k
    | _ => cases e
theorem xm {x : V} {lo hi : Int} (h : amg x lo hi = true) : ∃ i, x = .int i ∧ lo ≤ i ∧ i ≤ hi := by
  unfold amg at h
  split at h
  · rename_i i; simp at h; exact ⟨i, rfl, h.1, h.2⟩
  · cases h
def sp_mh : Sp := sp1 fun x H Q _ => asK H x fun _ => Q (.bl (amg x 0 146096)) H
theorem tE (T : Txt K mg a) : cz P w K mg base (XE P w) 3 a.kl a.mU ["thing"] sp_mh := by
  refine T.lw.okX tT (fun vs H Q E h => sp1.len h) (fun cdv A outer s H vs Q E hr h => ?_)
  obtain ⟨x0, rfl, h⟩ := sp1.inv h
  try dsimp only [sp_mh, sp1] at h
  have G_is_among := jE (P := P) (w := w) (base := base) T
  have b_is_among := ju T.eI
  refine ⟨_, (am (aC (az G_is_among (hr.mono (by decide)) rfl T.lb T.eI.kp b_is_among .nil bw (FA.pa (aa (fv 0) (aa ag (aa ag ae))))))), ?_⟩
  walk_at "rd"
  exact h
def sp_k_ : Sp := sp1 fun x H Q _ => asK H x fun _ => Q (.bl (amg x 1 1000000000)) H
theorem i8 (T : Txt K mg a) : cz P w K mg base (XE P w) 3 a.dY a.fu ["thing"] sp_k_ := by
  refine T.df.okX je (fun vs H Q E h => sp1.len h) (fun cdv A outer s H vs Q E hr h => ?_)
  obtain ⟨x0, rfl, h⟩ := sp1.inv h
  try dsimp only [sp_k_, sp1] at h
  have G_is_among := jE (P := P) (w := w) (base := base) T
  have b_is_among := ju T.eI
  refine ⟨_, (am (aC (az G_is_among (hr.mono (by decide)) rfl T.lb T.eI.kp b_is_among .nil bw (FA.pa (aa (fv 0) (aa ag (aa (ay im ag ag) ae))))))), ?_⟩
  walk_at "rd"
  have e15 : (10 : Int) ^ Int.toNat 9 = 1000000000 := by decide +kernel
  rw [e15]
  exact ⟨by decide, h⟩
theorem yd (a b : Nat) : leN [a] [b] = decide (a ≤ b) := by
  unfold leN
  have h : ([b] < [a]) ↔ b < a := by
    rw [List.cons_lt_cons_iff]; simp
  rw [decide_eq_decide.mpr h]
  by_cases h2 : b < a
  · rw [decide_eq_true h2, decide_eq_false (by walk_at "om")]; rfl
  · rw [decide_eq_false h2, decide_eq_true (by walk_at "om")]; rfl
local macro_rules | `(tactic| walk_at "rd") => `(tactic| try simp only [vm, rdI, V.int.injEq, V.ref.injEq, sD, t_, rh, rA, vT, vx, ul, uh, tV, L2.d8, List.map_cons, List.map_nil, List.cons_append, List.nil_append, List.append_nil, List.length_cons, List.length_nil, List.replicate, List.getElem?_cons_zero, List.getElem?_cons_succ, List.set_cons_zero, List.set_cons_succ, Nat.reduceSub, Nat.reduceAdd, Int.reduceLT, Int.reduceLE, Int.reducePow, Int.reduceNeg, Nat.reducePow, List.cons.injEq, exists_eq_left', exists_eq_left, eq_self, if_false, if_true, ↓reduceIte, ite_not, forall_const, Option.bind_some, id_eq, yd])
def ok (l : List Nat) : Prop := (∀ c ∈ l, c < 128) ∧ l.length ≤ 1000
theorem jY {l : List Nat} (h : ok l) : l.length ≤ sizeLine := Nat.le_trans h.2 (by rw [sizeLine_eq]; decide)
def lie (l : List Nat) (a b : Nat) : Bool := l.all fun c => decide (a ≤ c) && decide (c ≤ b)
def sp_iQ : Sp := sp3 fun x y z H Q _ => asT x fun l => asT y fun lo => asT z fun hi => ok l ∧ ∃ a b, lo = [a] ∧ hi = [b] ∧ ∀ H', Same H H' → Q (.bl (lie l a b)) H'
theorem nJ (T : Txt K mg a) : cz P w K mg base (XE P w) 1 a.gc a.iS ["text", "least", "most"] sp_iQ := by
  refine T.gj.okX om (fun vs H Q E h => sp3.len h) (fun cdv A outer s H vs Q E hr h => ?_)
  obtain ⟨x0, x1, x2, rfl, h⟩ := sp3.inv h
  try dsimp only [sp_iQ, sp3] at h
  obtain ⟨l, rfl, h2⟩ := asT.inv h
  obtain ⟨lo, rfl, h3⟩ := asT.inv h2
  obtain ⟨hi, rfl, hl, a, b, rfl, rfl, k⟩ := asT.inv h3
  refine ⟨_, (am (aC (aA (wd K rfl) rfl T.Ae y6 (FA.pa (aa (ft rfl (cl := _) (x := "sign") (xs := ["sign"]) (fr := ["least", "most"]) (ks := [1, 2]) (by exact ⟨rfl, by decide +kernel, rfl, by decide +kernel, rfl, dN rfl, rfl, bz rfl, bz (k := fun y => List.lookup y _) rfl, dJ rfl⟩) rfl (uN (fv 0)) (fun _ _ _ _ _ => (aE (i := 0) (hE (l := ["sign", "least", "most"]) (by decide)) rfl (Or.inl rfl))) (fun _ _ _ _ _ => iM) (fun _ _ _ _ _ => (kt iZ iZ (fv 1) (fv 0) (fv 2)))) ae))))), ?_⟩
  walk_at "rd"
  refine cmS (fun _ => True) (fun _ _ _ => trivial) l (fun _ => true) (fun c => .bl (decide (a ≤ c) && decide (c ≤ b))) (fun R r => r) hl.1 (jY hl) (fun c _ H R _ r => r) (fun c _ _ H R _ r => ?_) (fun D hD => ?_)
  · walk_at "rd"
    by_cases h1 : a ≤ c
    · simp only [h1, decide_true, Bool.true_and] at r ⊢
      exact r
    · simp only [h1, decide_false, Bool.false_and] at r ⊢
      exact r
  · refine ⟨l.map fun c => decide (a ≤ c) && decide (c ≤ b), SqL.of (by rw [ac, List.filter_eq_self.mpr (by simp), List.map_map]; rfl), ?_⟩
    have e : (l.map fun c => decide (a ≤ c) && decide (c ≤ b)).all id = lie l a b := by
      rw [List.all_map]; rfl
    rw [e]; exact k _ (aj _ hD)
theorem sx {H : Hp} {x : V} {t : String} (ht : cw H x = some t) (h : ¬ ∃ l, x = .str ⟨⟨l⟩⟩) : cp t "str" = false := by
  unfold cw at ht
  split at ht
  case h_4 y => exact absurd ⟨y.cps.toList, rfl⟩ h
  case h_5 => split at ht <;> cases ht <;> decide
  all_goals (cases ht <;> decide)
def okV (x : V) : Prop := ∀ l, x = .str ⟨⟨l⟩⟩ → ok l
def cur (l : List Nat) : Bool := decide (l.length = 3) && lie l 65 90
def iu : V → Bool
  | .str y => cur (cs y)
  | _ => false
theorem pi {x : V} (h : ¬ ∃ l, x = .str ⟨⟨l⟩⟩) : iu x = false := by
  cases x with
  | str y => exact absurd ⟨y.cps.toList, rfl⟩ h
  | _ => rfl
theorem uO {x : V} (h : iu x = true) : ∃ l, x = L2.T l ∧ cur l = true := by
  cases x with
  | str y => exact ⟨y.cps.toList, rfl, h⟩
  | _ => cases h
def sp_m5 : Sp := sp1 fun x H Q _ => okV x ∧ asK H x fun _ => ∀ H', Same H H' → Q (.bl (iu x)) H'
theorem kg (T : Txt K mg a) : cz P w K mg base (XE P w) 2 a.dI a.gs ["thing"] sp_m5 := by
  refine T.dF.okX kM (fun vs H Q E h => sp1.len h) (fun cdv A outer s H vs Q E hr h => ?_)
  obtain ⟨x0, rfl, h⟩ := sp1.inv h
  try dsimp only [sp_m5, sp1] at h
  have HU : (bZ (XE P w) P w K mg base ["thing"] "is_currency" (ad bG) a.dI cdv A outer s H E).A.units + 100 < cLine := bh hr
  obtain ⟨ho, h1⟩ := h
  obtain ⟨t, ht, hb, k⟩ := asK.inv h1
  have G_signs_lie := nJ (P := P) (w := w) (base := base) T
  have b_signs_lie := nj T.gj
  refine ⟨_, (am (aC (gr (aA (cW K) rfl T.aU aN (FA.pa (aa (fv 0) (aa (dH (v := .ty "str") rfl T.xG uo rfl) ae)))) (gr (iH (cX K HU) (aA (fO K) rfl T.ko ik (FA.pa (aa (fv 0) ae))) ag (bb _)) (gC (az G_signs_lie (hr.mono (by decide)) rfl T.pK T.gj.kp b_signs_lie .nil bw (FA.pa (aa (fv 0) (aa (be [65]) (aa (be [90]) ae)))))))))), ?_⟩
  by_cases hs : ∃ l, x0 = .str ⟨⟨l⟩⟩
  · obtain ⟨l, rfl⟩ := hs
    have hl := ho l rfl
    have k' : ∀ H', Same H H' → Q (.bl (cur l)) H' := k
    unfold cur at k'
    walk_at "rd"
    refine ⟨jY hl, ?_⟩
    split
    · rename_i h1
      rw [decide_eq_true (by omega : l.length = 3)] at k'
      exact ⟨hl, 65, 90, rfl, rfl, k'⟩
    · rename_i h1
      rw [decide_eq_false (by omega : ¬ l.length = 3)] at k'
      exact k' _ (Same.refl _)
  · rw [pi hs] at k
    walk_at "rd"
    simp only [ht, sx ht hs]
    first | exact k _ (Same.refl _) | exact ur (k _ (Same.refl _))
def sp_mq : Sp := sp3 fun x y z H Q _ => asI y fun lo => asI z fun hi => asK H x fun _ => Q (.bl (amg x lo hi)) H
theorem jn (T : Txt K mg a) : cz P w K mg base (XE P w) 1 a.d6 a.fF ["_law_thing", "_law_least", "_law_most"] sp_mq := by
  refine T.cV.okX jp (fun vs H Q E h => sp3.len h) (fun cdv A outer s H vs Q E hr h => ?_)
  obtain ⟨x0, x1, x2, rfl, h⟩ := sp3.inv h
  try dsimp only [sp_mq, sp3] at h
  obtain ⟨lo, rfl, h2⟩ := asI.inv h
  obtain ⟨hi, rfl, h3⟩ := asI.inv h2
  obtain ⟨t, ht, hb, k⟩ := asK.inv h3
  refine ⟨_, (am (aC (gr (aA (cW K) rfl T.aU aN (FA.pa (aa (fv 0) (aa (dH (v := .ty "int") rfl T.rj n9 rfl) ae)))) (gr (nO (aA (cW K) rfl T.aU aN (FA.pa (aa (fv 0) (aa (dH (v := .ty "bool") rfl T.qV oG rfl) ae))))) (gC (kt iZ iZ (fv 1) (fv 0) (fv 2))))))), ?_⟩
  walk_at "rd"
  simp only [ht]
  cases e : isI x0 with
  | false =>
    rw [rZ e] at k
    rw [← pS ht] at e
    rcases hb with rfl | rfl | rfl | rfl | rfl | rfl | rfl
    all_goals first
      | exact ur k
      | exact itp (by decide) (itn (by decide) k)
      | exact itn (by decide) k
      | cases e
  | true =>
    cases x0 with
    | int i =>
      cases ht
      refine itp (by decide) (itp (by decide) ?_)
      walk_at "rd"
      split
      · rename_i h1
        have e : amg (.int i) lo hi = decide (i ≤ hi) := by simp [amg, h1]
        rw [e] at k; exact k
      · rename_i h1
        have e : amg (.int i) lo hi = false := by simp [amg, h1]
        rw [e] at k; exact k
    | _ => cases e
def UP : List Nat := [65, 66, 67, 68, 69, 70, 71, 72, 73, 74, 75, 76, 77, 78, 79, 80, 81, 82, 83, 84, 85, 86, 87, 88, 89, 90]
theorem UPm (c : Nat) : c ∈ UP ↔ 65 ≤ c ∧ c ≤ 90 := by
  constructor
  · have ha : ∀ c ∈ UP, 65 ≤ c ∧ c ≤ 90 := by decide
    exact ha c
  · rintro ⟨h1, h2⟩
    have hb : ∀ k, k < 26 → 65 + k ∈ UP := by decide
    have := hb (c - 65) (by omega)
    rwa [show 65 + (c - 65) = c by omega] at this
theorem EqR.nilR {K : PySem.W.Frag} {H : Hp} {p q : Addr} {xs : List V} (hx : SqL K H p xs) (hy : SqL K H q []) : EqR K H p q xs.isEmpty := by
  cases xs with
  | nil => exact EqR.lst (e := fun _ => true) hx hy rfl fun j x y gx _ => by simp at gx
  | cons x r => exact EqR.len hx hy (by simp)
theorem AJ (l : List Nat) : (l.filter fun c => !decide (c ∈ UP)).isEmpty = lie l 65 90 := by
  rw [Bool.eq_iff_iff, List.isEmpty_iff, List.filter_eq_nil_iff]
  unfold lie
  rw [List.all_eq_true]
  constructor
  · intro z c hc
    have := z c hc
    have h1 : c ∈ UP := by simpa using this
    have := (UPm c).mp h1
    rw [decide_eq_true this.1, decide_eq_true this.2]; rfl
  · intro z c hc
    have := z c hc
    rw [Bool.and_eq_true, decide_eq_true_iff, decide_eq_true_iff] at this
    rw [decide_eq_true ((UPm c).mpr this)]; decide
def sp_rL : Sp := sp1 fun x H Q _ => okV x ∧ asK H x fun _ => ∀ H', Same H H' → Q (.bl (iu x)) H'
theorem g8 (T : Txt K mg a) : cz P w K mg base (XE P w) 1 a.cL a.d7 ["_law_thing"] sp_rL := by
  refine T.cR.okX gY (fun vs H Q E h => sp1.len h) (fun cdv A outer s H vs Q E hr h => ?_)
  obtain ⟨x0, rfl, h⟩ := sp1.inv h
  try dsimp only [sp_rL, sp1] at h
  have HU : (bZ (XE P w) P w K mg base ["_law_thing"] "_law_is_currency" (ad aM) a.cL cdv A outer s H E).A.units + 100 < cLine := bh hr
  obtain ⟨ho, h1⟩ := h
  obtain ⟨t, ht, hb, k⟩ := asK.inv h1
  refine ⟨_, (ah (cf (L2.PW.pt (fj (cC (ck (aA (cW K) rfl T.aU aN (FA.pa (aa (fv 0) (aa (dH (v := .ty "str") rfl T.xG uo rfl) ae)))))) (eP (bB (iA K HU) (aA (fO K) rfl T.ko ik (FA.pa (aa (fv 0) ae))) ag (bb _))))) (am (aC cT)) aV)
      (am (aC (iH (cX K HU) (ft rfl (cl := _) (x := "_law_sign") (xs := ["_law_sign"]) (fr := []) (ks := []) (by exact ⟨rfl, by decide +kernel, rfl, by decide +kernel, rfl, dN rfl, rfl, bz rfl, bz (k := fun y => List.lookup y _) rfl, dJ rfl⟩) rfl (uN (fv 0)) (fun _ _ _ _ _ => (aE (i := 0) (hE (l := ["_law_sign"]) (by decide)) rfl (Or.inl rfl))) (fun _ _ _ _ _ => (iT (bB vJ (fv 0) (be [65, 66, 67, 68, 69, 70, 71, 72, 73, 74, 75, 76, 77, 78, 79, 80, 81, 82, 83, 84, 85, 86, 87, 88, 89, 90]) (by with_unfolding_all rfl)))) (fun _ _ _ _ _ => (fv 0))) (bY (FA.pa ae)) (bb _))))), ?_⟩
  by_cases hs : ∃ l, x0 = .str ⟨⟨l⟩⟩
  · obtain ⟨l, rfl⟩ := hs
    have hl := ho l rfl
    have k' : ∀ H', Same H H' → Q (.bl (cur l)) H' := k
    unfold cur at k'
    walk_at "rd"
    refine ⟨jY hl, ?_⟩
    by_cases h3 : l.length = 3
    · rw [decide_eq_true h3] at k'
      refine itp (by omega) (cmS (fun _ => True) (fun _ _ _ => trivial) l (fun c => !decide (c ∈ UP)) (fun c => L2.T [c]) (fun R r => r) hl.1 (jY hl) (fun c _ H R _ r => ?_) (fun c _ _ H R _ r => r) (fun D hD => ?_))
      · walk_at "rd"
        exact r
      · refine ⟨Nat.zero_le _, fun p hp => ?_⟩
        walk_at "rd"
        refine ⟨_, EqR.nilR (SqL.of ((af (ak ac hp)).trans ac)) (SqL.of ac), ?_⟩
        rw [List.isEmpty_map, AJ]
        exact k' _ ((aj _ hD).trans (aj _ hp))
    · rw [decide_eq_false h3] at k'
      exact itn (by omega) (k' _ (Same.refl _))
  · rw [pi hs] at k
    walk_at "rd"
    simp only [ht, sx ht hs]
    first | exact k _ (Same.refl _) | exact ur (k _ (Same.refl _)) | exact y_ (k _ (Same.refl _))
def sp_at (K : PySem.W.Frag) : Sp := sp2 fun x y H Q _ => asR x fun p => asI y fun k => ∃ ns : List Int, SqL K H p (ns.map V.int) ∧ ns.length ≤ 63 ∧ 0 ≤ k ∧ ∀ i, Q (.int i) H
theorem bN (T : Txt K mg a) : cz P w K mg base (XE P w) 1 a.eK a.fT ["_law_script", "_law_k"] (sp_at K) := by
  refine T.aX.okX jJ (fun vs H Q E h => sp2.len h) (fun cdv A outer s H vs Q E hr h => ?_)
  obtain ⟨x0, x1, rfl, h⟩ := sp2.inv h
  try dsimp only [sp_at, sp2] at h
  obtain ⟨p, rfl, h1⟩ := asR.inv h
  obtain ⟨k, rfl, ns, hp, len, k0, q⟩ := asI.inv h1
  refine ⟨_, (ah (cf (bB pk (fv 1) (aA (fO K) rfl T.ko ik (FA.pa (aa (fv 0) ae))) (bb _)) (am (aC (ar (ao K) (fv 0) (fv 1) (fun _ _ => rfl)))) aV)
      (am (aC ag))), ?_⟩
  walk_at "rd"
  refine ⟨_, .inl hp, ?_⟩
  rw [List.length_map]
  by_cases hk : k < ns.length
  · obtain ⟨j, rfl⟩ : ∃ j : Nat, k = j := ⟨k.toNat, by omega⟩
    have hj : j < ns.length := by omega
    exact itp hk ⟨_, .int ns[j], .inl hp, aB (by rw [List.getElem?_map, List.getElem?_eq_getElem hj]; rfl), q _⟩
  · exact itn hk (q _)
def sgn (i : Int) : Nat := 65 + i.toNat
theorem xu {i : Int} (h0 : 0 ≤ i) (h1 : i < 26) : atI UP i = some (sgn i) := by
  obtain ⟨j, rfl⟩ : ∃ j : Nat, i = j := ⟨i.toNat, by omega⟩
  have hb : ∀ j, j < 26 → UP[j]? = some (65 + j) := by decide
  exact aB (hb j (by omega))
def sp_by : Sp := sp2 fun x y H Q _ => asI x fun c => asI y fun k => 0 ≤ k ∧ ∀ l H', ok l → Same H H' → Q (L2.T l) H'
theorem aT (T : Txt K mg a) : cz P w K mg base (XE P w) 1 a.dt a.ef ["_law_cell", "_law_k"] sp_by := by
  refine T.aK.okX eh (fun vs H Q E h => sp2.len h) (fun cdv A outer s H vs Q E hr h => ?_)
  obtain ⟨x0, x1, rfl, h⟩ := sp2.inv h
  try dsimp only [sp_by, sp2] at h
  have ND := eh.nd
  obtain ⟨c, rfl, h1⟩ := asI.inv h
  obtain ⟨k, rfl, k0, q⟩ := asI.inv h1
  have sz : 1000 ≤ sizeLine := by rw [sizeLine_eq]; decide
  refine ⟨_, (ah (aI (i := 2) ND rfl (Or.inr rfl) (be [65, 66, 67, 68, 69, 70, 71, 72, 73, 74, 75, 76, 77, 78, 79, 80, 81, 82, 83, 84, 85, 86, 87, 88, 89, 90]))
      (ah (aI (i := 3) ND rfl (Or.inr rfl) (ay ce (ay eB (fv 0) ag) ag))
      (ah (iX (i0 := 4) ND rfl (Or.inl rfl) rfl (cl := _) (x := "_law_j") (xs := ["_law_j"]) (fr := ["_law_letters", "_law_first"]) (ks := [2, 3]) (by exact ⟨rfl, by decide +kernel, rfl, by decide +kernel, rfl, dN rfl, rfl, bz rfl, bz (k := fun y => List.lookup y _) rfl, dJ rfl⟩) rfl (gP rfl T.iK (FA.pa (aa ag ae))) (fun _ _ _ _ _ => (aE (i := 0) (hE (l := ["_law_j", "_law_letters", "_law_first"]) (by decide)) rfl (Or.inl rfl))) (fun _ _ _ _ _ => iM) (fun _ _ _ _ _ => (ar (ao K) (fv 1) (ay ce (ay cq (fv 2) (ay vp ag (fv 0))) ag) (fun _ _ => rfl))))
      (ah (qS (ar (ao K) (fv 2) (ay ce (ay cq (ay cq (ay cq (fv 3) (ay vp ag (ay ce (fv 0) ag))) ag) (fv 1)) ag) (fun _ _ => rfl)) (yK (fv 4) (ay ce (fv 0) ag) uf))
      (am (aC (iz K PySem.F.plainAttrs_str PySem.F.slot_str_join PySem.F.type_str_join (tY K) (be []) (FA.pa (aa (fv 4) ae))))))))), ?_⟩
  walk_at "rd"
  refine cmR (fun _ => True) (fun _ _ _ => trivial) 3 (fun _ => true) (fun j : Nat => L2.T [sgn ((c / 3 % 26 + 7 * (j : Int)) % 26)]) (fun R r => ?_) (by walk_at "om") (fun j hj H R _ r => r) (fun j hj _ H' R _ r => ?_) (fun D hD => ?_)
  · walk_at "rd"
    exact r
  · walk_at "rd"
    refine ⟨by walk_at "om", ?_⟩
    show match atI UP ((c / 3 % 26 + 7 * (j : Int)) % 26) with | some c => R (L2.T [c]) H' | none => False
    rw [xu (by walk_at "om") (by walk_at "om")]
    exact r
  · refine ⟨by walk_at "om", ?_⟩
    show match atI UP ((c / 3 % 26 + 7 * (c % 3) + 1 + k) % 26) with | some c_1 => _ | none => False
    rw [xu (by walk_at "om") (by walk_at "om")]
    walk_at "rd"
    have hs : ∀ i : Int, 0 ≤ i → i < 26 → sgn i < 128 := fun i h0 h1 => by unfold sgn; omega
    obtain ⟨m, hm, m3⟩ : ∃ m : Nat, c % 3 = m ∧ m < 3 := ⟨(c % 3).toNat, by omega, by omega⟩
    have e : ((List.map (fun j : Nat => L2.T [sgn ((c / 3 % 26 + 7 * (j : Int)) % 26)]) (List.filter (fun x => true) (List.range 3))).set m (L2.T [sgn ((c / 3 % 26 + 7 * (c % 3) + 1 + k) % 26)])) = (((List.range 3).map fun j : Nat => sgn ((c / 3 % 26 + 7 * (j : Int)) % 26)).set m (sgn ((c / 3 % 26 + 7 * (c % 3) + 1 + k) % 26))).map fun z => L2.T [id z] := by
      rw [List.filter_eq_self.mpr (by simp), List.map_set, List.map_map]; rfl
    refine ⟨D, _, _, m, rfl, rfl, ac, ?_, ?_⟩
    · rw [hm, List.length_map, List.filter_eq_self.mpr (by simp), List.length_range]; unfold ixN; rw [if_pos (Int.natCast_nonneg _), if_pos (by omega), Int.toNat_natCast]
    · rw [e]
      refine uz _ id ac (by simp) (q _ _ ⟨fun z hz => ?_, by simp⟩ (eQ (aj _ hD) hD))
      rw [List.map_id] at hz
      rcases List.mem_or_eq_of_mem_set hz with hz | rfl
      · obtain ⟨j, _, rfl⟩ := List.mem_map.mp hz
        exact hs _ (by walk_at "om") (by walk_at "om")
      · exact hs _ (by walk_at "om") (by walk_at "om")
end
section
variable {P : Program} {w : World} {K : PySem.W.Frag} {mg : Str → Option Value} {base : Heap} {a : Adr}
abbrev jS := List Nat → List Nat → Int → Option Wt
abbrev Kp (W : Addr → Prop) (H H' : Hp) : Prop := ∀ p o, H p = some o → ¬ W p → H' p = some o
def fp {κ : Type} (kvs : List (κ × V)) (p : Addr) : Prop := ∃ k, (k, V.ref p) ∈ kvs
structure DM (H : Hp) (m : List (Key × V)) (f : Int → Option Wt) : Prop where
  nd : (m.map (·.1)).Nodup
  to : ∀ k v, (k, v) ∈ m → ∃ D w t, k = .inl D ∧ v = .ref t ∧ H t = some (.tup [.int w.1, .int w.2]) ∧ f D = some w
  fr : ∀ D w, f D = some w → ∃ v, ((.inl D : Key), v) ∈ m
theorem DM.mv {H H' : Hp} {m : List (Key × V)} {f : Int → Option Wt} (h : DM H m f) (k : ∀ t l, H t = some (.tup l) → H' t = some (.tup l)) : DM H' m f :=
  ⟨h.nd, fun k1 v m1 => let ⟨D, w, t, e1, e2, e3, e4⟩ := h.to k1 v m1; ⟨D, w, t, e1, e2, k _ _ e3, e4⟩, h.fr⟩
theorem DM.put {H : Hp} {m : List (Key × V)} {f : Int → Option Wt} {d : Int} {tw : Addr} {wt : Wt} (h : DM H m f) (ht : H tw = some (.tup [.int wt.1, .int wt.2])) : DM H (cH m (.inl d) (.ref tw)) (fun D => if D = d then some wt else f D) := by
  refine ⟨pe h.nd, fun k v m1 => ?_, fun D w e => ?_⟩
  · rcases cG.mp m1 with e | ⟨m2, n⟩
    · obtain ⟨rfl, rfl⟩ := Prod.mk.inj e
      exact ⟨d, wt, tw, rfl, rfl, ht, if_pos rfl⟩
    · obtain ⟨D, w, t, rfl, e2, e3, e4⟩ := h.to k v m2
      exact ⟨D, w, t, rfl, e2, e3, by rw [if_neg fun z => n (by rw [z])]; exact e4⟩
  · by_cases hD : D = d
    · subst hD; exact ⟨_, cG.mpr (.inl rfl)⟩
    · rw [if_neg hD] at e
      obtain ⟨v, mv⟩ := h.fr D w e
      exact ⟨v, cG.mpr (.inr ⟨mv, fun z => hD (Sum.inl.inj z)⟩)⟩
structure BP (H : Hp) (b : Addr) (kvs : List (List Key × V)) (f : jS) (n : Nat) : Prop where
  at_ : H b = some (.dT kvs)
  nd : (kvs.map (·.1)).Nodup
  len : kvs.length ≤ n
  inj : ∀ k k' v, (k, v) ∈ kvs → (k', v) ∈ kvs → k = k'
  to : ∀ k v, (k, v) ∈ kvs → ∃ x y e m, k = kP (x, y) ∧ x < y ∧ v = .ref e ∧ H e = some (.dK m) ∧ m.length ≤ n ∧ DM H m (f x y)
  fr : ∀ x y D w, x < y → f x y D = some w → ∃ v, (kP (x, y), v) ∈ kvs
theorem BP.mv {H H' : Hp} {b : Addr} {kvs : List (List Key × V)} {f : jS} {n : Nat} (h : BP H b kvs f n) (k : ∀ p o, H p = some o → (p = b ∨ fp kvs p ∨ ∃ l, o = .tup l) → H' p = some o) : BP H' b kvs f n :=
  ⟨k _ _ h.at_ (.inl rfl), h.nd, h.len, h.inj, fun k1 v m1 => let ⟨x, y, e, m, e1, e2, e3, e4, e5, e6⟩ := h.to k1 v m1; ⟨x, y, e, m, e1, e2, e3, k _ _ e4 (.inr (.inl ⟨k1, e3 ▸ m1⟩)), e5, e6.mv fun t l z => k _ _ z (.inr (.inr ⟨l, rfl⟩))⟩, h.fr⟩
theorem BP.le {H : Hp} {b : Addr} {kvs : List (List Key × V)} {f : jS} {n n' : Nat} (h : BP H b kvs f n) (l : n ≤ n') : BP H b kvs f n' :=
  ⟨h.at_, h.nd, Nat.le_trans h.len l, h.inj, fun k1 v m1 => let ⟨x, y, e, m, e1, e2, e3, e4, e5, e6⟩ := h.to k1 v m1; ⟨x, y, e, m, e1, e2, e3, e4, Nat.le_trans e5 l, e6⟩, h.fr⟩
def upf (f : jS) (x y : List Nat) (d : Int) (wt : Wt) : jS := fun x' y' D => if x' = x ∧ y' = y ∧ D = d then some wt else f x' y' D
theorem BP.put {H : Hp} {b e tw : Addr} {kvs : List (List Key × V)} {f : jS} {n : Nat} {x y : List Nat} {m : List (Key × V)} {d : Int} {wt : Wt} (h : BP H b kvs f n) (xy : x < y) (me : (kP (x, y), V.ref e) ∈ kvs) (he : H e = some (.dK m)) (ht : H tw = some (.tup [.int wt.1, .int wt.2])) :
    BP (upd H e (.dK (cH m (.inl d) (.ref tw)))) b kvs (upf f x y d wt) (n + 1) := by
  have tp : ∀ t l, H t = some (.tup l) → upd H e (.dK (cH m (.inl d) (.ref tw))) t = some (.tup l) := fun t l z => by
    rw [af (db z he (fun q => nomatch q))]; exact z
  refine ⟨(af (db h.at_ he (fun q => nomatch q))).trans h.at_, h.nd, Nat.le_succ_of_le h.len, h.inj, fun k v m1 => ?_, fun x' y' D w' lt e1 => ?_⟩
  · obtain ⟨x', y', e', m', rfl, lt, rfl, h4, h5, h6⟩ := h.to k v m1
    by_cases ee : e' = e
    · subst ee
      rw [he] at h4; cases h4
      obtain ⟨rfl, rfl⟩ := Prod.mk.inj (nG (h.inj _ _ _ m1 me))
      refine ⟨x', y', e', _, rfl, lt, rfl, ac, Nat.le_trans (ip _ _ _) (Nat.succ_le_succ h5), ?_⟩
      have hf : upf f x' y' d wt x' y' = fun D => if D = d then some wt else f x' y' D := by
        funext D; unfold upf
        by_cases hD : D = d
        · rw [if_pos ⟨rfl, rfl, hD⟩, if_pos hD]
        · rw [if_neg fun z => hD z.2.2, if_neg hD]
      rw [hf]
      exact (h6.put ht).mv tp
    · refine ⟨x', y', e', m', rfl, lt, rfl, (af ee).trans h4, Nat.le_succ_of_le h5, ?_⟩
      have hf : upf f x y d wt x' y' = f x' y' := by
        funext D; unfold upf
        refine if_neg fun z => ee ?_
        obtain ⟨rfl, rfl, _⟩ := z
        exact V.ref.inj (uK h.nd m1 me)
      rw [hf]
      exact h6.mv tp
  · unfold upf at e1
    split at e1
    · rename_i c
      obtain ⟨rfl, rfl, _⟩ := c
      exact ⟨_, me⟩
    · exact h.fr x' y' D w' lt e1
theorem BP.add {H : Hp} {b e : Addr} {kvs : List (List Key × V)} {f : jS} {n : Nat} {x y : List Nat} (h : BP H b kvs f n) (xy : x < y) (no : eC kvs (kP (x, y)) = none) (he : H e = some (.dK [])) (ne : ¬ fp kvs e) :
    BP (upd H b (.dT (cH kvs (kP (x, y)) (.ref e)))) b (cH kvs (kP (x, y)) (.ref e)) f (n + 1) := by
  have nb : ∀ {p : Addr} {o : HO}, H p = some o → (∀ l, o ≠ .dT l) → upd H b (.dT (cH kvs (kP (x, y)) (.ref e))) p = some o := fun {p o} z q => by
    rw [af (db z h.at_ (q _))]; exact z
  refine ⟨ac, pe h.nd, Nat.le_trans (ip _ _ _) (Nat.succ_le_succ h.len), fun k k' v m1 m2 => ?_, fun k v m1 => ?_, fun x' y' D w' lt e1 => ?_⟩
  · rcases cG.mp m1 with e1 | ⟨m1, n1⟩
    · obtain ⟨rfl, rfl⟩ := Prod.mk.inj e1
      rcases cG.mp m2 with e2 | ⟨m2, n2⟩
      · exact (Prod.mk.inj e2).1.symm
      · exact absurd ⟨_, m2⟩ ne
    · rcases cG.mp m2 with e2 | ⟨m2, n2⟩
      · obtain ⟨rfl, rfl⟩ := Prod.mk.inj e2
        exact absurd ⟨_, m1⟩ ne
      · exact h.inj _ _ _ m1 m2
  · rcases cG.mp m1 with e1 | ⟨m1, n1⟩
    · obtain ⟨rfl, rfl⟩ := Prod.mk.inj e1
      refine ⟨x, y, e, [], rfl, xy, rfl, nb he (fun _ z => nomatch z), Nat.zero_le _, ⟨List.nodup_nil, (fun _ _ z => nomatch z), fun D w' z => ?_⟩⟩
      obtain ⟨v, mv⟩ := h.fr x y D w' xy z
      exact absurd mv (jV no)
    · obtain ⟨x', y', e', m', e1, lt, e2, h4, h5, h6⟩ := h.to k v m1
      exact ⟨x', y', e', m', e1, lt, e2, nb h4 (fun _ z => nomatch z), Nat.le_succ_of_le h5, h6.mv fun t l z => nb z (fun _ q => nomatch q)⟩
  · obtain ⟨v, mv⟩ := h.fr x' y' D w' lt e1
    exact ⟨v, cG.mpr (.inr ⟨mv, fun z => jV no (v := v) ((show kP (x', y') = kP (x, y) from z) ▸ mv)⟩)⟩
structure BS (H : Hp) (s : Addr) (sks : List (Key × V)) (c : List Nat → Prop) (n : Nat) : Prop where
  at_ : H s = some (.dK sks)
  nd : (sks.map (·.1)).Nodup
  len : sks.length ≤ n
  to : ∀ k v, (k, v) ∈ sks → ∃ x e m, k = .inr ⟨⟨x⟩⟩ ∧ c x ∧ v = .ref e ∧ e ≠ s ∧ H e = some (.dK m) ∧ m.length ≤ n
  fr : ∀ x, c x → ∃ v, ((.inr ⟨⟨x⟩⟩ : Key), v) ∈ sks
theorem BS.mv {H H' : Hp} {s : Addr} {sks : List (Key × V)} {c : List Nat → Prop} {n : Nat} (h : BS H s sks c n) (k : ∀ p o, H p = some o → (p = s ∨ fp sks p) → H' p = some o) : BS H' s sks c n :=
  ⟨k _ _ h.at_ (.inl rfl), h.nd, h.len, fun k1 v m1 => let ⟨x, e, m, e1, e2, e3, e4, e5, e6⟩ := h.to k1 v m1; ⟨x, e, m, e1, e2, e3, e4, k _ _ e5 (.inr ⟨k1, e3 ▸ m1⟩), e6⟩, h.fr⟩
theorem BS.cg {H : Hp} {s : Addr} {sks : List (Key × V)} {c c' : List Nat → Prop} {n n' : Nat} (h : BS H s sks c n) (l : n ≤ n') (k : ∀ x, c x ↔ c' x) : BS H s sks c' n' :=
  ⟨h.at_, h.nd, Nat.le_trans h.len l, fun k1 v m1 => let ⟨x, e, m, e1, e2, e3, e4, e5, e6⟩ := h.to k1 v m1; ⟨x, e, m, e1, (k x).mp e2, e3, e4, e5, Nat.le_trans e6 l⟩, fun x z => h.fr x ((k x).mpr z)⟩
theorem BS.put {H : Hp} {s e : Addr} {sks : List (Key × V)} {c : List Nat → Prop} {n : Nat} {m m' : List (Key × V)} {k : Key} (h : BS H s sks c n) (me : (k, V.ref e) ∈ sks) (l : m'.length ≤ n + 1) : BS (upd H e (.dK m')) s sks c (n + 1) := by
  obtain ⟨_, e0, _, _, _, eq, ns, _, _⟩ := h.to _ _ me
  cases V.ref.inj eq
  refine ⟨(af (Ne.symm ns)).trans h.at_, h.nd, Nat.le_succ_of_le h.len, fun k v m1 => ?_, h.fr⟩
  obtain ⟨x, e', m0, e1, e2, e3, e4, e5, e6⟩ := h.to k v m1
  by_cases ee : e' = e
  · subst ee; exact ⟨x, e', m', e1, e2, e3, e4, ac, l⟩
  · exact ⟨x, e', m0, e1, e2, e3, e4, (af ee).trans e5, Nat.le_succ_of_le e6⟩
theorem BS.add {H : Hp} {s e : Addr} {sks : List (Key × V)} {c : List Nat → Prop} {n : Nat} {x : List Nat} {m : List (Key × V)} (h : BS H s sks c n) (he : H e = some (.dK m)) (l : m.length ≤ n + 1) (ne : e ≠ s) : BS (upd H s (.dK (cH sks (.inr ⟨⟨x⟩⟩) (.ref e)))) s (cH sks (.inr ⟨⟨x⟩⟩) (.ref e)) (fun z => c z ∨ z = x) (n + 1) := by
  refine ⟨ac, pe h.nd, Nat.le_trans (ip _ _ _) (Nat.succ_le_succ h.len), fun k v m1 => ?_, fun z hz => ?_⟩
  · rcases cG.mp m1 with e1 | ⟨m1, n1⟩
    · obtain ⟨rfl, rfl⟩ := Prod.mk.inj e1
      exact ⟨x, e, m, rfl, .inr rfl, rfl, ne, (af ne).trans he, l⟩
    · obtain ⟨x', e', m0, e1, e2, e3, e4, e5, e6⟩ := h.to k v m1
      exact ⟨x', e', m0, e1, .inl e2, e3, e4, (af e4).trans e5, Nat.le_succ_of_le e6⟩
  · by_cases hx : z = x
    · subst hx; exact ⟨_, cG.mpr (.inl rfl)⟩
    · obtain ⟨v, mv⟩ := h.fr z (hz.resolve_right hx)
      refine ⟨v, cG.mpr (.inr ⟨mv, fun q => hx ?_⟩)⟩
      have q := Sum.inr.inj q
      injection q with q; injection q
abbrev ql (C dx b s : Addr) : HO := .ins C dx [("by_pair", .ref b), ("beside", .ref s)]
structure RAt (C : Addr) (H : Hp) (r : Addr) (f : jS) (c : List Nat → Prop) (n : Nat) (W : Addr → Prop) : Prop where
  ex : ∃ dx b s kvs sks, H r = some (ql C dx b s) ∧ BP H b kvs f n ∧ BS H s sks c n ∧ (∀ p, fp kvs p → ¬ fp sks p) ∧ ¬ fp kvs s ∧ ∀ p, W p ↔ p = b ∨ p = s ∨ fp kvs p ∨ fp sks p
theorem RAt.mv {C : Addr} {H H' : Hp} {r : Addr} {f : jS} {c : List Nat → Prop} {n : Nat} {W : Addr → Prop} (h : RAt C H r f c n W) (k : ∀ p o, H p = some o → (W p ∨ p = r ∨ ∃ l, o = .tup l) → H' p = some o) : RAt C H' r f c n W := by
  obtain ⟨dx, b, s, kvs, sks, h1, h2, h3, h4, h5, h6⟩ := h.ex
  exact ⟨dx, b, s, kvs, sks, k _ _ h1 (.inr (.inl rfl)), h2.mv fun p o z q => k p o z (q.elim (fun q => .inl ((h6 p).mpr (.inl q))) fun q => q.elim (fun q => .inl ((h6 p).mpr (.inr (.inr (.inl q))))) fun q => .inr (.inr q)), h3.mv fun p o z q => k p o z (q.elim (fun q => .inl ((h6 p).mpr (.inr (.inl q)))) fun q => .inl ((h6 p).mpr (.inr (.inr (.inr q))))), h4, h5, h6⟩
theorem RAt.same {C : Addr} {H H' : Hp} {r : Addr} {f : jS} {c : List Nat → Prop} {n : Nat} {W : Addr → Prop} (h : RAt C H r f c n W) (s : Same H H') : RAt C H' r f c n W := h.mv fun p o z _ => s p o z
theorem RAt.dict {C : Addr} {H : Hp} {r : Addr} {f : jS} {c : List Nat → Prop} {n : Nat} {W : Addr → Prop} (h : RAt C H r f c n W) {p : Addr} (hp : W p) : ∃ u, H p = some u ∧ isD u = true := by
  obtain ⟨dx, b, s, kvs, sks, h1, h2, h3, h4, h5, h6⟩ := h.ex
  rcases (h6 p).mp hp with rfl | rfl | ⟨k, m⟩ | ⟨k, m⟩
  · exact ⟨_, h2.at_, rfl⟩
  · exact ⟨_, h3.at_, rfl⟩
  · obtain ⟨_, _, e, _, _, _, e1, e2, _⟩ := h2.to _ _ m
    cases e1; exact ⟨_, e2, rfl⟩
  · obtain ⟨_, e, _, _, _, e1, _, e2, _⟩ := h3.to _ _ m
    cases e1; exact ⟨_, e2, rfl⟩
theorem yS (x y : V) : List.lookup (Str.ofString "by_pair") [(Str.ofString "by_pair", x), (Str.ofString "beside", y)] = some x := uw
theorem zY (x y : V) : List.lookup (Str.ofString "beside") [(Str.ofString "by_pair", x), (Str.ofString "beside", y)] = some y := by rw [da (by decide +kernel)]; exact uw
def sp_rO (C : Addr) : Sp := sp3 fun x y z H Q _ => asR x fun r => asT y fun cu => asT z fun _ => ∃ dx b s sks c n, H r = some (ql C dx b s) ∧ BS H s sks c n ∧ n ≤ 900 ∧ ∀ sks' H', BS H' s sks' (fun z => c z ∨ z = cu) (n + 1) → (∀ p, fp sks' p → fp sks p ∨ H p = none) → Kp (fun p => p = s ∨ fp sks p) H H' → Q .non H'
theorem lD (T : Txt K mg a) : cz P w K mg base (XE P w) 1 a.eA a.hZ ["self", "currency", "other"] (sp_rO a.aq) := by
  refine T.iN.okX g_ (fun vs H Q E h => sp3.len h) (fun cdv A outer s H vs Q E hr h => ?_)
  obtain ⟨x0, x1, x2, rfl, h⟩ := sp3.inv h
  try dsimp only [sp_rO, sp3] at h
  have ND := g_.nd
  have HU : (bZ (XE P w) P w K mg base ["self", "currency", "other", "others"] "Rates.link" (ad bQ) a.eA cdv A outer s H E).A.units + 100 < cLine := bh hr
  obtain ⟨r, rfl, h1⟩ := asR.inv h
  obtain ⟨cu, rfl, h2⟩ := asT.inv h1
  obtain ⟨ot, rfl, dx, b, s0, sks, c, n, hr0, BB, nn, k⟩ := asT.inv h2
  have sz : 1000 ≤ sizeLine := by rw [sizeLine_eq]; decide
  refine ⟨_, (ah (aI (i := 3) ND rfl (Or.inl rfl) (rf (Nat.lt_of_le_of_lt (Nat.add_le_add_left (by decide) _) HU) (gS K (fv 0)) (fv 1) gO ⟨rfl, rfl, rfl, rfl⟩))
      (am (iB (Nat.lt_of_le_of_lt (Nat.add_le_add_left (by decide) _) HU) (fv 3) (fv 2) cT rfl))), ?_⟩
  walk_at "rd"
  refine ⟨_, _, _, _, hr0, T.bT, T.eJ, zY _ _, _, rfl, .inl ⟨_, .inl BB.at_⟩, fun p hp => ?_⟩
  have s1 := aj (HO.dK []) hp
  have B1 : BS (upd H p (.dK [])) s0 sks c n := BB.mv fun q o z _ => s1 q o z
  have fn : ∀ q, fp sks q → H q ≠ none := fun q ⟨k1, m1⟩ z => by
    obtain ⟨_, _, _, _, _, e1, _, e2, _⟩ := BB.to _ _ m1
    cases e1; rw [e2] at z; cases z
  cases hv : eC sks (.inr ⟨⟨cu⟩⟩) with
  | some v =>
    have mv := j5 hv
    obtain ⟨x, e, m, e1, e2, rfl, e4, e5, e6⟩ := B1.to _ _ mv
    obtain rfl : cu = x := by
      have q := Sum.inr.inj e1
      injection q with q; injection q
    refine .inl ⟨_, by have := DGet.k (k := .inr ⟨⟨cu⟩⟩) B1.at_; rw [hv] at this; exact this, e, _, rfl, DPut.k (k := .inr ⟨⟨ot⟩⟩) e5 (by omega), ?_⟩
    refine k sks _ ((B1.put (m := m) mv (Nat.le_trans (ip _ _ _) (by omega))).cg (Nat.le_refl _) fun z => ⟨.inl, fun q => q.elim id fun q => q ▸ e2⟩) (fun q h => .inl h) fun q o z nw => ?_
    rw [af fun h => nw (.inr ⟨_, h ▸ mv⟩)]; exact s1 q o z
  | none =>
    refine .inr ⟨by have := DGet.k (k := .inr ⟨⟨cu⟩⟩) B1.at_; rw [hv] at this; exact this, _, DPut.k (k := .inr ⟨⟨cu⟩⟩) B1.at_ (by have := BB.len; omega), p, _, rfl, DPut.k (k := .inr ⟨⟨ot⟩⟩) ((af (Ne.symm (ak BB.at_ hp))).trans ac) (by show 0 < _; omega), ?_⟩
    have B2 := B1.add (x := cu) (e := p) (m := []) ac (Nat.zero_le _) (Ne.symm (ak BB.at_ hp))
    have B3 : BS (upd (upd (upd H p (.dK [])) s0 (.dK (cH sks (.inr ⟨⟨cu⟩⟩) (.ref p)))) p (.dK (cH [] (.inr ⟨⟨ot⟩⟩) (.bl true)))) s0 (cH sks (.inr ⟨⟨cu⟩⟩) (.ref p)) (fun z => c z ∨ z = cu) (n + 1) := by
      refine ⟨(af (ak BB.at_ hp)).trans B2.at_, B2.nd, B2.len, fun k1 v m1 => ?_, B2.fr⟩
      obtain ⟨x', e', m0, e1, e2, e3, e4, e5, e6⟩ := B2.to k1 v m1
      by_cases ee : e' = p
      · subst ee; exact ⟨x', _, _, e1, e2, e3, e4, ac, by show 1 ≤ n + 1; omega⟩
      · exact ⟨x', e', m0, e1, e2, e3, e4, (af ee).trans e5, e6⟩
    refine k _ _ B3 (fun q ⟨k1, m1⟩ => ?_) fun q o z nw => ?_
    · rcases cG.mp m1 with e1 | ⟨m1, _⟩
      · cases V.ref.inj (Prod.mk.inj e1).2; exact .inr hp
      · exact .inl ⟨_, m1⟩
    · rw [af (ak z hp), af fun h => nw (.inl h)]; exact s1 q o z
def sp_sf (C : Addr) : Sp := sp1 fun x H Q _ => asR x fun r => ∃ dx, H r = some (.ins C dx []) ∧ ∀ W H', RAt C H' r (fun _ _ _ => none) (fun _ => False) 0 W → (∀ p, W p → H p = none) → Kp (fun p => p = r) H H' → Q .non H'
theorem bi (T : Txt K mg a) : cz P w K mg base (XE P w) 1 a.c_ a.eZ ["self"] (sp_sf a.aq) := by
  refine T.ba.okX iP (fun vs H Q E h => sp1.len h) (fun cdv A outer s H vs Q E hr h => ?_)
  obtain ⟨x0, rfl, h⟩ := sp1.inv h
  try dsimp only [sp_sf, sp1] at h
  obtain ⟨r, rfl, dx, hr0, k⟩ := asR.inv h
  refine ⟨_, (ah (sQ K (fv 0) o_)
      (am (sQ K (fv 0) gO))), ?_⟩
  walk_at "rd"
  intro b hb
  have np : r ≠ b := ak hr0 hb
  refine ⟨_, _, _, (af np).trans hr0, T.bT, T.dh, by show 0 < 1000; decide, fun u hu => ?_⟩
  have nu : r ≠ u := fun q => by rw [← q, ac] at hu; cases hu
  have nb : b ≠ u := fun q => by rw [← q, af (Ne.symm np), ac] at hu; cases hu
  have hu0 : H u = none := by
    rw [af (Ne.symm nu), af (Ne.symm nb)] at hu; exact hu
  refine ⟨_, _, _, (af nu).trans ac, T.bT, T.eJ, by show 1 < 1000; decide, ?_⟩
  have nof : ∀ {κ : Type} (p : Addr), ¬ fp (κ := κ) [] p := fun p ⟨_, z⟩ => (nomatch z)
  refine k (fun p => p = b ∨ p = u) _ ⟨⟨dx, b, u, [], [], ?_, ⟨?_, List.nodup_nil, Nat.zero_le _, (fun _ _ _ z => nomatch z), (fun _ _ z => nomatch z), (fun _ _ _ _ _ z => nomatch z)⟩, ⟨?_, List.nodup_nil, Nat.zero_le _, (fun _ _ z => nomatch z), (fun _ (z : False) => z.elim)⟩, fun p z => absurd z (nof p), nof _, fun p => ⟨fun z => z.elim .inl fun z => .inr (.inl z), fun z => z.elim .inl fun z => z.elim .inr fun z => z.elim (fun z => absurd z (nof p)) fun z => absurd z (nof p)⟩⟩⟩ (fun p z => z.elim (fun z => z ▸ hb) fun z => z ▸ hu0) fun q o z nq => ?_
  · rw [ac]
    have e : fL (Str.ofString "beside") (V.ref u) (fL (Str.ofString "by_pair") (V.ref b) []) = [(Str.ofString "by_pair", .ref b), (Str.ofString "beside", .ref u)] := by
      have q : ¬ (Str.ofString "by_pair" = Str.ofString "beside") := by decide +kernel
      simp [fL, q]
    rw [e]
  · rw [af (Ne.symm np), af nb, af (Ne.symm np), ac]
  · rw [af (Ne.symm nu), ac]
  · rw [af nq, af (ak z hu0), af nq, af (ak z hb)]; exact z
theorem rW (x y : V) : List.lookup (Str.ofString "link") [(Str.ofString "by_pair", x), (Str.ofString "beside", y)] = none := by rw [da (by decide +kernel), da (by decide +kernel)]; rfl
theorem rV (x y : V) : List.lookup (Str.ofString "keep") [(Str.ofString "by_pair", x), (Str.ofString "beside", y)] = none := by rw [da (by decide +kernel), da (by decide +kernel)]; rfl
def sp_rg (C : Addr) : Sp := sp4 fun x y z u H Q _ => asR x fun r => asI y fun d => asR z fun tp => asR u fun tw => ∃ f c n W x y wt, RAt C H r f c n W ∧ H tp = some (.tup [L2.T x, L2.T y]) ∧ x < y ∧ H tw = some (.tup [.int wt.1, .int wt.2]) ∧ n ≤ 800 ∧
  ∀ W' H', RAt C H' r (upf f x y d wt) (fun z => (c z ∨ z = x) ∨ z = y) (n + 2) W' → (∀ p, W' p → W p ∨ H p = none) → Kp W H H' → Q .non H'
theorem lQ (T : Txt K mg a) : cz P w K mg base (XE P w) 2 a.dv a.hV ["self", "day", "pair", "worth"] (sp_rg a.aq) := by
  refine T.iF.okX ia (fun vs H Q E h => sp4.len h) (fun cdv A outer s H vs Q E hr h => ?_)
  obtain ⟨x0, x1, x2, x3, rfl, h⟩ := sp4.inv h
  try dsimp only [sp_rg, sp4] at h
  have ND := ia.nd
  have HU : (bZ (XE P w) P w K mg base ["self", "day", "pair", "worth", "by_day"] "Rates.keep" (ad bq) a.dv cdv A outer s H E).A.units + 100 < cLine := bh hr
  obtain ⟨r, rfl, h1⟩ := asR.inv h
  obtain ⟨d, rfl, h2⟩ := asI.inv h1
  obtain ⟨tp, rfl, h3⟩ := asR.inv h2
  obtain ⟨tw, rfl, f, c, n, W, x, y, wt, RR, hp0, xy, hw0, nn, k⟩ := asR.inv h3
  have sz : 1000 ≤ sizeLine := by rw [sizeLine_eq]; decide
  obtain ⟨dx, b, s0, kvs, sks, hr0, B, S, dj, ns, hW⟩ := RR.ex
  have G_Rates_link := lD (P := P) (w := w) (base := base) T
  have b_Rates_link := lI T.iN
  have tl : ∃ u, PSs (bZ (XE P w) P w K mg base ["self", "day", "pair", "worth", "by_day"] "Rates.keep" (ad bq) a.dv cdv A outer s H E) (List.drop 2 (aw bq)) u ∧ ∀ kvs' H1 e, BP H1 b kvs' (upf f x y d wt) (n + 2) → (∀ p, fp kvs' p → fp kvs p ∨ H p = none) → Kp (fun p => p = b ∨ fp kvs p) H H1 → u { nx := fun _ H' => Q .non H', rt := Q } [some (.ref r), some (.int d), some (.ref tp), some (.ref tw), some (.ref e)] H1 := by
    refine ⟨_, (ah (eT (dO (fv 0) T.bT T.hU G_Rates_link (hr.mono (by decide)) b_Rates_link .nil bw (FA.pa (aa (ar (ao K) (fv 2) ag (fun _ _ => rfl)) (aa (ar (ao K) (fv 2) ag (fun _ _ => rfl)) ae)))))
      (am (eT (dO (fv 0) T.bT T.hU G_Rates_link (hr.mono (by decide)) b_Rates_link .nil bw (FA.pa (aa (ar (ao K) (fv 2) ag (fun _ _ => rfl)) (aa (ar (ao K) (fv 2) ag (fun _ _ => rfl)) ae))))))), fun kvs' H1 e B1 hf K1 => ?_⟩
    have fk : ∀ q, fp kvs q → ∃ m, H q = some (.dK m) := fun q ⟨k1, m1⟩ => by
      obtain ⟨_, _, _, m, _, _, e1, e2, _⟩ := B.to _ _ m1
      cases e1; exact ⟨m, e2⟩
    have fs : ∀ q, fp sks q → ∃ m, H q = some (.dK m) := fun q ⟨k1, m1⟩ => by
      obtain ⟨_, _, m, _, _, e1, _, e2, _⟩ := S.to _ _ m1
      cases e1; exact ⟨m, e2⟩
    have fk1 : ∀ q, fp kvs' q → ∃ m, H1 q = some (.dK m) := fun q ⟨k1, m1⟩ => by
      obtain ⟨_, _, _, m, _, _, e1, e2, _⟩ := B1.to _ _ m1
      cases e1; exact ⟨m, e2⟩
    have kin : ∀ q o, H q = some o → (∀ m, o ≠ .dK m) → (∀ m, o ≠ .dT m) → ¬ (q = b ∨ fp kvs q) := fun q o z n1 n2 h => by
      rcases h with h | h
      · rw [h, B.at_] at z; cases z; exact n2 _ rfl
      · obtain ⟨m, e⟩ := fk q h
        rw [e] at z; cases z; exact n1 _ rfl
    have hr1 : H1 r = some (ql a.aq dx b s0) := K1 _ _ hr0 (kin _ _ hr0 (fun _ z => nomatch z) (fun _ z => nomatch z))
    have hp1 : H1 tp = some (.tup [L2.T x, L2.T y]) := K1 _ _ hp0 (kin _ _ hp0 (fun _ z => nomatch z) (fun _ z => nomatch z))
    have nsb : s0 ≠ b := db S.at_ B.at_ (fun z => nomatch z)
    have sb : ∀ q, (q = s0 ∨ fp sks q) → ¬ (q = b ∨ fp kvs q) := fun q h h' => by
      rcases h with rfl | h
      · exact h'.elim nsb ns
      · rcases h' with rfl | h'
        · obtain ⟨m, e⟩ := fs _ h; rw [B.at_] at e; cases e
        · exact dj q h' h
    have S1 : BS H1 s0 sks c n := S.mv fun q o z h => K1 q o z (sb q h)
    walk_at "rd"
    refine ⟨_, _, hr1, rW _ _, _, _, .inr (SqT.of hp1), aB (j := 0) rfl, _, _, .inr (SqT.of hp1), aB (j := 1) rfl, ?_⟩
    refine ⟨dx, b, s0, sks, c, n, hr1, S1, by omega, fun sks1 H2 S2 hf1 K2 => ?_⟩
    have kin2 : ∀ {sk : List (Key × V)} {c : List Nat → Prop} {n : Nat} {G : Hp}, BS G s0 sk c n → ∀ q o, G q = some o → (∀ m, o ≠ .dK m) → ¬ (q = s0 ∨ fp sk q) := fun S q o z n1 h => by
      rcases h with h | ⟨k1, m1⟩
      · rw [h, S.at_] at z; cases z; exact n1 _ rfl
      · obtain ⟨_, _, m, _, _, e1, _, e2, _⟩ := S.to _ _ m1
        cases e1; rw [e2] at z; cases z; exact n1 _ rfl
    have hr2 := K2 _ _ hr1 (kin2 S1 _ _ hr1 (fun _ z => nomatch z))
    have hp2 := K2 _ _ hp1 (kin2 S1 _ _ hp1 (fun _ z => nomatch z))
    walk_at "rd"
    refine ⟨_, _, hr2, rW _ _, _, _, .inr (SqT.of hp2), aB (j := 1) rfl, _, _, .inr (SqT.of hp2), aB (j := 0) rfl, ?_⟩
    refine ⟨dx, b, s0, sks1, _, n + 1, hr2, S2, by omega, fun sks2 H3 S3 hf2 K3 => ?_⟩
    have hr3 := K3 _ _ hr2 (kin2 S2 _ _ hr2 (fun _ z => nomatch z))
    have nks : ∀ q, fp kvs' q → ¬ (q = s0 ∨ fp sks q) := fun q h h' => by
      rcases hf q h with h1 | h1
      · exact sb q h' (.inr h1)
      · rcases h' with rfl | h'
        · rw [S.at_] at h1; cases h1
        · obtain ⟨m, e⟩ := fs q h'; rw [e] at h1; cases h1
    have bk : ∀ q o, H1 q = some o → (q = b ∨ fp kvs' q ∨ ∃ l, o = .tup l) → ¬ (q = s0 ∨ fp sks q) := fun q o z h => by
      rcases h with rfl | h | ⟨l, rfl⟩
      · rw [B1.at_] at z; cases z; exact kin2 S1 _ _ B1.at_ (fun _ z => nomatch z)
      · exact nks q h
      · exact kin2 S1 _ _ z (fun _ z => nomatch z)
    have up1 : ∀ q o, H1 q = some o → ¬ (q = s0 ∨ fp sks q) → ¬ (q = s0 ∨ fp sks1 q) := fun q o z h h' => by
      rcases h' with h' | h'
      · exact h (.inl h')
      · rcases hf1 q h' with h' | h'
        · exact h (.inr h')
        · rw [z] at h'; cases h'
    have B2 : BP H2 b kvs' (upf f x y d wt) (n + 2) := B1.mv fun q o z h => K2 q o z (bk q o z h)
    have B3 : BP H3 b kvs' (upf f x y d wt) (n + 2) := B1.mv fun q o z h => K3 q o (K2 q o z (bk q o z h)) (up1 q o z (bk q o z h))
    refine k (fun p => p = b ∨ p = s0 ∨ fp kvs' p ∨ fp sks2 p) H3 ⟨⟨dx, b, s0, kvs', sks2, hr3, B3, S3, fun q h h' => ?_, fun h => nks _ h (.inl rfl), fun q => Iff.rfl⟩⟩ (fun q h => ?_) fun q o z nw => ?_
    · obtain ⟨m, e⟩ := fk1 q h
      have e2 := K2 q _ e (nks q h)
      rcases hf2 q h' with h' | h'
      · rcases hf1 q h' with h' | h'
        · exact nks q h (.inr h')
        · rw [e] at h'; cases h'
      · rw [e2] at h'; cases h'
    · by_cases hw : W q
      · exact .inl hw
      · have nw : ¬ (q = b ∨ fp kvs q) := fun h => hw ((hW q).mpr (h.elim .inl fun h => .inr (.inr (.inl h))))
        have nw2 : ¬ (q = s0 ∨ fp sks q) := fun h => hw ((hW q).mpr (h.elim (fun h => .inr (.inl h)) fun h => .inr (.inr (.inr h))))
        refine .inr ?_
        cases z : H q with
        | none => rfl
        | some o =>
          have z1 := K1 q o z nw
          rcases h with h | h | h | h
          · exact absurd (.inl h) nw
          · exact absurd (.inl h) nw2
          · rcases hf q h with h | h
            · exact absurd (.inr h) nw
            · rw [z] at h; cases h
          · rcases hf2 q h with h | h
            · exact absurd (.inr h) (up1 q o z1 nw2)
            · rw [K2 q o z1 nw2] at h; cases h
    · have z1 := K1 q o z fun h => nw ((hW q).mpr (h.elim .inl fun h => .inr (.inr (.inl h))))
      have n2 : ¬ (q = s0 ∨ fp sks q) := fun h => nw ((hW q).mpr (h.elim (fun h => .inr (.inl h)) fun h => .inr (.inr (.inr h))))
      exact K3 q o (K2 q o z1 n2) (up1 q o z1 n2)
  obtain ⟨u2, hu2, q2⟩ := tl
  refine ⟨_, (ah (aI (i := 4) ND rfl (Or.inl rfl) (rf (Nat.lt_of_le_of_lt (Nat.add_le_add_left (by decide) _) HU) (gS K (fv 0)) (fv 2) gO ⟨rfl, rfl, rfl, rfl⟩))
      (ah (iB (Nat.lt_of_le_of_lt (Nat.add_le_add_left (by decide) _) HU) (fv 4) (fv 1) (fv 3) rfl)
      hu2)), ?_⟩
  walk_at "rd"
  refine ⟨_, _, _, _, hr0, T.bT, T.dh, yS _ _, _, rfl, .inr ⟨_, .inl B.at_⟩, fun p hp => ?_⟩
  have s1 := aj (HO.dK []) hp
  have B1 : BP (upd H p (.dK [])) b kvs f n := B.mv fun q o z _ => s1 q o z
  have fn : ∀ q, fp kvs q → H q ≠ none := fun q ⟨k1, m1⟩ z => by
    obtain ⟨_, _, _, _, _, _, e1, e2, _⟩ := B.to _ _ m1
    cases e1; rw [e2] at z; cases z
  have ln := B.len
  have g := DGet.t (k := kP (x, y)) B1.at_ (s1 _ _ hp0)
  cases hv : eC kvs (kP (x, y)) with
  | some v =>
    rw [hv] at g
    have mv := j5 hv
    obtain ⟨x', y', e, m, e1, e2, rfl, e4, e5, e6⟩ := B1.to _ _ mv
    refine .inl ⟨_, g, e, _, rfl, DPut.k (k := .inl d) e4 (by omega), ?_⟩
    refine q2 kvs _ e ((B1.put xy mv e4 (s1 _ _ hw0)).le (by omega)) (fun q h => .inl h) fun q o z nw => ?_
    rw [af fun h => nw (.inr ⟨_, h ▸ mv⟩)]; exact s1 q o z
  | none =>
    rw [hv] at g
    refine .inr ⟨g, _, DPut.t (k := kP (x, y)) B1.at_ (s1 _ _ hp0) (by omega), p, _, rfl, DPut.k (k := .inl d) ((af (Ne.symm (ak B.at_ hp))).trans ac) (by show 0 < _; omega), ?_⟩
    have B2 := B1.add (e := p) xy hv ac fun z => fn p z hp
    have nb := ak B.at_ hp
    refine q2 _ _ p ((B2.put xy (cG.mpr (.inl rfl)) ((af (Ne.symm nb)).trans ac) ((af (db (s1 _ _ hw0) B1.at_ (fun z => nomatch z))).trans (s1 _ _ hw0))).le (by omega)) (fun q ⟨k1, m1⟩ => ?_) fun q o z nw => ?_
    · rcases cG.mp m1 with e1 | ⟨m1, _⟩
      · cases V.ref.inj (Prod.mk.inj e1).2; exact .inr hp
      · exact .inl ⟨_, m1⟩
    · rw [af (ak z hp), af fun h => nw (.inl h)]; exact s1 q o z
end
section
variable {P : Program} {w : World} {K : PySem.W.Frag} {mg : Str → Option Value} {base : Heap} {a : Adr}
def Tg (H : Hp) (v : V) : Prop := okV v ∧ ∃ t, cw H v = some t
theorem Tg.same {H H' : Hp} {v : V} (h : Tg H v) (s : Same H H') : Tg H' v := ⟨h.1, let ⟨t, e⟩ := h.2; ⟨t, dC s e⟩⟩
def sB : V → V → Bool
  | .str x, .str y => decide (cs x = cs y)
  | _, _ => false
def toI : V → Int
  | .int i => i
  | _ => 0
def toT : V → List Nat
  | .str x => cs x
  | _ => []
def du (d o p t q : V) : Nat := if amg d 0 146096 = true then (if iu o = true ∧ iu t = true ∧ sB o t = false then (if amg p 1 1000000000 = true ∧ amg q 1 1000000000 = true then 0 else 3) else 2) else 1
def rM (d o p t q : V) : Qr := ⟨toI d, toT o, toI p, toT t, toI q⟩
abbrev RS (C : Addr) (H : Hp) (r : Addr) (R : List Qr) (W : Addr → Prop) : Prop := RAt C H r (val R) (inQ R) (2 * R.length) W
theorem RAt.cg {C : Addr} {H : Hp} {r : Addr} {f f' : jS} {c c' : List Nat → Prop} {n : Nat} {W : Addr → Prop} (h : RAt C H r f c n W) (hf : ∀ x y D, x < y → f x y D = f' x y D) (hc : ∀ x, c x ↔ c' x) : RAt C H r f' c' n W := by
  obtain ⟨dx, b, s, kvs, sks, h1, B, S, h4, h5, h6⟩ := h.ex
  refine ⟨dx, b, s, kvs, sks, h1, ⟨B.at_, B.nd, B.len, B.inj, fun k v m => ?_, fun x y D w' l e => B.fr x y D w' l ((hf x y D l).trans e)⟩, S.cg (Nat.le_refl _) hc, h4, h5, h6⟩
  obtain ⟨x, y, e, m', e1, l, e2, e3, e4, e5⟩ := B.to k v m
  have hf' : f x y = f' x y := funext fun D => hf x y D l
  exact ⟨x, y, e, m', e1, l, e2, e3, e4, hf' ▸ e5⟩
theorem gR {v : V} {lo hi : Int} (h : amg v lo hi = true) : v = .int (toI v) := by obtain ⟨i, rfl, _⟩ := xm h; rfl
theorem fE {v : V} (h : iu v = true) : v = L2.T (toT v) := by obtain ⟨l, rfl, _⟩ := uO h; rfl
def sp_oO (C bd bc br : Addr) : Sp := sp6 fun x d o p t q H Q E => asR x fun r => ∃ R W, RS C H r R W ∧ R.length ≤ 100 ∧ Tg H d ∧ Tg H o ∧ Tg H p ∧ Tg H t ∧ Tg H q ∧
  (du d o p t q = 1 → ∀ H', Same H H' → E (.ref bd) none H') ∧ (du d o p t q = 2 → ∀ H', Same H H' → E (.ref bc) none H') ∧ (du d o p t q = 3 → ∀ H', Same H H' → E (.ref br) none H') ∧
  (du d o p t q = 0 → ∀ W' H', RS C H' r (R ++ [rM d o p t q]) W' → (∀ p, W' p → W p ∨ H p = none) → Kp W H H' → Q .non H')
theorem lq (T : Txt K mg a) : cz P w K mg base (XE P w) 4 a.dM a.fZ ["self", "day", "one", "p", "other", "q"] (sp_oO a.aq a.ci a.aL a.bP) := by
  refine T.hJ.okX lj (fun vs H Q E h => sp6.len h) (fun cdv A outer s H vs Q E hr h => ?_)
  obtain ⟨x0, x1, x2, x3, x4, x5, rfl, h⟩ := sp6.inv h
  try dsimp only [sp_oO, sp6] at h
  have HU : (bZ (XE P w) P w K mg base ["self", "day", "one", "p", "other", "q"] "Rates.quote" (ad bD) a.dM cdv A outer s H E).A.units + 100 < cLine := bh hr
  obtain ⟨r, rfl, R, W, RR, lR, Td, To, Tp, Tt, Tq, k1, k2, k3, k0⟩ := asR.inv h
  have sz : 1000 ≤ sizeLine := by rw [sizeLine_eq]; decide
  have G_Rates_keep := lQ (P := P) (w := w) (base := base) T
  have b_Rates_keep := lM T.iF
  have G_is_coin_count := i8 (P := P) (w := w) (base := base) T
  have b_is_coin_count := jq T.df
  have G_is_currency := kg (P := P) (w := w) (base := base) T
  have b_is_currency := kX T.dF
  have G_is_day := tE (P := P) (w := w) (base := base) T
  have b_is_day := sY T.lw
  refine ⟨_, (ah (cf (cC (ck (az G_is_day (hr.mono (by decide)) rfl T.uS T.lw.kp b_is_day .nil bw (FA.pa (aa (fv 1) ae))))) (am (kj T.vL PySem.F.excBase_ValueError rfl rfl T.p_ ox (FA.pa (aa (be [116, 104, 105, 115, 32, 105, 115, 32, 110, 111, 32, 100, 97, 121]) ae)))) aV)
      (ah (cf (L2.PW.pt (fj (cC (ck (az G_is_currency (hr.mono (by decide)) rfl T.g9 T.dF.kp b_is_currency .nil bw (FA.pa (aa (fv 2) ae))))) (fj (cC (ck (az G_is_currency (hr.mono (by decide)) rfl T.g9 T.dF.kp b_is_currency .nil bw (FA.pa (aa (fv 4) ae))))) (eP (bB (cX K HU) (fv 2) (fv 4) (bb _)))))) (am (kj T.lL PySem.F.excBase_ValueError rfl rfl T.ic ox (FA.pa (aa (be [116, 104, 101, 115, 101, 32, 97, 114, 101, 32, 110, 111, 116, 32, 116, 119, 111, 32, 99, 117, 114, 114, 101, 110, 99, 105, 101, 115]) ae)))) aV)
      (ah (cf (L2.PW.pt (fj (cC (ck (az G_is_coin_count (hr.mono (by decide)) rfl T.fQ T.df.kp b_is_coin_count .nil bw (FA.pa (aa (fv 3) ae))))) (eP (cC (ck (az G_is_coin_count (hr.mono (by decide)) rfl T.fQ T.df.kp b_is_coin_count .nil bw (FA.pa (aa (fv 5) ae)))))))) (am (kj T.sU PySem.F.excBase_ValueError rfl rfl T.lZ ox (FA.pa (aa (be [97, 32, 114, 97, 116, 101, 32, 104, 97, 115, 32, 116, 119, 111, 32, 110, 117, 109, 98, 101, 114, 115, 32, 102, 114, 111, 109, 32, 49, 32, 111, 110]) ae)))) aV)
      (am (cf (bB pk (fv 2) (fv 4) (bb _)) (am (eT (dO (fv 0) T.bT T.hX G_Rates_keep (hr.mono (by decide)) b_Rates_keep .nil bw (FA.pa (aa (fv 1) (aa (b8 (FA.pa (aa (fv 2) (aa (fv 4) ae)))) (aa (b8 (FA.pa (aa (fv 3) (aa (fv 5) ae)))) ae))))))) (am (eT (dO (fv 0) T.bT T.hX G_Rates_keep (hr.mono (by decide)) b_Rates_keep .nil bw (FA.pa (aa (fv 1) (aa (b8 (FA.pa (aa (fv 4) (aa (fv 2) ae)))) (aa (b8 (FA.pa (aa (fv 5) (aa (fv 3) ae)))) ae)))))))))))), ?_⟩
  walk_at "rd"
  obtain ⟨_, t1, e1⟩ := Td
  obtain ⟨_, t3, e3⟩ := Tp
  obtain ⟨_, t5, e5⟩ := Tq
  obtain ⟨o2, t2, e2⟩ := To
  obtain ⟨o4, t4, e4⟩ := Tt
  refine asK.of e1 ?_
  cases hd : amg x1 0 146096 with
  | false => exact itp rfl ⟨by walk_at "om", k1 (by unfold du; rw [if_neg (by rw [hd]; decide)]) _ (Same.refl _)⟩
  | true =>
  have u1 : du x1 x2 x3 x4 x5 = (if iu x2 = true ∧ iu x4 = true ∧ sB x2 x4 = false then (if amg x3 1 1000000000 = true ∧ amg x5 1 1000000000 = true then 0 else 3) else 2) := by unfold du; rw [if_pos hd]
  refine itn (by decide) ⟨o2, asK.of e2 fun H1 s1 => ?_⟩
  cases h2 : iu x2 with
  | false => exact itp rfl ⟨by walk_at "om", k2 (by rw [u1, if_neg (fun z => by rw [h2] at z; exact absurd z.1 (by decide))]) _ s1⟩
  | true =>
  refine itn (by decide) ⟨o4, asK.of (dC s1 e4) fun H2 s2 => ?_⟩
  cases h4 : iu x4 with
  | false => exact itp rfl ⟨by walk_at "om", k2 (by rw [u1, if_neg (fun z => by rw [h4] at z; exact absurd z.2.1 (by decide))]) _ (s1.trans s2)⟩
  | true =>
  refine itn (by decide) ?_
  have E1 := gR hd
  have E2 := fE h2
  have E4 := fE h4
  generalize toI x1 = d at E1
  generalize toT x2 = l2 at E2
  generalize toT x4 = l4 at E4
  subst E1 E2 E4
  have s12 := s1.trans s2
  walk_at "rd"
  by_cases eq : l2 = l4
  · exact itp eq ⟨by walk_at "om", k2 (by rw [u1, if_neg (fun z => absurd z.2.2 (by show ¬ decide (l2 = l4) = false; rw [decide_eq_true eq]; decide))]) _ s12⟩
  have u2 : du (.int d) (L2.T l2) x3 (L2.T l4) x5 = (if amg x3 1 1000000000 = true ∧ amg x5 1 1000000000 = true then 0 else 3) := by rw [u1, if_pos ⟨h2, h4, decide_eq_false eq⟩]
  refine itn eq (asK.of (dC s12 e3) ?_)
  cases h3 : amg x3 1 1000000000 with
  | false => exact itp rfl ⟨by walk_at "om", k3 (by rw [u2, if_neg (fun z => by rw [h3] at z; exact absurd z.1 (by decide))]) _ s12⟩
  | true =>
  refine itn (by decide) (asK.of (dC s12 e5) ?_)
  cases h5 : amg x5 1 1000000000 with
  | false => exact itp rfl ⟨by walk_at "om", k3 (by rw [u2, if_neg (fun z => by rw [h5] at z; exact absurd z.2 (by decide))]) _ s12⟩
  | true =>
  refine itn (by decide) ?_
  have E3 := gR h3
  have E5 := gR h5
  generalize toI x3 = pp at E3
  generalize toI x5 = qq at E5
  subst E3 E5
  have k0 := k0 (by rw [u2, if_pos ⟨h3, h5⟩])
  have kk : rM (.int d) (L2.T l2) (.int pp) (L2.T l4) (.int qq) = ⟨d, l2, pp, l4, qq⟩ := rfl
  rw [kk] at k0
  have RR2 := RR.same s12
  obtain ⟨dx, b, s0, kvs, sks, hr0, _⟩ := RR2.ex
  walk_at "rd"
  have fin : ∀ {H3 : Hp} {x y : List Nat} {wt : Wt} {W' : Addr → Prop} {H' : Hp}, Same H H3 → ((l2 = x ∧ l4 = y ∧ pp = wt.1 ∧ qq = wt.2) ∨ (l2 = y ∧ l4 = x ∧ pp = wt.2 ∧ qq = wt.1)) → x < y → RAt a.aq H' r (upf (val R) x y d wt) (fun z => (inQ R z ∨ z = x) ∨ z = y) (2 * R.length + 2) W' → (∀ p, W' p → W p ∨ H3 p = none) → Kp W H3 H' → Q .non H' := fun {H3 x y wt W' H'} s3 hh xy RA hf K3 => by
    refine k0 W' H' ?_ (fun p hp => (hf p hp).imp id s3.free) fun p o z nw => K3 p o (s3 p o z) nw
    have RB := RA.cg (f' := val (R ++ [⟨d, l2, pp, l4, qq⟩])) (c' := inQ (R ++ [⟨d, l2, pp, l4, qq⟩])) (fun x' y' D xy' => by rw [eM, m4 (a := x) (b := y) (p := wt.1) (q := wt.2) hh xy x' y' xy' D]; rfl) fun z => by
      rw [pG]
      rcases hh with ⟨rfl, rfl, _⟩ | ⟨rfl, rfl, _⟩
      · exact ⟨fun h => h.elim (fun h => h.imp id fun h => .inl h.symm) fun h => .inr (.inr h.symm), fun h => h.elim (fun h => .inl (.inl h)) fun h => h.elim (fun h => .inl (.inr h.symm)) fun h => .inr h.symm⟩
      · exact ⟨fun h => h.elim (fun h => h.imp id fun h => .inr h.symm) fun h => .inr (.inl h.symm), fun h => h.elim (fun h => .inl (.inl h)) fun h => h.elim (fun h => .inr h.symm) fun h => .inl (.inr h.symm)⟩
    have e : 2 * (R ++ [(⟨d, l2, pp, l4, qq⟩ : Qr)]).length = 2 * R.length + 2 := by rw [List.length_append, List.length_singleton]; omega
    unfold RS; rw [e]; exact RB
  by_cases lt : l2 < l4
  · refine itp (decide_eq_true lt) ⟨dx, _, hr0, rV _ _, by walk_at "om", fun p1 hp1 => ⟨by walk_at "om", fun p2 hp2 => ?_⟩⟩
    have t1 := aj (HO.tup [L2.T l2, L2.T l4]) hp1
    have t2 := t1.trans (aj (HO.tup [V.int pp, V.int qq]) hp2)
    exact ⟨_, _, _, W, l2, l4, (pp, qq), RR2.same t2, (aj _ hp2) _ _ ac, lt, ac, by walk_at "om", fun W' H' RA hf K3 => fin (s12.trans t2) (.inl ⟨rfl, rfl, rfl, rfl⟩) lt RA hf K3⟩
  · have gt : l4 < l2 := (jW l2 l4).elim (fun h => absurd h lt) fun h => h.elim (fun h => absurd h eq) id
    refine itn (fun z => lt (of_decide_eq_true z)) ⟨dx, _, hr0, rV _ _, by walk_at "om", fun p1 hp1 => ⟨by walk_at "om", fun p2 hp2 => ?_⟩⟩
    have t1 := aj (HO.tup [L2.T l4, L2.T l2]) hp1
    have t2 := t1.trans (aj (HO.tup [V.int qq, V.int pp]) hp2)
    exact ⟨_, _, _, W, l4, l2, (qq, pp), RR2.same t2, (aj _ hp2) _ _ ac, gt, ac, by walk_at "om", fun W' H' RA hf K3 => fin (s12.trans t2) (.inr ⟨rfl, rfl, rfl, rfl⟩) gt RA hf K3⟩
theorem mT (x y : V) : List.lookup (Str.ofString "newest") [(Str.ofString "by_pair", x), (Str.ofString "beside", y)] = none := by rw [da (by decide +kernel), da (by decide +kernel)]; rfl
def vF (H : Hp) (v : V) : Option (Int × Wt) → Prop
  | none => v = .non
  | some e => ∃ t, v = .ref t ∧ H t = some (.tup [.int e.2.1, .int e.2.2])
theorem DM.keys {H : Hp} {m : List (Key × V)} {f : Int → Option Wt} (h : DM H m f) : ∃ ds : List Int, m.map (fun e => kV e.1) = ds.map V.int ∧ ∀ D, D ∈ ds ↔ f D ≠ none := by
  have h1 : ∃ ds : List Int, m.map (·.1) = ds.map (Sum.inl : Int → Key) := by
    have ht : ∀ k v, (k, v) ∈ m → ∃ D, k = (Sum.inl D : Key) := fun k v mm => let ⟨D, _, _, e, _⟩ := h.to k v mm; ⟨D, e⟩
    clear h
    induction m with
    | nil => exact ⟨[], rfl⟩
    | cons p r ih =>
      obtain ⟨ds, e⟩ := ih fun k v mm => ht k v (.tail _ mm)
      obtain ⟨D, eD⟩ := ht p.1 p.2 (.head _)
      exact ⟨D :: ds, by rw [List.map_cons, List.map_cons, e, eD]⟩
  obtain ⟨ds, e⟩ := h1
  refine ⟨ds, ?_, fun D => ⟨fun mD => ?_, fun z => ?_⟩⟩
  · have := congrArg (List.map kV) e
    rw [List.map_map, List.map_map] at this
    exact this
  · have : (Sum.inl D : Key) ∈ m.map (·.1) := by rw [e]; exact List.mem_map.mpr ⟨D, mD, rfl⟩
    obtain ⟨⟨k, v⟩, mk, rfl⟩ := List.mem_map.mp this
    obtain ⟨D', w', t, e1, _, _, e4⟩ := h.to _ _ mk
    obtain rfl := Sum.inl.inj e1
    rw [e4]; exact fun z => nomatch z
  · cases hv : f D with
    | none => exact absurd hv z
    | some w' =>
      obtain ⟨v, mv⟩ := h.fr D w' hv
      have : (Sum.inl D : Key) ∈ m.map (·.1) := List.mem_map.mpr ⟨_, mv, rfl⟩
      rw [e] at this
      obtain ⟨D', mD, e2⟩ := List.mem_map.mp this
      exact Sum.inl.inj e2 ▸ mD
def sp_tH : Sp := sp4 fun _ _ _ _ _ _ _ => False
theorem nP (T : Txt K mg a) : cz P w K mg base (XE P w) 1 a.bU a.cU ["self", "one", "other", "day"] sp_tH := by
  refine T.cF.okX cS (fun vs H Q E h => sp4.len h) (fun cdv A outer s H vs Q E hr h => ?_)
  obtain ⟨x0, x1, x2, x3, rfl, h⟩ := sp4.inv h
  exact h.elim
def sp_ny (C : Addr) : Sp := sp4 fun x y z u H Q _ => asR x fun r => asT y fun l => asT z fun l' => asI u fun d => ¬ l' < l ∧ ∃ R W, RS C H r R W ∧ dB R ∧ R.length ≤ 100 ∧ ∀ o v H', fW (val R l l') d o → vF H' v o → Same H H' → Q v H'
theorem rX (T : Txt K mg a) : cz P w K mg base (XE P w) 2 a.bU a.cU ["self", "one", "other", "day"] (sp_ny a.aq) := by
  refine T.cF.okX cS (fun vs H Q E h => sp4.len h) (fun cdv A outer s H vs Q E hr h => ?_)
  obtain ⟨x0, x1, x2, x3, rfl, h⟩ := sp4.inv h
  try dsimp only [sp_ny, sp4] at h
  have ND := cS.nd
  have HU : (bZ (XE P w) P w K mg base ["self", "one", "other", "day", "worth", "by_day", "told_by_then"] "Rates.newest" (ad aW) a.bU cdv A outer s H E).A.units + 100 < cLine := bh hr
  obtain ⟨r, rfl, h1⟩ := asR.inv h
  obtain ⟨l, rfl, h2⟩ := asT.inv h1
  obtain ⟨l', rfl, h3⟩ := asT.inv h2
  obtain ⟨d, rfl, lt, R, W, RR, ap, lR, k⟩ := asI.inv h3
  have sz : 1000 ≤ sizeLine := by rw [sizeLine_eq]; decide
  obtain ⟨dx, b, s0, kvs, sks, hr0, B, S, dj, ns, hW⟩ := RR.ex
  have G_Rates_newest := nP (P := P) (w := w) (base := base) T
  have b_Rates_newest := dQ T.cF
  refine ⟨_, (ah (cf (bB pk (fv 2) (fv 1) (bb _)) (ah (aI (i := 4) ND rfl (Or.inl rfl) (dO (fv 0) T.bT T.dP G_Rates_newest (hr.mono (by decide)) b_Rates_newest .nil bw (FA.pa (aa (fv 2) (aa (fv 1) (aa (fv 3) ae))))))
      (am (aC (iV (mQ (fY (fv 4))) fh (b8 (FA.pa (aa (ar (ao K) (fv 4) ag (fun _ _ => rfl)) (aa (ar (ao K) (fv 4) ag (fun _ _ => rfl)) ae)))))))) aV)
      (ah (aI (i := 5) ND rfl (Or.inl rfl) (oQ (Nat.lt_of_le_of_lt (Nat.add_le_add_left (by decide) _) HU) (gS K (fv 0)) (b8 (FA.pa (aa (fv 1) (aa (fv 2) ae)))) gO ⟨rfl, rfl, rfl, rfl⟩))
      (ah (j0 (iX (i0 := 6) ND rfl (Or.inl rfl) rfl (cl := _) (x := "quoted") (xs := ["quoted"]) (fr := ["day"]) (ks := [3]) (by exact ⟨rfl, by decide +kernel, rfl, by decide +kernel, rfl, dN rfl, rfl, bz rfl, bz (k := fun y => List.lookup y _) rfl, dJ rfl⟩) rfl (nK (fv 5)) (fun _ _ _ _ _ => (aE (i := 0) (hE (l := ["quoted", "day"]) (by decide)) rfl (Or.inl rfl))) (fun _ _ _ _ _ => (iT (bB iZ (fv 0) (fv 1) (bb _)))) (fun _ _ _ _ _ => (fv 0))))
      (ah (cf (bB (cX K HU) (aA (fO K) rfl T.ko ik (FA.pa (aa (fv 6) ae))) ag (bb _)) (am (aC fh)) aV)
      (am (aC (j3 (Nat.lt_of_le_of_lt (Nat.add_le_add_left (by decide) _) HU) (fv 5) (aA (sE K rfl) rfl T.rF oj (FA.pa (aa (fv 6) ae))) (fun _ _ => rfl)))))))), ?_⟩
  walk_at "rd"
  refine itn (fun z => lt (of_decide_eq_true z)) ⟨_, _, _, _, hr0, T.bT, T.dh, yS _ _, _, rfl, .inr ⟨_, .inl B.at_⟩, by walk_at "om", fun p1 hp1 p2 hp2 => ?_⟩
  have s1 := aj (HO.tup [L2.T l, L2.T l']) hp1
  have s2 := s1.trans (aj (HO.dK []) hp2)
  have g := DGet.t (k := kP (l, l')) (s2 _ _ B.at_) ((aj (HO.dK []) hp2) _ _ ac)
  refine ⟨_, g, ?_⟩
  obtain ⟨e, m, he, hm, lm, dm⟩ : ∃ e m, (eC kvs (kP (l, l'))).getD (.ref p2) = .ref e ∧ upd (upd H p1 (.tup [L2.T l, L2.T l'])) p2 (.dK []) e = some (.dK m) ∧ m.length ≤ 200 ∧ DM (upd (upd H p1 (.tup [L2.T l, L2.T l'])) p2 (.dK [])) m (val R l l') := by
    cases hv : eC kvs (kP (l, l')) with
    | some v =>
      obtain ⟨x, y, e, m, e1, e2, rfl, e4, e5, e6⟩ := B.to _ _ (j5 hv)
      obtain ⟨rfl, rfl⟩ := Prod.mk.inj (nG e1)
      exact ⟨e, m, rfl, s2 _ _ e4, by omega, e6.mv fun t l z => s2 _ _ z⟩
    | none =>
      refine ⟨p2, [], rfl, ac, Nat.zero_le _, List.nodup_nil, (fun _ _ z => nomatch z), fun D w' z => ?_⟩
      rcases jW l l' with h | rfl | h
      · obtain ⟨v, mv⟩ := B.fr l l' D w' h z
        exact absurd mv (jV hv)
      · rw [xf _ _ _ ap] at z; cases z
      · exact absurd h lt
  rw [he]
  obtain ⟨ds, hds, mds⟩ := dm.keys
  generalize upd (upd H p1 (.tup [L2.T l, L2.T l'])) p2 (.dK []) = H1 at s2 hm dm ⊢
  refine yP (cmK e m (fun v => decide (toI v ≤ d)) id (fun R r => r) (.inl hm) (by omega) (fun x mx D ys o R _ _ r => ?_) (fun x mx _ D ys o R _ _ r => r) fun D hD => ?_)
  · rw [hds] at mx
    obtain ⟨i, _, rfl⟩ := List.mem_map.mp mx
    walk_at "rd"
    exact r
  · have el : ((m.map fun e => kV e.1).filter fun v => decide (toI v ≤ d)).map id = (ds.filter fun i => decide (i ≤ d)).map V.int := by
      rw [hds, List.map_id, List.filter_map]; rfl
    rw [el]
    have s3 := aj (HO.lst ((ds.filter fun i => decide (i ≤ d)).map V.int)) hD
    have hD1 : upd H1 D (HO.lst ((ds.filter fun i => decide (i ≤ d)).map V.int)) D = some (.lst ((ds.filter fun i => decide (i ≤ d)).map V.int)) := ac
    generalize upd H1 D (HO.lst ((ds.filter fun i => decide (i ≤ d)).map V.int)) = H2 at s3 hD1
    walk_at "rd"
    refine ⟨_, .inl (SqL.of hD1), ?_⟩
    rw [List.length_map]
    by_cases em : ds.filter (fun i => decide (i ≤ d)) = []
    · rw [em]
      refine itp rfl (k none .non _ (fun D' le => ?_) rfl (s2.trans s3))
      cases hv : val R l l' D' with
      | none => rfl
      | some w' =>
        have : D' ∈ ds.filter fun i => decide (i ≤ d) := List.mem_filter.mpr ⟨(mds D').mpr (by rw [hv]; exact fun z => nomatch z), decide_eq_true le⟩
        rw [em] at this; cases this
    · refine itn (fun z => em (List.length_eq_zero_iff.mp (by omega))) ⟨_, SqL.of hD1, em, fun M mM mx => ?_⟩
      obtain ⟨mM1, mM2⟩ := List.mem_filter.mp mM
      have mM2 := of_decide_eq_true mM2
      cases hv : val R l l' M with
      | none => exact absurd hv ((mds M).mp mM1)
      | some w' =>
        obtain ⟨v, mv⟩ := dm.fr M w' hv
        obtain ⟨v', hv', mv'⟩ := vy mv
        obtain ⟨D', w2, t, e1, rfl, e3, e4⟩ := dm.to _ _ mv'
        obtain rfl := Sum.inl.inj e1
        rw [hv] at e4; cases e4
        refine ⟨e, .ref t, rfl, by have := DGet.k (k := .inl M) (s3 _ _ hm); rw [hv'] at this; exact this, k (some (M, w')) _ _ ⟨mM2, hv, fun D2 l2 z => mx D2 (List.mem_filter.mpr ⟨(mds D2).mpr z, decide_eq_true l2⟩)⟩ ⟨t, rfl, s3 _ _ e3⟩ (s2.trans s3)⟩
def sp_nV (C : Addr) : Sp := sp4 fun x y z u H Q _ => asR x fun r => asT y fun l => asT z fun l' => asI u fun d => l' < l ∧ ∃ R W, RS C H r R W ∧ dB R ∧ R.length ≤ 100 ∧ ∀ o v H', fW (val R l l') d o → vF H' v o → Same H H' → Q v H'
theorem xr (T : Txt K mg a) : cz P w K mg base (XE P w) 3 a.bU a.cU ["self", "one", "other", "day"] (sp_nV a.aq) := by
  refine T.cF.okX cS (fun vs H Q E h => sp4.len h) (fun cdv A outer s H vs Q E hr h => ?_)
  obtain ⟨x0, x1, x2, x3, rfl, h⟩ := sp4.inv h
  try dsimp only [sp_nV, sp4] at h
  have ND := cS.nd
  have HU : (bZ (XE P w) P w K mg base ["self", "one", "other", "day", "worth", "by_day", "told_by_then"] "Rates.newest" (ad aW) a.bU cdv A outer s H E).A.units + 100 < cLine := bh hr
  obtain ⟨r, rfl, h1⟩ := asR.inv h
  obtain ⟨l, rfl, h2⟩ := asT.inv h1
  obtain ⟨l', rfl, h3⟩ := asT.inv h2
  obtain ⟨d, rfl, lt, R, W, RR, ap, lR, k⟩ := asI.inv h3
  have sz : 1000 ≤ sizeLine := by rw [sizeLine_eq]; decide
  obtain ⟨dx, b, s0, kvs, sks, hr0, B, S, dj, ns, hW⟩ := RR.ex
  have G_Rates_newest := rX (P := P) (w := w) (base := base) T
  have b_Rates_newest := dQ T.cF
  refine ⟨_, (ah (cf (bB pk (fv 2) (fv 1) (bb _)) (ah (aI (i := 4) ND rfl (Or.inl rfl) (dO (fv 0) T.bT T.dP G_Rates_newest (hr.mono (by decide)) b_Rates_newest .nil bw (FA.pa (aa (fv 2) (aa (fv 1) (aa (fv 3) ae))))))
      (am (aC (iV (mQ (fY (fv 4))) fh (b8 (FA.pa (aa (ar (ao K) (fv 4) ag (fun _ _ => rfl)) (aa (ar (ao K) (fv 4) ag (fun _ _ => rfl)) ae)))))))) aV)
      (ah (aI (i := 5) ND rfl (Or.inl rfl) (oQ (Nat.lt_of_le_of_lt (Nat.add_le_add_left (by decide) _) HU) (gS K (fv 0)) (b8 (FA.pa (aa (fv 1) (aa (fv 2) ae)))) gO ⟨rfl, rfl, rfl, rfl⟩))
      (ah (j0 (iX (i0 := 6) ND rfl (Or.inl rfl) rfl (cl := _) (x := "quoted") (xs := ["quoted"]) (fr := ["day"]) (ks := [3]) (by exact ⟨rfl, by decide +kernel, rfl, by decide +kernel, rfl, dN rfl, rfl, bz rfl, bz (k := fun y => List.lookup y _) rfl, dJ rfl⟩) rfl (nK (fv 5)) (fun _ _ _ _ _ => (aE (i := 0) (hE (l := ["quoted", "day"]) (by decide)) rfl (Or.inl rfl))) (fun _ _ _ _ _ => (iT (bB iZ (fv 0) (fv 1) (bb _)))) (fun _ _ _ _ _ => (fv 0))))
      (ah (cf (bB (cX K HU) (aA (fO K) rfl T.ko ik (FA.pa (aa (fv 6) ae))) ag (bb _)) (am (aC fh)) aV)
      (am (aC (j3 (Nat.lt_of_le_of_lt (Nat.add_le_add_left (by decide) _) HU) (fv 5) (aA (sE K rfl) rfl T.rF oj (FA.pa (aa (fv 6) ae))) (fun _ _ => rfl)))))))), ?_⟩
  walk_at "rd"
  refine itp (decide_eq_true lt) ⟨_, _, hr0, mT _ _, fun z => List.lt_irrefl _ (List.lt_trans lt z), R, W, RR, ap, lR, fun o v H1 io wo s1 => ?_⟩
  have io2 := wN (t := swp) (fun D => uJ l' l D R ap) io
  cases o with
  | none => cases wo; exact itp rfl (k _ _ _ io2 rfl s1)
  | some e =>
    obtain ⟨t, rfl, ht⟩ := wo
    refine itn (fun z => nomatch z) ?_
    walk_at "rd"
    refine ⟨_, _, .inr (SqT.of ht), aB (j := 1) rfl, _, _, .inr (SqT.of ht), aB (j := 0) rfl, by walk_at "om", fun p hp => k _ _ _ io2 ⟨p, rfl, ac⟩ (s1.trans (aj _ hp))⟩
def sp_qr (C : Addr) : Sp := sp4 fun x y z u H Q _ => asR x fun r => asT y fun l => asT z fun l' => asI u fun d => ∃ R W, RS C H r R W ∧ dB R ∧ R.length ≤ 100 ∧ ∀ o v H', fW (val R l l') d o → vF H' v o → Same H H' → Q v H'
theorem jR (T : Txt K mg a) : cz P w K mg base (XE P w) 3 a.bU a.cU ["self", "one", "other", "day"] (sp_qr a.aq) := by
  have f0 := rX (P := P) (w := w) (base := base) T
  have f1 := xr (P := P) (w := w) (base := base) T
  have sp : ∀ vs H Q E, sp_qr a.aq vs H Q E → sp_ny a.aq vs H Q E ∨ sp_nV a.aq vs H Q E := fun vs H Q E h => by
    obtain ⟨x0, x1, x2, x3, rfl, h⟩ := sp4.inv h
    dsimp only [sp_qr, sp4] at h
    obtain ⟨r, rfl, h1⟩ := asR.inv h
    obtain ⟨l, rfl, h2⟩ := asT.inv h1
    obtain ⟨l', rfl, h3⟩ := asT.inv h2
    obtain ⟨d, rfl, h4⟩ := asI.inv h3
    by_cases lt : l' < l
    · exact .inr ⟨lt, h4⟩
    · exact .inl ⟨lt, h4⟩
  refine ⟨fun vs H Q E h => (sp vs H Q E h).elim (f0.len vs H Q E) (f1.len vs H Q E), fun A outer s H args us vs Q E hr e0 hb r hsp => (sp vs H Q E hsp).elim (fun h => f0.run A outer s H args us vs Q E (hr.mono (by decide)) e0 hb r h) fun h => f1.run A outer s H args us vs Q E hr e0 hb r h⟩
theorem Az {sks : List (Key × V)} {c : List Nat → Prop} {n : Nat} {H : Hp} {s : Addr} (h : BS H s sks c n) : ∃ ls : List (List Nat), sks.map (fun e => kV e.1) = ls.map L2.T ∧ ls.Nodup ∧ (∀ x, x ∈ ls ↔ c x) ∧ ls.length = sks.length := by
  have h1 : ∃ ls : List (List Nat), sks.map (·.1) = ls.map fun x => (Sum.inr ⟨⟨x⟩⟩ : Key) := by
    have ht : ∀ k v, (k, v) ∈ sks → ∃ x, k = (Sum.inr ⟨⟨x⟩⟩ : Key) := fun k v mm => let ⟨D, _, _, e, _⟩ := h.to k v mm; ⟨D, e⟩
    clear h
    induction sks with
    | nil => exact ⟨[], rfl⟩
    | cons p r ih =>
      obtain ⟨ds, e⟩ := ih fun k v mm => ht k v (.tail _ mm)
      obtain ⟨D, eD⟩ := ht p.1 p.2 (.head _)
      exact ⟨D :: ds, by rw [List.map_cons, List.map_cons, e, eD]⟩
  obtain ⟨ls, e⟩ := h1
  have inj : ∀ x y, (Sum.inr ⟨⟨x⟩⟩ : Key) = Sum.inr ⟨⟨y⟩⟩ → x = y := fun x y q => by
    have q := Sum.inr.inj q
    injection q with q; injection q
  refine ⟨ls, ?_, ?_, fun x => ⟨fun m => ?_, fun z => ?_⟩, ?_⟩
  · have := congrArg (List.map kV) e
    rw [List.map_map, List.map_map] at this
    exact this
  · have nd := h.nd
    rw [e] at nd
    exact (List.pairwise_map.mp nd).imp fun z q => z (by rw [q])
  · have : (Sum.inr ⟨⟨x⟩⟩ : Key) ∈ sks.map (·.1) := by rw [e]; exact List.mem_map.mpr ⟨x, m, rfl⟩
    obtain ⟨⟨k, v⟩, mk, e1⟩ := List.mem_map.mp this
    obtain ⟨x', _, _, e2, cx, _⟩ := h.to _ _ mk
    have := inj x x' (e1.symm.trans e2)
    rw [this]; exact cx
  · obtain ⟨v, mv⟩ := h.fr x z
    have : (Sum.inr ⟨⟨x⟩⟩ : Key) ∈ sks.map (·.1) := List.mem_map.mpr ⟨_, mv, rfl⟩
    rw [e] at this
    obtain ⟨y, my, ey⟩ := List.mem_map.mp this
    exact inj _ _ ey ▸ my
  · have := congrArg List.length e
    rw [List.length_map, List.length_map] at this; exact this.symm
def sp_vC (C : Addr) : Sp := sp1 fun x H Q _ => asR x fun r => ∃ R W, RS C H r R W ∧ R.length ≤ 20 ∧ ∀ out l H', InO out → out.Nodup → (∀ x, x ∈ out ↔ inQ R x) → H l = none → H' l = some (.lst (out.map L2.T)) → Same H H' → Q (.ref l) H'
theorem g0 (T : Txt K mg a) : cz P w K mg base (XE P w) 1 a.dk a.d_ ["self"] (sp_vC a.aq) := by
  refine T.eN.okX gT (fun vs H Q E h => sp1.len h) (fun cdv A outer s H vs Q E hr h => ?_)
  obtain ⟨x0, rfl, h⟩ := sp1.inv h
  try dsimp only [sp_vC, sp1] at h
  obtain ⟨r, rfl, R, W, RR, lR, k⟩ := asR.inv h
  obtain ⟨dx, b, s0, kvs, sks, hr0, B, S, dj, ns, hW⟩ := RR.ex
  refine ⟨_, (am (aC (aA (oR rfl) rfl T.iI gQ (FA.pa (aa (gS K (fv 0)) ae))))), ?_⟩
  walk_at "rd"
  obtain ⟨ls, e1, nd, ml, ll⟩ := Az S
  have sl := S.len
  exact ⟨_, _, _, _, hr0, T.bT, T.eJ, zY _ _, sks, ls, S.at_, e1, by omega, fun out po oo l hl => k out l _ oo (po.nodup_iff.mpr nd) (fun x => po.mem_iff.trans (ml x)) hl ac (aj _ hl)⟩
def TL (R : List Qr) (kvs : List (List Key × V)) (i : Nat) (ps : List AK) : Prop := (ps.map (·.2)).Nodup ∧ ∀ k, k ∈ ps.map (·.2) ↔ ∃ j x y v D w, j < i ∧ kvs[j]? = some (kP (x, y), v) ∧ val R x y D = some w ∧ k = qK D x y w
def TM (R : List Qr) (kvs : List (List Key × V)) (i : Nat) (m : List (Key × V)) (j : Nat) (x y : List Nat) (ps : List AK) : Prop := (ps.map (·.2)).Nodup ∧ ∀ k, k ∈ ps.map (·.2) ↔ (∃ j x y v D w, j < i ∧ kvs[j]? = some (kP (x, y), v) ∧ val R x y D = some w ∧ k = qK D x y w) ∨ ∃ j' D w v, j' < j ∧ m[j']? = some ((.inl D : Key), v) ∧ val R x y D = some w ∧ k = qK D x y w
theorem xN {κ : Type} {kvs : List (κ × V)} (nd : (kvs.map (·.1)).Nodup) {i j : Nat} {k : κ} {u v : V} (h : kvs[i]? = some (k, u)) (h' : kvs[j]? = some (k, v)) : i = j := by
  have e1 : (kvs.map (·.1))[i]? = some k := by rw [List.getElem?_map, h]; rfl
  have e2 : (kvs.map (·.1))[j]? = some k := by rw [List.getElem?_map, h']; rfl
  obtain ⟨l1, _⟩ := List.getElem?_eq_some_iff.mp e1
  exact (List.getElem?_inj l1 nd).mp (e1.trans e2.symm)
theorem TM.snoc {R : List Qr} {kvs : List (List Key × V)} {i j : Nat} {m : List (Key × V)} {x y : List Nat} {ps : List AK} {t2 : Addr} {D : Int} {w' : Wt} {u v : V} (h : TM R kvs i m j x y ps) (nd : (kvs.map (·.1)).Nodup) (hk : kvs[i]? = some (kP (x, y), u)) (nm : (m.map (·.1)).Nodup) (hm : m[j]? = some ((.inl D : Key), v)) (hv : val R x y D = some w') : TM R kvs i m (j + 1) x y (ps ++ [(t2, qK D x y w')]) := by
  refine ⟨?_, fun k => ?_⟩
  · rw [List.map_append]
    refine List.nodup_append.mpr ⟨h.1, by simp, fun a ma b mb => ?_⟩
    rw [List.mem_singleton.mp mb]
    rintro rfl
    rcases (h.2 _).mp ma with ⟨j', x', y', v', D', w2, l, e1, _, e3⟩ | ⟨j', D', w2, v', l, e1, _, e3⟩
    · obtain ⟨rfl, rfl, rfl, rfl⟩ := qY e3
      have := xN nd e1 hk; omega
    · obtain ⟨rfl, _, _, rfl⟩ := qY e3
      have := xN nm e1 hm; omega
  · rw [List.map_append, List.mem_append, h.2 k]
    constructor
    · rintro ((q | ⟨j', D', w2, v', l, e⟩) | q)
      · exact .inl q
      · exact .inr ⟨j', D', w2, v', by omega, e⟩
      · exact .inr ⟨j, D, w', v, by omega, hm, hv, List.mem_singleton.mp q⟩
    · rintro (q | ⟨j', D', w2, v', l, e1, e2, e3⟩)
      · exact .inl (.inl q)
      · by_cases hj : j' = j
        · subst hj
          rw [hm] at e1; cases e1
          rw [hv] at e2; cases e2
          exact .inr (List.mem_singleton.mpr e3)
        · exact .inl (.inr ⟨j', D', w2, v', by omega, e1, e2, e3⟩)
theorem TM.fin {H : Hp} {R : List Qr} {kvs : List (List Key × V)} {i : Nat} {m : List (Key × V)} {x y : List Nat} {ps : List AK} {u : V} (h : TM R kvs i m m.length x y ps) (hk : kvs[i]? = some (kP (x, y), u)) (dm : DM H m (val R x y)) : TL R kvs (i + 1) ps := by
  refine ⟨h.1, fun k => (h.2 k).trans ⟨?_, ?_⟩⟩
  · rintro (⟨j, x', y', v, D, w', l, e⟩ | ⟨j, D, w', v, _, _, e1, e2⟩)
    · exact ⟨j, x', y', v, D, w', by omega, e⟩
    · exact ⟨i, x, y, u, D, w', by omega, hk, e1, e2⟩
  · rintro ⟨j, x', y', v, D, w', l, e1, e2, e3⟩
    by_cases hj : j = i
    · subst hj
      rw [hk] at e1
      have e1 := Prod.mk.inj (Option.some.inj e1)
      obtain ⟨rfl, rfl⟩ := Prod.mk.inj (nG e1.1)
      obtain ⟨v2, mv⟩ := dm.fr D w' e2
      obtain ⟨j2, hj2, ej⟩ := List.mem_iff_getElem.mp mv
      exact .inr ⟨j2, D, w', v2, hj2, by rw [List.getElem?_eq_getElem hj2, ej], e2, e3⟩
    · exact .inl ⟨j, x', y', v, D, w', by omega, e1, e2, e3⟩
def sp_mf (C : Addr) : Sp := sp1 fun x H Q _ => asR x fun r => ∃ R W, RS C H r R W ∧ R.length ≤ 20 ∧ ∀ (ps : List AK) l H', tI (ps.map (·.2)) → (∀ k, k ∈ ps.map (·.2) ↔ IsQ (val R) k) → H l = none → H' l = some (.lst (ps.map fun e => .ref e.1)) → (∀ e ∈ ps, H' e.1 = some (.tup (e.2.map kV))) → Same H H' → Q (.ref l) H'
theorem jP (T : Txt K mg a) : cz P w K mg base (XE P w) 1 a.eG a.fS ["self"] (sp_mf a.aq) := by
  refine T.gH.okX fR (fun vs H Q E h => sp1.len h) (fun cdv A outer s H vs Q E hr h => ?_)
  obtain ⟨x0, rfl, h⟩ := sp1.inv h
  try dsimp only [sp_mf, sp1] at h
  have ND := fR.nd
  obtain ⟨r, rfl, R, W, RR, lR, k⟩ := asR.inv h
  have sz : 1000 ≤ sizeLine := by rw [sizeLine_eq]; decide
  obtain ⟨dx, b, s0, kvs, sks, hr0, B, S, dj, ns, hW⟩ := RR.ex
  refine ⟨_, (ah (aI (i := 1) ND rfl (Or.inl rfl) (bY (FA.pa ae)))
      (ah (j0 (e_ (by passes_own) rfl (oV (gS K (fv 0))) (iL K (n := 2) rfl (bL (aE (i := 2) ND rfl (Or.inl rfl)) (bL (aE (i := 3) ND rfl (Or.inl rfl)) iW))) (am (j0 (e_ (by passes_own) rfl (oV (fv 3)) (iL K (n := 2) rfl (bL (aE (i := 4) ND rfl (Or.inl rfl)) (bL (aE (i := 5) ND rfl (Or.inl rfl)) iW))) (am (eT (iz K PySem.F.plainAttrs_list PySem.F.slot_list_append PySem.F.type_list_append fH (fv 1) (FA.pa (aa (b8 (FA.pa (aa (fv 4) (aa (ar (ao K) (fv 2) ag (fun _ _ => rfl)) (aa (ar (ao K) (fv 5) ag (fun _ _ => rfl)) (aa (ar (ao K) (fv 2) ag (fun _ _ => rfl)) (aa (ar (ao K) (fv 5) ag (fun _ _ => rfl)) ae))))))) ae))))))))))
      (am (aC (aA (pd K) rfl T.iI gQ (FA.pa (aa (fv 1) ae))))))), ?_⟩
  walk_at "rd"
  have sz5 : 5000 ≤ sizeLine := by rw [sizeLine_eq]; decide
  have lk := B.len
  refine ⟨by walk_at "om", fun p hp => sK ?_⟩
  have s0p := aj (HO.lst []) hp
  walk_at "rd"
  refine ⟨_, _, _, _, s0p _ _ hr0, T.bT, T.dh, yS _ _, b, .dT kvs, rfl, rfl, .inl (s0p _ _ B.at_), fun o ho => ?_⟩
  have hb1 : upd H p (.lst []) b = some (.dT kvs) := s0p _ _ B.at_
  refine sN (fun i σ' G => Same (upd H b (.frz o (.dT kvs))) G ∧ ∃ ps : List AK, ∃ x2 x3 x4 x5, TL R kvs i ps ∧ ps.length ≤ 50 * i ∧ G p = some (.lst (ps.map fun e => .ref e.1)) ∧ (∀ e ∈ ps, G e.1 = some (.tup (e.2.map kV))) ∧ σ' = [some (.ref r), some (.ref p), x2, x3, x4, x5]) ?_ ?_ ?_ ?_
  · have np := ak B.at_ hp
    refine ⟨fun c z q => ?_, [], _, _, _, _, ⟨List.nodup_nil, fun k => ⟨(fun z => nomatch z), fun ⟨j, _, _, _, _, _, l, _⟩ => absurd l (Nat.not_lt_zero _)⟩⟩, Nat.zero_le _, (af (Ne.symm np)).trans ac, (fun _ z => nomatch z), rfl⟩
    by_cases hc : c = b
    · subst hc; rw [ac] at q ⊢; exact q
    · rw [af hc] at q ⊢; exact s0p c z q
  · rintro i σ' G ⟨sm, _⟩; exact sm _ _ ac
  · rintro i x v σ' G t hi ⟨ky, q, hk, rfl, hq⟩ ht ⟨sm, ps, x2, x3, x4, x5, TT, lp, hps, aps, rfl⟩
    obtain ⟨x, y, e, m, rfl, xy, rfl, he, lm, dm⟩ := B.to _ _ (List.mem_of_getElem? hk)
    have st := aj (HO.tup [V.ref q, V.ref e]) ht
    walk_at "rd"
    refine ⟨_, _, rfl, SqT.of ac, rfl, _, _, rfl, _, _, rfl, rfl, sK ?_⟩
    walk_at "rd"
    have neb : e ≠ b := db he B.at_ (fun z => nomatch z)
    have npe : p ≠ e := Ne.symm (ak he hp)
    have npb : p ≠ b := Ne.symm (ak B.at_ hp)
    have heb : upd H b (.frz o (.dT kvs)) e = some (.dK m) := (af neb).trans he
    have heG := sm _ _ heb
    refine ⟨e, .dK m, rfl, rfl, .inl (st _ _ heG), fun o' _ => ?_⟩
    refine sN (fun j σ' F => Same (upd (upd H b (.frz o (.dT kvs))) e (.frz o' (.dK m))) F ∧ F q = some (.tup [L2.T x, L2.T y]) ∧ ∃ ps : List AK, ∃ x4 x5, TM R kvs i m j x y ps ∧ ps.length ≤ 50 * i + j ∧ F p = some (.lst (ps.map fun e => .ref e.1)) ∧ (∀ e ∈ ps, F e.1 = some (.tup (e.2.map kV))) ∧ σ' = [some (.ref r), some (.ref p), some (.ref q), some (.ref e), x4, x5]) ?_ ?_ ?_ ?_
    · have ne1 : ∀ {c : Addr} {l : List V}, G c = some (.tup l) → c ≠ e := fun h => db h heG (fun z => nomatch z)
      refine ⟨fun c z h => ?_, (af (ne1 hq)).trans (st _ _ hq), ps, x4, x5, ⟨TT.1, fun k => (TT.2 k).trans ⟨.inl, fun h => h.elim id fun ⟨_, _, _, _, l, _⟩ => absurd l (Nat.not_lt_zero _)⟩⟩, lp, (af npe).trans (st _ _ hps), fun z mz => (af (ne1 (aps z mz))).trans (st _ _ (aps z mz)), rfl⟩
      by_cases hc : c = e
      · subst hc; rw [ac] at h ⊢; exact h
      · rw [af hc] at h ⊢; exact st _ _ (sm c z h)
    · rintro j σ' F ⟨sF, _⟩; exact sF _ _ ac
    · rintro j kx v σ' F t1 hj ⟨ky, hm, rfl⟩ ht1 ⟨sF, hqF, ps', y4, y5, TM', lp', hpF, apF, rfl⟩
      obtain ⟨D, w', tw, rfl, rfl, htw, hv⟩ := dm.to _ _ (List.mem_of_getElem? hm)
      have htF : F tw = some (.tup [.int w'.1, .int w'.2]) := sF _ _ ((af (db htw he (fun z => nomatch z))).trans ((af (db htw B.at_ (fun z => nomatch z))).trans htw))
      have s1 := aj (HO.tup [kV (Sum.inl D), V.ref tw]) ht1
      walk_at "rd"
      refine ⟨_, _, rfl, SqT.of ac, rfl, _, _, rfl, _, _, rfl, rfl, ?_⟩
      walk_at "rd"
      refine ⟨.inl ⟨_, SqL.of (s1 _ _ hpF)⟩, _, _, .inr (SqT.of (s1 _ _ hqF)), aB (j := 0) rfl, _, _, .inr (SqT.of (s1 _ _ htF)), aB (j := 0) rfl, _, _, .inr (SqT.of (s1 _ _ hqF)), aB (j := 1) rfl, _, _, .inr (SqT.of (s1 _ _ htF)), aB (j := 1) rfl, by walk_at "om", fun t2 ht2 => ?_⟩
      have s2 := s1.trans (aj (HO.tup [V.int D, L2.T x, V.int w'.1, L2.T y, V.int w'.2]) ht2)
      have hl : j < m.length := hj
      have hi2 : i < kvs.length := hi
      refine ⟨p, _, _, rfl, rfl, s2 _ _ hpF, by rw [List.length_map]; omega, ?_⟩
      have np2 : ∀ {c : Addr} {l : List V}, F c = some (.tup l) → c ≠ p := fun h => db h hpF (fun z => nomatch z)
      have nt2 : t2 ≠ p := fun z => by rw [z, s1 _ _ hpF] at ht2; cases ht2
      refine ⟨fun c z h => ?_, (af (np2 hqF)).trans (s2 _ _ hqF), ps' ++ [(t2, qK D x y w')], _, _, TM'.snoc B.nd hk dm.nd hm hv, by rw [List.length_append, List.length_singleton]; omega, by rw [ac, List.map_append]; rfl, fun z mz => ?_, rfl, rfl⟩
      · have hcp : c ≠ p := fun z => by
          rw [z, af npe, af npb, hp] at h; cases h
        rw [af hcp]; exact s2 _ _ (sF c z h)
      · rcases List.mem_append.mp mz with mz | mz
        · rw [af (np2 (apF z mz))]; exact s2 _ _ (apF z mz)
        · rw [List.mem_singleton.mp mz]
          exact (af nt2).trans ac
    · rintro σ' F ⟨sF, hqF, ps', y4, y5, TM', lp', hpF, apF, rfl⟩
      have hl : eO (.dK m) = m.length := rfl
      rw [hl] at TM' lp'
      refine ⟨e, o', .dK m, sF _ _ ac, .inl ⟨st _ _ heG, rfl, kz sF heb, ps', _, _, _, _, TM'.fin hk dm, by omega, (af npe).trans hpF, fun z mz => ?_, rfl⟩⟩
      have := apF z mz
      rw [af fun h => by rw [h, sF _ _ ac] at this; cases this]
      exact this
  · rintro σ' G ⟨sm, ps, x2, x3, x4, x5, TT, lp, hps, aps, rfl⟩
    refine ⟨b, o, .dT kvs, sm _ _ ac, .inl ⟨s0p _ _ B.at_, rfl, ?_⟩⟩
    have s1 := kz sm B.at_
    have nbp : p ≠ b := Ne.symm (ak B.at_ hp)
    have iq : ∀ k, k ∈ ps.map (·.2) ↔ IsQ (val R) k := fun k => by
      rw [TT.2 k]
      constructor
      · rintro ⟨j, x, y, v, D, w', _, hk, hv, rfl⟩
        obtain ⟨x', y', _, _, e1, xy, _⟩ := B.to _ _ (List.mem_of_getElem? hk)
        obtain ⟨rfl, rfl⟩ := Prod.mk.inj (nG e1)
        exact ⟨D, x, y, w', xy, hv, rfl⟩
      · rintro ⟨D, x, y, w', xy, hv, rfl⟩
        obtain ⟨v, mv⟩ := B.fr x y D w' xy hv
        obtain ⟨j, hj, ej⟩ := List.mem_iff_getElem.mp mv
        exact ⟨j, x, y, v, D, w', hj, by rw [List.getElem?_eq_getElem hj, ej], hv, rfl⟩
    have len := og TT.1 fun k m => (iq k).mp m
    rw [List.length_map] at len
    have ap : ∀ e ∈ ps, upd G b (.dT kvs) e.1 = some (.tup (e.2.map kV)) := fun e me => by
      have := aps e me
      rw [af]
      · exact this
      · intro z; rw [z, sm _ _ ac] at this; cases this
    walk_at "rd"
    refine ⟨ps, true, [false, true, false, true], SqL.of ((af nbp).trans hps), ap, by omega, fun e me => ?_, TT.1, fun out po oo l hl => ?_⟩
    · obtain ⟨D, x, y, w', _, _, e1⟩ := (iq e.2).mp (List.mem_map.mpr ⟨e, me, rfl⟩)
      rw [e1]; rfl
    · have s2 := aj (HO.lst (out.map fun e => .ref e.1)) hl
      exact k out l _ oo (fun k => (List.Perm.mem_iff (po.map _)).trans (iq k)) (s1.free hl) ac (fun e me => s2 _ _ (ap e (po.mem_iff.mp me))) (s1.trans s2)
end
section
variable {P : Program} {w : World} {K : PySem.W.Frag} {mg : Str → Option Value} {base : Heap} {a : Adr}
def QAt (H : Hp) (v : V) (r : Qr) : Prop := ∃ q, v = .ref q ∧ H q = some (.tup [.int r.d, L2.T r.a, .int r.p, L2.T r.b, .int r.q])
theorem kh {H H' : Hp} (s : Same H H') {vs : List V} {R : List Qr} (h : A2 (QAt H) vs R) : A2 (QAt H') vs R := h.imp fun _ _ _ _ ⟨q, e, z⟩ => ⟨q, e, s _ _ z⟩
def BAt (H : Hp) (v : V) : Option (Int × Wt) → Prop
  | none => v = .non
  | some e => ∃ t, v = .ref t ∧ H t = some (.tup [.int e.1, .int e.2.1, .int e.2.2])
theorem gN {α : Type} {l : List α} {i : Nat} {x : α} (h : l[i]? = some x) : l.take (i + 1) = l.take i ++ [x] := by rw [List.take_succ, h]; rfl
theorem tK {k : Nat} {A : PySem.Around} (r : RoomC k A) : A.units + 100 < PySem.cLine := by have := r.un; omega
theorem zG {H : Hp} {v : V} {o : Option (Int × Wt)} (h : BAt H v o) : (v = .non ∧ o = none) ∨ ∃ e t, o = some e ∧ v = .ref t ∧ H t = some (.tup [.int e.1, .int e.2.1, .int e.2.2]) := by
  cases o with
  | none => exact .inl ⟨h, rfl⟩
  | some e => obtain ⟨t, h1, h2⟩ := h; exact .inr ⟨e, t, rfl, h1, h2⟩
theorem yg {H : Hp} {v : V} {o : Option (Int × Wt)} (h : vF H v o) : (v = .non ∧ o = none) ∨ ∃ e t, o = some e ∧ v = .ref t ∧ H t = some (.tup [.int e.2.1, .int e.2.2]) := by
  cases o with
  | none => exact .inl ⟨h, rfl⟩
  | some e => obtain ⟨t, h1, h2⟩ := h; exact .inr ⟨e, t, rfl, h1, h2⟩
theorem xB {A B C : Prop} (f : (A → B) → C) (g : A → B) : C := f g
def sp_rS : Sp := sp4 fun x y z u H Q _ => asR x fun th => asT y fun l => asT z fun l' => asI u fun d => ∃ vs R, H th = some (.lst vs) ∧ A2 (QAt H) vs R ∧ R.length ≤ 100 ∧ ∀ o v H', fW (val R l l') d o → vF H' v o → Same H H' → Q v H'
theorem ka (T : Txt K mg a) : cz P w K mg base (XE P w) 1 a.dG a.gJ ["_law_told_here", "_law_one", "_law_other", "_law_day"] sp_rS := by
  refine T.fe.okX gA (fun vs H Q E h => sp4.len h) (fun cdv A outer s H vs Q E hr h => ?_)
  obtain ⟨x0, x1, x2, x3, rfl, h⟩ := sp4.inv h
  try dsimp only [sp_rS, sp4] at h
  have ND := gA.nd
  have HU : (bZ (XE P w) P w K mg base ["_law_told_here", "_law_one", "_law_other", "_law_day", "_law_best", "_law_row"] "_law_newest" (ad bE) a.dG cdv A outer s H E).A.units + 100 < cLine := bh hr
  obtain ⟨th, rfl, h1⟩ := asR.inv h
  obtain ⟨l, rfl, h2⟩ := asT.inv h1
  obtain ⟨l', rfl, h3⟩ := asT.inv h2
  obtain ⟨d, rfl, vs, R, ht, aR, lR, k⟩ := asI.inv h3
  have sz : 1000 ≤ sizeLine := by rw [sizeLine_eq]; decide
  refine ⟨_, (ah (aI (i := 4) ND rfl (Or.inl rfl) fh)
      (ah (e_ (by passes_own) rfl (fw K (fv 0)) (aE (i := 5) ND rfl (Or.inl rfl)) (am (cf (L2.PW.pt (lg (bB iZ (ar (ao K) (fv 5) ag (fun _ _ => rfl)) (fv 3) (bb _)) (iU (L2.PW.pt (fj (mQ (fY (fv 4))) (eP (bB AF (ar (ao K) (fv 5) ag (fun _ _ => rfl)) (ar (ao K) (fv 4) ag (fun _ _ => rfl)) (bb _)))))))) (am (cf (L2.PW.pt (lg (bB (cX K HU) (ar (ao K) (fv 5) ag (fun _ _ => rfl)) (fv 1) (bb _)) (iU (bB (cX K HU) (ar (ao K) (fv 5) ag (fun _ _ => rfl)) (fv 2) (bb _))))) (am (aI (i := 4) ND rfl (Or.inl rfl) (b8 (FA.pa (aa (ar (ao K) (fv 5) ag (fun _ _ => rfl)) (aa (ar (ao K) (fv 5) ag (fun _ _ => rfl)) (aa (ar (ao K) (fv 5) ag (fun _ _ => rfl)) ae))))))) (am (cf (L2.PW.pt (lg (bB (cX K HU) (ar (ao K) (fv 5) ag (fun _ _ => rfl)) (fv 2) (bb _)) (iU (bB (cX K HU) (ar (ao K) (fv 5) ag (fun _ _ => rfl)) (fv 1) (bb _))))) (am (aI (i := 4) ND rfl (Or.inl rfl) (b8 (FA.pa (aa (ar (ao K) (fv 5) ag (fun _ _ => rfl)) (aa (ar (ao K) (fv 5) ag (fun _ _ => rfl)) (aa (ar (ao K) (fv 5) ag (fun _ _ => rfl)) ae))))))) aV)))) aV)))
      (am (aC (iV (mQ (fY (fv 4))) fh (pI (v7 K) (fv 4) (r6 ag) rY)))))), ?_⟩
  walk_at "rd"
  refine i4 ?_
  walk_at "rd"
  refine iE (SqL.of ht) (iJ (fun i σ' H' => Same H H' ∧ ∃ o v x5, fW (val (R.take i) l l') d o ∧ BAt H' v o ∧ σ' = [some (.ref th), some (L2.T l), some (L2.T l'), some (.int d), some v, x5]) ⟨Same.refl _, none, .non, none, (fun _ _ => rfl), rfl, rfl⟩ (fun i σ' H' _ h => SqL.of (h.1 _ _ ht)) ?_ ?_)
  · rintro i x σ' H' hx ⟨sm, o, v, x5, io, bo, rfl⟩
    obtain ⟨r, hr, q, rfl, hq⟩ := aR.at_ hx
    have hq' := sm _ _ hq
    rw [gN hr]
    have io2 := wa (r := r) io
    walk_at "rd"
    refine ⟨_, _, .inr (SqT.of hq'), aB (j := 0) rfl, ?_⟩
    walk_at "rd"
    have ix : ∀ {j : Nat} {u : V}, [V.int r.d, L2.T r.a, .int r.p, L2.T r.b, .int r.q][j]? = some u → ∀ {G : V → Prop}, G u → ∃ xs v, (SqL K H' q xs ∨ SqT K H' q xs) ∧ atI xs (j : Int) = some v ∧ G v := by
      intro j u hj G g
      exact ⟨_, _, .inr (SqT.of hq'), aB hj, g⟩
    by_cases h0 : r.d ≤ d
    · have hc : (∀ e, o = some e → e.1 ≤ r.d) → nxt r l l' d o = (match hit r l l' with | some w => some (r.d, w) | none => o) := fun z => if_pos ⟨h0, z⟩
      have hnc : ¬ (∀ e, o = some e → e.1 ≤ r.d) → nxt r l l' d o = o := fun z => if_neg fun q => z q.2
      refine itp h0 ?_
      refine' xB (A := (∀ e, o = some e → e.1 ≤ r.d)) (fun key => _) (fun hz => _)
      rotate_left 1
      · rcases zG bo with ⟨hv, ho⟩ | ⟨e, t, ho, hv, hte⟩
        · exact itp hv (key (fun _ z => by rw [ho] at z; cases z))
        · have gx : ∀ {F : V → Hp → Prop}, F (.int e.1) H' → gIx K v (.int 0) H' F := by
            intro F f; rw [hv]; exact ⟨_, _, .inr (SqT.of hte), aB (j := 0) rfl, f⟩
          refine itn (fun z => by rw [hv] at z; cases z) (ix (j := 0) rfl (gx ?_))
          walk_at "rd"
          by_cases h1 : e.1 ≤ r.d
          · exact itp h1 (key fun e' he => by rw [ho] at he; cases he; exact h1)
          · rw [hnc fun z => h1 (z e ho)] at io2
            exact itn h1 ⟨sm, o, _, _, io2, bo, rfl, rfl⟩
      · rw [hc hz] at io2
        refine ix (j := 1) rfl ?_
        walk_at "rd"
        refine' xB (A := ¬ (r.a = l ∧ r.b = l')) (fun key => _) (fun hn => _)
        rotate_left 1
        · by_cases e1 : r.a = l
          · refine itp e1 (ix (j := 3) rfl ?_)
            walk_at "rd"
            by_cases e2 : r.b = l'
            · have hh : hit r l l' = some (r.p, r.q) := if_pos ⟨e1, e2⟩
              rw [hh] at io2
              exact itp e2 (ix (j := 0) rfl (ix (j := 2) rfl (ix (j := 4) rfl ⟨by walk_at "om", fun p hp => ⟨sm.trans (aj _ hp), _, _, _, io2, ⟨p, rfl, ac⟩, rfl, rfl⟩⟩)))
            · exact itn e2 (key fun z => e2 z.2)
          · exact itn e1 (key fun z => e1 z.1)
        · refine ix (j := 1) rfl ?_
          walk_at "rd"
          have hno : ¬ (r.a = l' ∧ r.b = l) → hit r l l' = none := fun z => by unfold hit; rw [if_neg hn, if_neg z]
          by_cases e1 : r.a = l'
          · refine itp e1 (ix (j := 3) rfl ?_)
            walk_at "rd"
            by_cases e2 : r.b = l
            · have hh : hit r l l' = some (r.q, r.p) := by unfold hit; rw [if_neg hn, if_pos ⟨e1, e2⟩]
              rw [hh] at io2
              exact itp e2 (ix (j := 0) rfl (ix (j := 4) rfl (ix (j := 2) rfl ⟨by walk_at "om", fun p hp => ⟨sm.trans (aj _ hp), _, _, _, io2, ⟨p, rfl, ac⟩, rfl, rfl⟩⟩)))
            · rw [hno fun z => e2 z.2] at io2
              exact itn e2 ⟨sm, o, _, _, io2, bo, rfl, rfl⟩
          · rw [hno fun z => e1 z.1] at io2
            exact itn e1 ⟨sm, o, _, _, io2, bo, rfl, rfl⟩
    · have hc : nxt r l l' d o = o := if_neg fun z => h0 z.1
      rw [hc] at io2
      exact itn h0 ⟨sm, o, _, _, io2, bo, rfl, rfl⟩
  · rintro σ' H' ⟨sm, o, v, x5, io, bo, rfl⟩
    rw [aR.len, List.take_length] at io
    walk_at "rd"
    cases o with
    | none => cases bo; exact itp rfl (k none _ _ io rfl sm)
    | some e =>
      obtain ⟨t, rfl, hte⟩ := bo
      exact itn (fun z => nomatch z) ⟨t, _, rfl, SqT.of hte, (fun z => absurd (show HT.sIx 3 0 (some 1) = 0 from z.1) (by decide)), fun p hp => k (some e) _ _ io ⟨p, rfl, ac⟩ (sm.trans (aj _ hp))⟩
def Ab : List Nat := [100, 97, 121]
def zT : List Nat := [99, 117, 114, 114, 101, 110, 99, 121]
def Ar : List Nat := [114, 97, 116, 101]
def sp_rp (bd bc br : Addr) : Sp := sp1 fun x H Q _ => asR x fun e => ∃ C, H e = some (gv (.ref C) e) ∧ ((C = bd ∧ ∀ H', Same H H' → Q (L2.T Ab) H') ∨ (C = bc ∧ ∀ H', Same H H' → Q (L2.T zT) H') ∨ (C = br ∧ ∀ H', Same H H' → Q (L2.T Ar) H'))
theorem oz (T : Txt K mg a) : sg P w K mg base (XE P w) 1 a.eS a.iD ["_law_e"] (sp_rp a.ci a.aL a.bP) := by
  refine T.gn.okC i3 (fun vs H Q E h => sp1.len h) (fun cdv A outer s H vs Q E hr h => ?_)
  obtain ⟨x0, rfl, h⟩ := sp1.inv h
  try dsimp only [sp_rp, sp1] at h
  have ND := i3.nd
  have HU : (o7 (XE P w) P w K mg base ["_law_e", "_law_found"] "_law_word" (ad b9) a.eS cdv A outer s H E).A.units + 100 < cLine := tK hr
  obtain ⟨e, rfl, C, he, h2⟩ := asR.inv h
  have sz : 1000 ≤ sizeLine := by rw [sizeLine_eq]; decide
  refine ⟨_, (ah (aI (i := 1) ND rfl (Or.inl rfl) (bY (FA.pa (aa (aA (cW K) rfl T.aU aN (FA.pa (aa (fv 0) (aa (jX (v := .ref a.ci) rfl T.p_ rfl) ae)))) (aa (aA (cW K) rfl T.aU aN (FA.pa (aa (fv 0) (aa (jX (v := .ref a.aL) rfl T.ic rfl) ae)))) (aa (aA (cW K) rfl T.aU aN (FA.pa (aa (fv 0) (aa (jX (v := .ref a.bP) rfl T.lZ rfl) ae)))) (aa (aA (cW K) rfl T.aU aN (FA.pa (aa (fv 0) (aa (jX (v := .ref a.gk) rfl T.uT rfl) ae)))) ae)))))))
      (ah (cf (L2.PW.pt (fj (bB (iA K HU) (iz K PySem.F.plainAttrs_list PySem.F.slot_list_count PySem.F.type_list_count (wb K) (fv 1) (FA.pa (aa cT ae))) ag (bb _)) (eP (cC (ck (aA (cW K) rfl T.aU aN (FA.pa (aa (fv 0) (aa (dH (v := .ty "ValueError") rfl T.oI lU rfl) ae))))))))) (am (aC (be [111, 100, 100]))) aV)
      (am (aC (ar (ao K) (bY (FA.pa (aa (be [100, 97, 121]) (aa (be [99, 117, 114, 114, 101, 110, 99, 121]) (aa (be [114, 97, 116, 101]) (aa (be [110, 111, 110, 101]) ae)))))) (iz K PySem.F.plainAttrs_list PySem.F.slot_list_index PySem.F.type_list_index (wy K) (fv 1) (FA.pa (aa cT ae))) (fun _ _ => rfl)))))), ?_⟩
  walk_at "rd"
  rcases h2 with ⟨rfl, k⟩ | ⟨rfl, k⟩ | ⟨rfl, k⟩
  · refine ⟨_, true, he, T.gb, T.jL, _, false, he, T.gb, T.fX, _, false, he, T.gb, T.jj, _, false, he, T.gb, T.jK, by walk_at "om", fun p hp => ?_⟩
    have s1 := aj (HO.lst [V.bl true, V.bl false, V.bl false, V.bl false]) hp
    have hp1 : upd H p (HO.lst [V.bl true, V.bl false, V.bl false, V.bl false]) p = some (HO.lst [V.bl true, V.bl false, V.bl false, V.bl false]) := ac
    have he1 := s1 _ _ he
    generalize upd H p (HO.lst [V.bl true, V.bl false, V.bl false, V.bl false]) = H1 at s1 hp1 he1 ⊢
    have ke : cw H1 (.ref e) = none := by simp [cw, he1, gv]
    refine ⟨.inl ⟨_, SqL.of hp1⟩, p, [true, false, false, false], rfl, SqL.of hp1, itp (by decide) ?_⟩
    simp only [ke]
    refine ⟨e, _, true, rfl, he1, T.gb, T.gU, ?_⟩
    walk_at "rd"
    exact ⟨by walk_at "om", fun p2 hp2 => ⟨.inl ⟨_, SqL.of ((aj _ hp2) _ _ hp1)⟩, p, [true, false, false, false], 0, rfl, SqL.of ((aj _ hp2) _ _ hp1), rfl, by decide, _, _, .inl (SqL.of ac), aB (j := 0) rfl, k _ (s1.trans (aj _ hp2))⟩⟩
  · refine ⟨_, false, he, T.de, T.gw, _, true, he, T.de, T.eR, _, false, he, T.de, T.fV, _, false, he, T.de, T.gl, by walk_at "om", fun p hp => ?_⟩
    have s1 := aj (HO.lst [V.bl false, V.bl true, V.bl false, V.bl false]) hp
    have hp1 : upd H p (HO.lst [V.bl false, V.bl true, V.bl false, V.bl false]) p = some (HO.lst [V.bl false, V.bl true, V.bl false, V.bl false]) := ac
    have he1 := s1 _ _ he
    generalize upd H p (HO.lst [V.bl false, V.bl true, V.bl false, V.bl false]) = H1 at s1 hp1 he1 ⊢
    have ke : cw H1 (.ref e) = none := by simp [cw, he1, gv]
    refine ⟨.inl ⟨_, SqL.of hp1⟩, p, [false, true, false, false], rfl, SqL.of hp1, itp (by decide) ?_⟩
    simp only [ke]
    refine ⟨e, _, true, rfl, he1, T.de, T.fc, ?_⟩
    walk_at "rd"
    exact ⟨by walk_at "om", fun p2 hp2 => ⟨.inl ⟨_, SqL.of ((aj _ hp2) _ _ hp1)⟩, p, [false, true, false, false], 1, rfl, SqL.of ((aj _ hp2) _ _ hp1), rfl, by decide, _, _, .inl (SqL.of ac), aB (j := 1) rfl, k _ (s1.trans (aj _ hp2))⟩⟩
  · refine ⟨_, false, he, T.fG, T.jk, _, false, he, T.fG, T.fU, _, true, he, T.fG, T.iG, _, false, he, T.fG, T.i9, by walk_at "om", fun p hp => ?_⟩
    have s1 := aj (HO.lst [V.bl false, V.bl false, V.bl true, V.bl false]) hp
    have hp1 : upd H p (HO.lst [V.bl false, V.bl false, V.bl true, V.bl false]) p = some (HO.lst [V.bl false, V.bl false, V.bl true, V.bl false]) := ac
    have he1 := s1 _ _ he
    generalize upd H p (HO.lst [V.bl false, V.bl false, V.bl true, V.bl false]) = H1 at s1 hp1 he1 ⊢
    have ke : cw H1 (.ref e) = none := by simp [cw, he1, gv]
    refine ⟨.inl ⟨_, SqL.of hp1⟩, p, [false, false, true, false], rfl, SqL.of hp1, itp (by decide) ?_⟩
    simp only [ke]
    refine ⟨e, _, true, rfl, he1, T.fG, T.gB, ?_⟩
    walk_at "rd"
    exact ⟨by walk_at "om", fun p2 hp2 => ⟨.inl ⟨_, SqL.of ((aj _ hp2) _ _ hp1)⟩, p, [false, false, true, false], 2, rfl, SqL.of ((aj _ hp2) _ _ hp1), rfl, by decide, _, _, .inl (SqL.of ac), aB (j := 2) rfl, k _ (s1.trans (aj _ hp2))⟩⟩
def wDu : Nat → List Nat
  | 0 => []
  | 1 => Ab
  | 2 => zT
  | _ => Ar
def sp_uF : Sp := sp1 fun x H Q _ => asR x fun t => ∃ d o p u q, H t = some (.tup [d, o, p, u, q]) ∧ Tg H d ∧ Tg H o ∧ Tg H p ∧ Tg H u ∧ Tg H q ∧ ∀ H', Same H H' → Q (L2.T (wDu (du d o p u q))) H'
theorem cZ (T : Txt K mg a) : cz P w K mg base (XE P w) 2 a.fK a.jB ["_law_row"] sp_uF := by
  refine T.cJ.okX jG (fun vs H Q E h => sp1.len h) (fun cdv A outer s H vs Q E hr h => ?_)
  obtain ⟨x0, rfl, h⟩ := sp1.inv h
  try dsimp only [sp_uF, sp1] at h
  have ND := jG.nd
  have HU : (bZ (XE P w) P w K mg base ["_law_row", "_law_day", "_law_one", "_law_p", "_law_other", "_law_q"] "_law_due" (ad cE) a.fK cdv A outer s H E).A.units + 100 < cLine := bh hr
  obtain ⟨t, rfl, d, o, p, u, q, ht, Td, To, Tp, Tu, Tq, k⟩ := asR.inv h
  have sz : 1000 ≤ sizeLine := by rw [sizeLine_eq]; decide
  have G__law_is_whole := jn (P := P) (w := w) (base := base) T
  have b__law_is_whole := ja T.cV
  have G__law_is_currency := g8 (P := P) (w := w) (base := base) T
  have b__law_is_currency := gZ T.cR
  refine ⟨_, (ah (qS (fv 0) (iL K (n := 5) rfl (bL (aE (i := 1) ND rfl (Or.inl rfl)) (bL (aE (i := 2) ND rfl (Or.inl rfl)) (bL (aE (i := 3) ND rfl (Or.inl rfl)) (bL (aE (i := 4) ND rfl (Or.inl rfl)) (bL (aE (i := 5) ND rfl (Or.inl rfl)) iW)))))))
      (ah (cf (cC (ck (az G__law_is_whole (hr.mono (by decide)) rfl T.dR T.cV.kp b__law_is_whole .nil bw (FA.pa (aa (fv 1) (aa ag (aa ag ae))))))) (am (aC (be [100, 97, 121]))) aV)
      (ah (cf (L2.PW.pt (fj (cC (ck (az G__law_is_currency (hr.mono (by decide)) rfl T.eL T.cR.kp b__law_is_currency .nil bw (FA.pa (aa (fv 2) ae))))) (fj (cC (ck (az G__law_is_currency (hr.mono (by decide)) rfl T.eL T.cR.kp b__law_is_currency .nil bw (FA.pa (aa (fv 4) ae))))) (eP (bB (cX K HU) (fv 2) (fv 4) (bb _)))))) (am (aC (be [99, 117, 114, 114, 101, 110, 99, 121]))) aV)
      (am (aC (ay r9 (be [114, 97, 116, 101]) (ji rK rfl T.rj n9 (FA.pa (aa (xL (nO (az G__law_is_whole (hr.mono (by decide)) rfl T.dR T.cV.kp b__law_is_whole .nil bw (FA.pa (aa (fv 3) (aa ag (aa (ay im ag ag) ae)))))) (gC (nO (az G__law_is_whole (hr.mono (by decide)) rfl T.dR T.cV.kp b__law_is_whole .nil bw (FA.pa (aa (fv 5) (aa ag (aa (ay im ag ag) ae)))))))) ae))))))))), ?_⟩
  walk_at "rd"
  refine ⟨_, _, rfl, SqT.of ht, rfl, _, _, rfl, _, _, rfl, _, _, rfl, _, _, rfl, _, _, rfl, rfl, ?_⟩
  walk_at "rd"
  have e9 : (10 : Int) ^ Int.toNat 9 = 1000000000 := by decide +kernel
  simp only [e9]
  obtain ⟨_, t1, e1⟩ := Td
  obtain ⟨_, t3, e3⟩ := Tp
  obtain ⟨_, t5, e5⟩ := Tq
  obtain ⟨o2, t2, e2⟩ := To
  obtain ⟨o4, t4, e4⟩ := Tu
  refine asK.of e1 ?_
  cases hd : amg d 0 146096 with
  | false =>
    have u0 : du d o p u q = 1 := by unfold du; rw [if_neg (by rw [hd]; decide)]
    rw [u0] at k
    exact itp rfl (k _ (Same.refl _))
  | true =>
  have u1 : du d o p u q = (if iu o = true ∧ iu u = true ∧ sB o u = false then (if amg p 1 1000000000 = true ∧ amg q 1 1000000000 = true then 0 else 3) else 2) := by unfold du; rw [if_pos hd]
  refine itn (by decide) ⟨o2, asK.of e2 fun H1 s1 => ?_⟩
  cases h2 : iu o with
  | false =>
    rw [u1, if_neg (fun z => by rw [h2] at z; exact absurd z.1 (by decide))] at k
    exact itp rfl (k _ s1)
  | true =>
  refine itn (by decide) ⟨o4, asK.of (dC s1 e4) fun H2 s2 => ?_⟩
  cases h4 : iu u with
  | false =>
    rw [u1, if_neg (fun z => by rw [h4] at z; exact absurd z.2.1 (by decide))] at k
    exact itp rfl (k _ (s1.trans s2))
  | true =>
  refine itn (by decide) ?_
  have E2 := fE h2
  have E4 := fE h4
  generalize toT o = l2 at E2
  generalize toT u = l4 at E4
  subst E2 E4
  have s12 := s1.trans s2
  walk_at "rd"
  by_cases eq : l2 = l4
  · rw [u1, if_neg (fun z => absurd z.2.2 (by show ¬ decide (l2 = l4) = false; rw [decide_eq_true eq]; decide))] at k
    exact itp eq (k _ s12)
  have u2 : du d (L2.T l2) p (L2.T l4) q = (if amg p 1 1000000000 = true ∧ amg q 1 1000000000 = true then 0 else 3) := by rw [u1, if_pos ⟨h2, h4, decide_eq_false eq⟩]
  rw [u2] at k
  refine itn eq ⟨by decide, asK.of (dC s12 e3) ?_⟩
  cases h3 : amg p 1 1000000000 with
  | false =>
    rw [if_neg (fun z => by rw [h3] at z; exact absurd z.1 (by decide))] at k
    exact itp rfl ⟨by decide, k _ s12⟩
  | true =>
  refine itn (by decide) ⟨by decide, asK.of (dC s12 e5) ?_⟩
  cases h5 : amg q 1 1000000000 with
  | false =>
    rw [if_neg (fun z => by rw [h5] at z; exact absurd z.2 (by decide))] at k
    exact ⟨⟨by decide, by decide, by decide⟩, k _ s12⟩
  | true =>
    rw [if_pos ⟨h3, h5⟩] at k
    exact ⟨⟨by decide, by decide, by decide⟩, k _ s12⟩
theorem vN (x y : V) : List.lookup (Str.ofString "quote") [(Str.ofString "by_pair", x), (Str.ofString "beside", y)] = none := by rw [da (by decide +kernel), da (by decide +kernel)]; rfl
def sp_rE (C : Addr) : Sp := sp2 fun x y H Q _ => asR x fun r => asR y fun t => ∃ d o p u q, H t = some (.tup [d, o, p, u, q]) ∧ Tg H d ∧ Tg H o ∧ Tg H p ∧ Tg H u ∧ Tg H q ∧ ∃ R W, RS C H r R W ∧ R.length ≤ 100 ∧
  (du d o p u q ≠ 0 → ∀ H', Same H H' → Q (L2.T (wDu (du d o p u q))) H') ∧ (du d o p u q = 0 → ∀ W' H', RS C H' r (R ++ [rM d o p u q]) W' → (∀ p, W' p → W p ∨ H p = none) → Kp W H H' → Q (L2.T []) H')
theorem cP (T : Txt K mg a) : cz P w K mg base (XE P w) 5 a.gG a.iC ["_law_rates", "_law_row"] (sp_rE a.aq) := by
  refine T.cy.okX i5 (fun vs H Q E h => sp2.len h) (fun cdv A outer s H vs Q E hr h => ?_)
  obtain ⟨x0, x1, rfl, h⟩ := sp2.inv h
  try dsimp only [sp_rE, sp2] at h
  have ND := i5.nd
  obtain ⟨r, rfl, h1⟩ := asR.inv h
  obtain ⟨t, rfl, d, o, p, u, q, ht, Td, To, Tp, Tu, Tq, R, W, RR, lR, kn, k0⟩ := asR.inv h1
  have sz : 1000 ≤ sizeLine := by rw [sizeLine_eq]; decide
  have G_Rates_quote := lq (P := P) (w := w) (base := base) T
  have b_Rates_quote := j7 T.hJ
  have G__law_word := oz (P := P) (w := w) (base := base) T
  have b__law_word := ow T.gn
  refine ⟨_, (ah (aI (i := 2) ND rfl (Or.inl rfl) fh)
      (ah (yY (i := 3) ND rfl rfl rfl T.ng rfl rfl rfl (fun pn Ee Ex PX => (am (aI (i := 2) ND rfl (Or.inl rfl) (dO (fv 0) T.bT T.j8 G_Rates_quote (hr.mono (by decide)) b_Rates_quote .nil PX (FA.pa (aa (ar (ao K) (fv 1) ag (fun _ _ => rfl)) (aa (ar (ao K) (fv 1) ag (fun _ _ => rfl)) (aa (ar (ao K) (fv 1) ag (fun _ _ => rfl)) (aa (ar (ao K) (fv 1) ag (fun _ _ => rfl)) (aa (ar (ao K) (fv 1) ag (fun _ _ => rfl)) ae)))))))))) (fun e => (am (aC (vc G__law_word (Room.toC hr (by decide)) rfl T.pT T.gn.kp b__law_word .nil sq (FA.pa (aa (fv 3) ae)))))))
      (am (aC (ay r9 (be [116, 111, 108, 100]) (ji rK rfl T.rj n9 (FA.pa (aa (qC (wL (fv 2))) ae)))))))), ?_⟩
  obtain ⟨dx, b, s0, kvs, sks, hr0, _⟩ := RR.ex
  have ix : ∀ {j : Nat} {v : V}, [d, o, p, u, q][j]? = some v → ∀ {G : V → Prop}, G v → ∃ xs v, (SqL K H t xs ∨ SqT K H t xs) ∧ atI xs (j : Int) = some v ∧ G v := by
    intro j v hj G g
    exact ⟨_, _, .inr (SqT.of ht), aB hj, g⟩
  walk_at "rd"
  refine ⟨_, _, hr0, vN _ _, ix (j := 0) rfl (ix (j := 1) rfl (ix (j := 2) rfl (ix (j := 3) rfl (ix (j := 4) rfl ⟨R, W, RR, lR, Td, To, Tp, Tu, Tq, ?_, ?_, ?_, ?_⟩))))⟩
  · intro e1 H1 s1
    rw [e1] at kn
    exact ⟨_, rfl, T.gX, fun e he => ⟨_, ac, .inl ⟨rfl, fun H2 s2 => kn (by decide) _ (s1.trans ((aj _ he).trans s2))⟩⟩⟩
  · intro e1 H1 s1
    rw [e1] at kn
    exact ⟨_, rfl, T.ff, fun e he => ⟨_, ac, .inr (.inl ⟨rfl, fun H2 s2 => kn (by decide) _ (s1.trans ((aj _ he).trans s2))⟩)⟩⟩
  · intro e1 H1 s1
    rw [e1] at kn
    exact ⟨_, rfl, T.gz, fun e he => ⟨_, ac, .inr (.inr ⟨rfl, fun H2 s2 => kn (by decide) _ (s1.trans ((aj _ he).trans s2))⟩)⟩⟩
  · intro e1 W' H1 RA hf KK
    exact ⟨by decide, k0 e1 W' H1 RA hf KK⟩
theorem EqR.two {K : PySem.W.Frag} {H : Hp} {p q : Addr} {i j : Int} (hx : H p = some (.tup [.int i, .int j])) (hy : H q = some (.tup [.int i, .int j])) : EqR K H p q true := by
  have h := EqR.tup (K := K) (H := H) (e := fun _ => true) (SqT.of hx) (SqT.of hy) fun n x y gx gy => by
    rw [gx] at gy; cases gy
    have := EqH.flat (K := K) (H := H) (n := 50) (x := x) (y := x)
    match n, gx with
    | 0, gx => cases gx; have h := this rfl rfl; simpa [eqV] using h
    | 1, gx => cases gx; have h := this rfl rfl; simpa [eqV] using h
    | n + 2, gx => simp at gx
  exact h
def sp_se (C : Addr) : Sp := sp5 fun x y z u v H Q _ => asR x fun r => asR y fun th => asT z fun l => asT u fun l' => asI v fun d => ∃ R W vs, RS C H r R W ∧ dB R ∧ R.length ≤ 100 ∧ H th = some (.lst vs) ∧ A2 (QAt H) vs R ∧ ∀ H', Same H H' → Q (.bl true) H'
theorem eg (T : Txt K mg a) : cz P w K mg base (XE P w) 4 a.cQ a.d9 ["_law_rates", "_law_told_here", "_law_one", "_law_other", "_law_day"] (sp_se a.aq) := by
  refine T.bO.okX ed (fun vs H Q E h => sp5.len h) (fun cdv A outer s H vs Q E hr h => ?_)
  obtain ⟨x0, x1, x2, x3, x4, rfl, h⟩ := sp5.inv h
  try dsimp only [sp_se, sp5] at h
  have ND := ed.nd
  have HU : (bZ (XE P w) P w K mg base ["_law_rates", "_law_told_here", "_law_one", "_law_other", "_law_day", "_law_due_here", "_law_found"] "_law_newest_good" (ad aJ) a.cQ cdv A outer s H E).A.units + 100 < cLine := bh hr
  obtain ⟨r, rfl, h1⟩ := asR.inv h
  obtain ⟨th, rfl, h2⟩ := asR.inv h1
  obtain ⟨l, rfl, h3⟩ := asT.inv h2
  obtain ⟨l', rfl, h4⟩ := asT.inv h3
  obtain ⟨d, rfl, R, W, vs, RR, ap, lR, ht, aR, k⟩ := asI.inv h4
  have sz : 1000 ≤ sizeLine := by rw [sizeLine_eq]; decide
  have G_Rates_newest := jR (P := P) (w := w) (base := base) T
  have b_Rates_newest := dQ T.cF
  have G__law_newest := ka (P := P) (w := w) (base := base) T
  have b__law_newest := kK T.fe
  refine ⟨_, (ah (aI (i := 5) ND rfl (Or.inl rfl) (az G__law_newest (hr.mono (by decide)) rfl T.lN T.fe.kp b__law_newest .nil bw (FA.pa (aa (fv 1) (aa (fv 2) (aa (fv 3) (aa (fv 4) ae)))))))
      (ah (aI (i := 6) ND rfl (Or.inl rfl) (dO (fv 0) T.bT T.dP G_Rates_newest (hr.mono (by decide)) b_Rates_newest .nil bw (FA.pa (aa (fv 2) (aa (fv 3) (aa (fv 4) ae))))))
      (ah (cf (L2.PW.pt (fj (mQ (fY (fv 5))) (eP (mQ (fY (fv 6)))))) (am (aC (gr (qC (fY (fv 5))) (gC (qC (fY (fv 6))))))) aV)
      (ah (cf (L2.PW.pt (fj (cC (ck (aA (cW K) rfl T.aU aN (FA.pa (aa (fv 6) (aa (dH (v := .ty "tuple") rfl T.v_ ug rfl) ae)))))) (eP (bB (iA K HU) (fv 6) (fv 5) (bb _))))) (am (aC cT)) aV)
      (am (aC (iH (cX K HU) (ft rfl (cl := _) (x := "_law_number") (xs := ["_law_number"]) (fr := []) (ks := []) (by exact ⟨rfl, by decide +kernel, rfl, by decide +kernel, rfl, dN rfl, rfl, bz rfl, bz (k := fun y => List.lookup y _) rfl, dJ rfl⟩) rfl (sL K (fv 6)) (fun _ _ _ _ _ => (aE (i := 0) (hE (l := ["_law_number"]) (by decide)) rfl (Or.inl rfl))) (fun _ _ _ _ _ => (iT (ck (aA (cW K) rfl T.aU aN (FA.pa (aa (fv 0) (aa (dH (v := .ty "bool") rfl T.qV oG rfl) ae))))))) (fun _ _ _ _ _ => (fv 0))) (bY (FA.pa ae)) (bb _)))))))), ?_⟩
  walk_at "rd"
  obtain ⟨dx, b, s0, kvs, sks, hr0, _⟩ := RR.ex
  refine ⟨vs, R, ht, aR, lR, fun o v H1 io wo s1 => ⟨_, _, s1 _ _ hr0, mT _ _, R, W, RR.same s1, ap, lR, fun o' v' H2 io' wo' s2 => ?_⟩⟩
  obtain rfl := uE io io'
  have s12 := s1.trans s2
  rcases yg wo with ⟨rfl, rfl⟩ | ⟨e, t, rfl, rfl, hte⟩
  · cases wo'
    exact itp rfl (itp rfl (k _ s12))
  · obtain ⟨t', rfl, hte'⟩ := wo'
    have hk : cw H2 (.ref t') = some "tuple" := by simp [cw, hte']
    refine itn (fun z => nomatch z) (itn (fun z => nomatch z) ?_)
    simp only [hk]
    refine itn (by decide) ?_
    walk_at "rd"
    refine ⟨true, EqR.two hte' (s2 _ _ hte), itn (by decide) ?_⟩
    refine cmT t' [.int e.2.1, .int e.2.2] (fun H' => SqT K H' t' [.int e.2.1, .int e.2.2]) (fun D ys hD => SqT.of ((aj _ hD) _ _ hte')) (fun _ h => h) (fun _ => false) id (fun R r => r) (SqT.of hte') (by show 2 ≤ sizeLine; omega) (fun x mx H3 R3 _ r3 => ?_) (fun x mx z => nomatch z) (fun D hD => ?_)
    · walk_at "rd"
      have hx : ∃ i : Int, x = .int i := by
        rcases List.mem_cons.mp mx with rfl | mx
        · exact ⟨_, rfl⟩
        · rcases List.mem_cons.mp mx with rfl | mx
          · exact ⟨_, rfl⟩
          · cases mx
      obtain ⟨i, rfl⟩ := hx
      exact r3
    · refine ⟨Nat.zero_le _, fun p hp => ?_⟩
      walk_at "rd"
      refine ⟨true, EqR.nilR (xs := []) (SqL.of ((af (ak ac hp)).trans ac)) (SqL.of ac), k _ (s12.trans ((aj _ hD).trans (aj _ hp)))⟩
def sp_rD (C : Addr) : Sp := sp5 fun x y z u v H Q _ => asR x fun r => asR y fun th => asT z fun l => asT u fun l' => asI v fun d => ∃ R W vs, RS C H r R W ∧ dB R ∧ R.length ≤ 100 ∧ H th = some (.lst vs) ∧ A2 (QAt H) vs R ∧ ∀ H', Same H H' → Q (.bl true) H'
theorem bK (T : Txt K mg a) : cz P w K mg base (XE P w) 5 a.dD a.eY ["_law_rates", "_law_told_here", "_law_one", "_law_other", "_law_day"] (sp_rD a.aq) := by
  refine T.aQ.okX eX (fun vs H Q E h => sp5.len h) (fun cdv A outer s H vs Q E hr h => ?_)
  obtain ⟨x0, x1, x2, x3, x4, rfl, h⟩ := sp5.inv h
  try dsimp only [sp_rD, sp5] at h
  have ND := eX.nd
  obtain ⟨r, rfl, h1⟩ := asR.inv h
  obtain ⟨th, rfl, h2⟩ := asR.inv h1
  obtain ⟨l, rfl, h3⟩ := asT.inv h2
  obtain ⟨l', rfl, h4⟩ := asT.inv h3
  obtain ⟨d, rfl, R, W, vs, RR, ap, lR, ht, aR, k⟩ := asI.inv h4
  have sz : 1000 ≤ sizeLine := by rw [sizeLine_eq]; decide
  have G__law_newest_good := eg (P := P) (w := w) (base := base) T
  have b__law_newest_good := eu T.bO
  refine ⟨_, (ah (e_ (by passes_own) rfl (sL K (b8 (FA.pa (aa (fv 4) (aa (aA (yq rfl) rfl T.rF oj (FA.pa (aa ag (aa (ay uq (fv 4) ag) ae)))) (aa (aA (vd rfl) rfl T.ue qu (FA.pa (aa ag (aa (ay cq (fv 4) ag) ae)))) ae)))))) (aE (i := 5) ND rfl (Or.inl rfl)) (am (cf (L2.PW.pt (fj (cC (ck (az G__law_newest_good (hr.mono (by decide)) rfl T.dq T.bO.kp b__law_newest_good .nil bw (FA.pa (aa (fv 0) (aa (fv 1) (aa (fv 2) (aa (fv 3) (aa (fv 5) ae))))))))) (eP (cC (ck (az G__law_newest_good (hr.mono (by decide)) rfl T.dq T.bO.kp b__law_newest_good .nil bw (FA.pa (aa (fv 0) (aa (fv 1) (aa (fv 3) (aa (fv 2) (aa (fv 5) ae)))))))))))) (am (aC cT)) aV)))
      (am (aC cT))), ?_⟩
  walk_at "rd"
  refine vG ?_
  walk_at "rd"
  refine ⟨by walk_at "om", fun p hp => ?_⟩
  have s1 := aj (HO.tup [V.int d, V.int (if d - 1 > 0 then d - 1 else 0), V.int (if d + 7 < 146096 then d + 7 else 146096)]) hp
  refine t8 (SqT.of ac) (wc (fun i σ' H' => Same (upd H p (HO.tup [V.int d, V.int (if d - 1 > 0 then d - 1 else 0), V.int (if d + 7 < 146096 then d + 7 else 146096)])) H' ∧ ∃ x5, σ' = [some (.ref r), some (.ref th), some (L2.T l), some (L2.T l'), some (.int d), x5]) ⟨Same.refl _, none, rfl⟩ (fun i σ' H' _ h => SqT.of (h.1 _ _ ac)) ?_ ?_)
  · rintro i x σ' H' hx ⟨sm, x5, rfl⟩
    obtain ⟨dd, rfl⟩ : ∃ dd : Int, x = .int dd := by
      match i, hx with
      | 0, hx => exact ⟨_, (Option.some.inj hx).symm⟩
      | 1, hx => exact ⟨_, (Option.some.inj hx).symm⟩
      | 2, hx => exact ⟨_, (Option.some.inj hx).symm⟩
      | i + 3, hx => simp at hx
    have sH := s1.trans sm
    walk_at "rd"
    refine ⟨R, W, vs, RR.same sH, ap, lR, sH _ _ ht, kh sH aR, fun H2 s2 => ?_⟩
    walk_at "rd"
    have sH2 := sH.trans s2
    refine ⟨R, W, vs, RR.same sH2, ap, lR, sH2 _ _ ht, kh sH2 aR, fun H3 s3 => ?_⟩
    walk_at "rd"
    exact ⟨(sm.trans s2).trans s3, _, rfl⟩
  · rintro σ' H' ⟨sm, x5, rfl⟩
    walk_at "rd"
    exact k _ (s1.trans sm)
end
section
variable {P : Program} {w : World} {K : PySem.W.Frag} {mg : Str → Option Value} {base : Heap} {a : Adr}
instance {l : List Nat} : Decidable (ok l) := inferInstanceAs (Decidable (_ ∧ _))
theorem dA {H : Hp} {p : Addr} (o : HO) (hp : H p = none) : ∃ H', upd H p o = H' ∧ Same H H' ∧ H' p = some o := ⟨_, rfl, aj _ hp, ac⟩
theorem dy {H : Hp} {i : Int} : Tg H (.int i) := ⟨fun _ z => (nomatch z), "int", rfl⟩
theorem sP {H : Hp} {i : Bool} : Tg H (.bl i) := ⟨fun _ z => (nomatch z), "bool", rfl⟩
theorem qv {H : Hp} : Tg H .non := ⟨fun _ z => (nomatch z), "NoneType", rfl⟩
theorem kU {H : Hp} {l : List Nat} (h : ok l) : Tg H (L2.T l) := ⟨fun l' z => by cases z; exact h, "str", rfl⟩
theorem vz {H : Hp} {p : Addr} {xs : List V} (h : H p = some (.lst xs)) : Tg H (.ref p) := ⟨fun _ z => (nomatch z), "list", by simp [cw, h]⟩
theorem kf {xs : List V} {P : V → Prop} (h : ∀ x ∈ xs, P x) {i : Int} (h0 : 0 ≤ i) (h1 : i < xs.length) : ∃ v, atI xs i = some v ∧ P v := by
  obtain ⟨j, rfl⟩ : ∃ j : Nat, i = j := ⟨i.toNat, by omega⟩
  have hj : j < xs.length := by omega
  exact ⟨xs[j], aB (List.getElem?_eq_getElem hj), h _ (List.getElem_mem hj)⟩
def Gd (H : Hp) (v : V) : Prop := ∃ t' d o p u q, v = .ref t' ∧ H t' = some (.tup [d, o, p, u, q]) ∧ Tg H d ∧ Tg H o ∧ Tg H p ∧ Tg H u ∧ Tg H q
theorem Gd.same {H H' : Hp} {v : V} (h : Gd H v) (s : Same H H') : Gd H' v := by
  obtain ⟨t', d, o, p, u, q, e, ht, h1, h2, h3, h4, h5⟩ := h
  exact ⟨t', d, o, p, u, q, e, s _ _ ht, h1.same s, h2.same s, h3.same s, h4.same s, h5.same s⟩
def sp_mJ : Sp := sp3 fun x y z H Q _ => asR x fun t => asI y fun c => asI z fun c' => ∃ d o p u q, H t = some (.tup [d, o, p, u, q]) ∧ Tg H d ∧ Tg H o ∧ Tg H p ∧ Tg H u ∧ Tg H q ∧ ∀ t' d o p u q H', H' t' = some (.tup [d, o, p, u, q]) → Tg H' d → Tg H' o → Tg H' p → Tg H' u → Tg H' q → Same H H' → Q (.ref t') H'
set_option maxHeartbeats 4000000 in
theorem cb (T : Txt K mg a) : cz P w K mg base (XE P w) 1 a.cD a.gh ["_law_row", "_law_cell", "_law_more"] sp_mJ := by
  refine T.bR.okX gE (fun vs H Q E h => sp3.len h) (fun cdv A outer s H vs Q E hr h => ?_)
  obtain ⟨x0, x1, x2, rfl, h⟩ := sp3.inv h
  try dsimp only [sp_mJ, sp3] at h
  have ND := gE.nd
  obtain ⟨t, rfl, h1⟩ := asR.inv h
  obtain ⟨c, rfl, h2⟩ := asI.inv h1
  obtain ⟨c', rfl, d, o, p, u, q, ht, Td, To, Tp, Tu, Tq, k⟩ := asI.inv h2
  have sz : 1000 ≤ sizeLine := by rw [sizeLine_eq]; decide
  have t7 : ∃ z, PSs (bZ (XE P w) P w K mg base ["_law_row", "_law_cell", "_law_more", "_law_day", "_law_one", "_law_p", "_law_other", "_law_q", "_law_far", "_law_wrong", "_law_coin", "_law_count", "_law_some"] "_law_spoilt" (ad aD) a.cD cdv A outer s H E) (List.drop 7 (aw aD)) z ∧ ∀ v1 v2 v3 fr m xs H1, H1 m = some (.lst xs) → xs.length = 7 → (∀ v ∈ xs, Gd H1 v) → Same H H1 → z { nx := fun _ H' => Q .non H', rt := Q } [some (.ref t), some (.int c), some (.int c'), some d, some o, some p, some u, some q, some fr, some v1, some v2, some v3, some (.ref m)] H1 := by
    refine ⟨_, (am (aC (ar (ao K) (fv 12) (ay ce (fv 1) ag) (fun _ _ => rfl)))), fun v1 v2 v3 fr m xs H1 hm lm gm s1 => ?_⟩
    walk_at "rd"
    obtain ⟨v, av, hv⟩ := kf gm (i := c % 7) (by omega) (by omega)
    obtain ⟨t', d', o', p', u', q', rfl, ht', gd, go, gp, gu, gq⟩ := hv
    exact ⟨_, _, .inl (SqL.of hm), av, k t' d' o' p' u' q' H1 ht' gd go gp gu gq s1⟩
  obtain ⟨z7, hz7, k7⟩ := t7
  have t6 : ∃ z, PSs (bZ (XE P w) P w K mg base ["_law_row", "_law_cell", "_law_more", "_law_day", "_law_one", "_law_p", "_law_other", "_law_q", "_law_far", "_law_wrong", "_law_coin", "_law_count", "_law_some"] "_law_spoilt" (ad aD) a.cD cdv A outer s H E) (List.drop 6 (aw aD)) z ∧ ∀ v1 v2 v3 fr m xs H1, Tg H1 v1 → Tg H1 v2 → Tg H1 v3 → H1 m = some (.lst xs) → xs.length = 4 → (∀ v ∈ xs, Gd H1 v) → Same H H1 → z { nx := fun _ H' => Q .non H', rt := Q } [some (.ref t), some (.int c), some (.int c'), some d, some o, some p, some u, some q, some fr, some v1, some v2, some v3, some (.ref m)] H1 := by
    refine ⟨_, (ah (aI (i := 12) ND rfl (Or.inl rfl) (ay vk (fv 12) (bY (FA.pa (aa (b8 (FA.pa (aa (fv 3) (aa (fv 4) (aa (fv 5) (aa (fv 6) (aa (fv 11) ae))))))) (aa (b8 (FA.pa (aa (fv 9) (aa (fv 10) (aa (fv 5) (aa (fv 6) (aa (fv 7) ae))))))) (aa (b8 (FA.pa (aa (fv 3) (aa (fv 4) (aa (fv 11) (aa (fv 4) (aa (fv 7) ae))))))) ae)))))))
      hz7), fun v1 v2 v3 fr m xs H1 g1 g2 g3 hm lm gm s1 => ?_⟩
    walk_at "rd"
    refine ⟨by walk_at "om", fun q1 h1 => ?_⟩
    obtain ⟨G1, e1, c1, f1⟩ := dA (HO.tup [d, o, p, u, v3]) h1
    rw [e1]
    refine ⟨by walk_at "om", fun q2 h2 => ?_⟩
    obtain ⟨G2, e2, c2, f2⟩ := dA (HO.tup [v1, v2, p, u, q]) h2
    rw [e2]
    refine ⟨by walk_at "om", fun q3 h3 => ?_⟩
    obtain ⟨G3, e3, c3, f3⟩ := dA (HO.tup [d, o, v3, o, q]) h3
    rw [e3]
    refine ⟨by walk_at "om", fun q4 h4 => ?_⟩
    obtain ⟨G4, e4, c4, f4⟩ := dA (HO.lst [V.ref q1, V.ref q2, V.ref q3]) h4
    rw [e4]
    have b3 := c4
    have b2 := c3.trans b3
    have b1 := c2.trans b2
    have b0 := c1.trans b1
    refine ⟨xs, _, b0 _ _ hm, f4, by show xs.length + 3 ≤ sizeLine; omega, fun q5 h5 => ?_⟩
    obtain ⟨G5, e5, c5, f5⟩ := dA (HO.lst (xs ++ [V.ref q1, V.ref q2, V.ref q3])) h5
    rw [e5]
    have sF := b0.trans c5
    refine k7 v1 v2 v3 fr q5 _ G5 f5 (by rw [List.length_append, lm]; rfl) (fun v mv => ?_) (s1.trans sF)
    rcases List.mem_append.mp mv with mv | mv
    · exact (gm v mv).same sF
    · have g1 := g1.same sF
      have g2 := g2.same sF
      have g3 := g3.same sF
      have Td := Td.same (s1.trans sF)
      have To := To.same (s1.trans sF)
      have Tp := Tp.same (s1.trans sF)
      have Tu := Tu.same (s1.trans sF)
      have Tq := Tq.same (s1.trans sF)
      rcases List.mem_cons.mp mv with rfl | mv
      · exact ⟨_, _, _, _, _, _, rfl, (b1.trans c5) _ _ f1, Td, To, Tp, Tu, g3⟩
      rcases List.mem_cons.mp mv with rfl | mv
      · exact ⟨_, _, _, _, _, _, rfl, (b2.trans c5) _ _ f2, g1, g2, Tp, Tu, Tq⟩
      rw [List.mem_singleton.mp mv]
      exact ⟨_, _, _, _, _, _, rfl, (b3.trans c5) _ _ f3, Td, To, g3, To, Tq⟩
  obtain ⟨z6, hz6, k6⟩ := t6
  have t5 : ∃ z, PSs (bZ (XE P w) P w K mg base ["_law_row", "_law_cell", "_law_more", "_law_day", "_law_one", "_law_p", "_law_other", "_law_q", "_law_far", "_law_wrong", "_law_coin", "_law_count", "_law_some"] "_law_spoilt" (ad aD) a.cD cdv A outer s H E) (List.drop 5 (aw aD)) z ∧ ∀ v1 v2 v3 fr H1, Same H H1 → Tg H1 v1 → Tg H1 v2 → Tg H1 v3 → z { nx := fun _ H' => Q .non H', rt := Q } [some (.ref t), some (.int c), some (.int c'), some d, some o, some p, some u, some q, some fr, some v1, some v2, some v3, none] H1 := by
    refine ⟨_, (ah (aI (i := 12) ND rfl (Or.inl rfl) (bY (FA.pa (aa (b8 (FA.pa (aa (fv 9) (aa (fv 4) (aa (fv 5) (aa (fv 6) (aa (fv 7) ae))))))) (aa (b8 (FA.pa (aa (fv 3) (aa (fv 10) (aa (fv 5) (aa (fv 6) (aa (fv 7) ae))))))) (aa (b8 (FA.pa (aa (fv 3) (aa (fv 4) (aa (fv 5) (aa (fv 10) (aa (fv 7) ae))))))) (aa (b8 (FA.pa (aa (fv 3) (aa (fv 4) (aa (fv 11) (aa (fv 6) (aa (fv 7) ae))))))) ae)))))))
      hz6), fun v1 v2 v3 fr H1 s1 g1 g2 g3 => ?_⟩
    walk_at "rd"
    refine ⟨by walk_at "om", fun q1 h1 => ?_⟩
    obtain ⟨G1, e1, c1, f1⟩ := dA (HO.tup [v1, o, p, u, q]) h1
    rw [e1]
    refine ⟨by walk_at "om", fun q2 h2 => ?_⟩
    obtain ⟨G2, e2, c2, f2⟩ := dA (HO.tup [d, v2, p, u, q]) h2
    rw [e2]
    refine ⟨by walk_at "om", fun q3 h3 => ?_⟩
    obtain ⟨G3, e3, c3, f3⟩ := dA (HO.tup [d, o, p, v2, q]) h3
    rw [e3]
    refine ⟨by walk_at "om", fun q4 h4 => ?_⟩
    obtain ⟨G4, e4, c4, f4⟩ := dA (HO.tup [d, o, v3, u, q]) h4
    rw [e4]
    refine ⟨by walk_at "om", fun q5 h5 => ?_⟩
    obtain ⟨G5, e5, c5, f5⟩ := dA (HO.lst [V.ref q1, V.ref q2, V.ref q3, V.ref q4]) h5
    rw [e5]
    have b4 := c5
    have b3 := c4.trans b4
    have b2 := c3.trans b3
    have b1 := c2.trans b2
    have sF := c1.trans b1
    have g1 := g1.same sF
    have g2 := g2.same sF
    have g3 := g3.same sF
    have Td := Td.same (s1.trans sF)
    have To := To.same (s1.trans sF)
    have Tp := Tp.same (s1.trans sF)
    have Tu := Tu.same (s1.trans sF)
    have Tq := Tq.same (s1.trans sF)
    refine k6 v1 v2 v3 fr q5 _ G5 g1 g2 g3 f5 rfl (fun v mv => ?_) (s1.trans sF)
    rcases List.mem_cons.mp mv with rfl | mv
    · exact ⟨_, _, _, _, _, _, rfl, b1 _ _ f1, g1, To, Tp, Tu, Tq⟩
    rcases List.mem_cons.mp mv with rfl | mv
    · exact ⟨_, _, _, _, _, _, rfl, b2 _ _ f2, Td, g2, Tp, Tu, Tq⟩
    rcases List.mem_cons.mp mv with rfl | mv
    · exact ⟨_, _, _, _, _, _, rfl, b3 _ _ f3, Td, To, Tp, g2, Tq⟩
    rw [List.mem_singleton.mp mv]
    exact ⟨_, _, _, _, _, _, rfl, b4 _ _ f4, Td, To, g3, Tu, Tq⟩
  obtain ⟨z5, hz5, k5⟩ := t5
  have e60 : 0 < (10 : Int) ^ Int.toNat 60 := by decide +kernel
  have t3 : ∃ z, PSs (bZ (XE P w) P w K mg base ["_law_row", "_law_cell", "_law_more", "_law_day", "_law_one", "_law_p", "_law_other", "_law_q", "_law_far", "_law_wrong", "_law_coin", "_law_count", "_law_some"] "_law_spoilt" (ad aD) a.cD cdv A outer s H E) (List.drop 3 (aw aD)) z ∧ ∀ v1 fr H1, Same H H1 → Tg H1 v1 → z { nx := fun _ H' => Q .non H', rt := Q } [some (.ref t), some (.int c), some (.int c'), some d, some o, some p, some u, some q, some (.int fr), some v1, none, none, none] H1 := by
    refine ⟨_, (ah (aI (i := 10) ND rfl (Or.inl rfl) (ar (ao K) (bY (FA.pa (aa (be []) (aa (be [69, 85]) (aa (be [101, 117, 114]) (aa ag (aa fh (aa (bY (FA.pa (aa (be [69, 85, 82]) ae))) (aa (be [65, 49, 66]) (aa (be [69, 85, 82, 79]) ae)))))))))) (ay ce (fv 2) ag) (fun _ _ => rfl)))
      (ah (aI (i := 11) ND rfl (Or.inl rfl) (ar (ao K) (bY (FA.pa (aa ag (aa (vb qE ag) (aa (ay cq (ay im ag ag) ag) (aa cT (aa fh (aa (be [51]) (aa (ay cq (ay cq (ay im ag ag) ag) (fv 8)) (aa cT ae)))))))))) (ay ce (fv 2) ag) (fun _ _ => rfl)))
      hz5)), fun v1 fr H1 s1 g1 => ?_⟩
    walk_at "rd"
    refine ⟨by walk_at "om", fun q1 h1 => ⟨by walk_at "om", fun q2 h2 => ?_⟩⟩
    have s2 := aj (HO.lst [L2.T [69, 85, 82]]) h1
    have hq1 : upd H1 q1 (HO.lst [L2.T [69, 85, 82]]) q1 = some (HO.lst [L2.T [69, 85, 82]]) := ac
    have s3 := aj (HO.lst [L2.T [], L2.T [69, 85], L2.T [101, 117, 114], V.int 5, V.non, V.ref q1, L2.T [65, 49, 66], L2.T [69, 85, 82, 79]]) h2
    have hq2 : upd (upd H1 q1 (HO.lst [L2.T [69, 85, 82]])) q2 (HO.lst [L2.T [], L2.T [69, 85], L2.T [101, 117, 114], V.int 5, V.non, V.ref q1, L2.T [65, 49, 66], L2.T [69, 85, 82, 79]]) q2 = some (HO.lst [L2.T [], L2.T [69, 85], L2.T [101, 117, 114], V.int 5, V.non, V.ref q1, L2.T [65, 49, 66], L2.T [69, 85, 82, 79]]) := ac
    have hq1' := s3 _ _ hq1
    have s4 := s2.trans s3
    generalize upd (upd H1 q1 (HO.lst [L2.T [69, 85, 82]])) q2 (HO.lst [L2.T [], L2.T [69, 85], L2.T [101, 117, 114], V.int 5, V.non, V.ref q1, L2.T [65, 49, 66], L2.T [69, 85, 82, 79]]) = H2 at hq2 hq1' s4 ⊢
    clear s3
    obtain ⟨v2, a2, g2⟩ := kf (P := Tg H2) (xs := [L2.T [], L2.T [69, 85], L2.T [101, 117, 114], V.int 5, V.non, V.ref q1, L2.T [65, 49, 66], L2.T [69, 85, 82, 79]]) (by
      simp only [List.forall_mem_cons]
      exact ⟨kU (by decide), kU (by decide), kU (by decide), dy, qv, vz hq1', kU (by decide), kU (by decide), fun _ z => (nomatch z)⟩) (i := c' % 8) (by omega) (by show _ < (8 : Int); omega)
    refine ⟨_, v2, .inl (SqL.of hq2), a2, by decide, by decide, by walk_at "om", fun q3 h3 => ?_⟩
    have s5 := aj (HO.lst [V.int 0, V.int (-1), V.int (10 ^ Int.toNat 9 + 1), V.bl true, V.non, L2.T [51], V.int (10 ^ Int.toNat 9 + 1 + fr), V.bl false]) h3
    have hq3 : upd H2 q3 (HO.lst [V.int 0, V.int (-1), V.int (10 ^ Int.toNat 9 + 1), V.bl true, V.non, L2.T [51], V.int (10 ^ Int.toNat 9 + 1 + fr), V.bl false]) q3 = some (HO.lst [V.int 0, V.int (-1), V.int (10 ^ Int.toNat 9 + 1), V.bl true, V.non, L2.T [51], V.int (10 ^ Int.toNat 9 + 1 + fr), V.bl false]) := ac
    generalize upd H2 q3 (HO.lst [V.int 0, V.int (-1), V.int (10 ^ Int.toNat 9 + 1), V.bl true, V.non, L2.T [51], V.int (10 ^ Int.toNat 9 + 1 + fr), V.bl false]) = H3 at s5 hq3 ⊢
    obtain ⟨v3, a3, g3⟩ := kf (P := Tg H3) (xs := [V.int 0, V.int (-1), V.int (10 ^ Int.toNat 9 + 1), V.bl true, V.non, L2.T [51], V.int (10 ^ Int.toNat 9 + 1 + fr), V.bl false]) (by
      simp only [List.forall_mem_cons]
      exact ⟨dy, dy, dy, sP, qv, kU (by decide), dy, sP, fun _ z => (nomatch z)⟩) (i := c' % 8) (by omega) (by show _ < (8 : Int); omega)
    have s6 := s4.trans s5
    exact ⟨_, v3, .inl (SqL.of hq3), a3, k5 v1 v2 v3 _ H3 (s1.trans s6) (g1.same s6) (g2.same s5) g3⟩
  obtain ⟨z3, hz3, k3⟩ := t3
  refine ⟨_, (ah (qS (fv 0) (iL K (n := 5) rfl (bL (aE (i := 3) ND rfl (Or.inl rfl)) (bL (aE (i := 4) ND rfl (Or.inl rfl)) (bL (aE (i := 5) ND rfl (Or.inl rfl)) (bL (aE (i := 6) ND rfl (Or.inl rfl)) (bL (aE (i := 7) ND rfl (Or.inl rfl)) iW)))))))
      (ah (aI (i := 8) ND rfl (Or.inl rfl) (ay ce (aA yT rfl T.Af zI (FA.pa (aa (fv 2) ae))) (ay im ag ag)))
      (ah (aI (i := 9) ND rfl (Or.inl rfl) (ar (ao K) (bY (FA.pa (aa (vb qE ag) (aa ag (aa fh (aa cT (aa (be [53]) (aa (bY (FA.pa (aa ag ae))) (aa (ay cq ag (fv 8)) (aa cT ae)))))))))) (ay ce (fv 2) ag) (fun _ _ => rfl)))
      hz3))), ?_⟩
  walk_at "rd"
  refine ⟨_, _, rfl, SqT.of ht, rfl, _, _, rfl, _, _, rfl, _, _, rfl, _, _, rfl, _, _, rfl, rfl, ?_⟩
  walk_at "rd"
  refine ⟨by decide, e60, by walk_at "om", fun q1 h1 => ⟨by walk_at "om", fun q2 h2 => ?_⟩⟩
  generalize (if c' < 0 then -c' else c') % 10 ^ Int.toNat 60 = fr at h2 ⊢
  have s2 := aj (HO.lst [V.int 5]) h1
  have s3 := aj (HO.lst [V.int (-1), V.int 146097, V.non, V.bl true, L2.T [53], V.ref q1, V.int (146097 + fr), V.bl false]) h2
  have hq1 := s3 _ _ (ac (H := H) (a := q1) (o := HO.lst [V.int 5]))
  have s4 := s2.trans s3
  have hq2 : upd (upd H q1 (HO.lst [V.int 5])) q2 (HO.lst [V.int (-1), V.int 146097, V.non, V.bl true, L2.T [53], V.ref q1, V.int (146097 + fr), V.bl false]) q2 = some (HO.lst [V.int (-1), V.int 146097, V.non, V.bl true, L2.T [53], V.ref q1, V.int (146097 + fr), V.bl false]) := ac
  generalize upd (upd H q1 (HO.lst [V.int 5])) q2 (HO.lst [V.int (-1), V.int 146097, V.non, V.bl true, L2.T [53], V.ref q1, V.int (146097 + fr), V.bl false]) = H2 at hq1 hq2 s4 ⊢
  obtain ⟨v1, a1, g1⟩ := kf (P := Tg H2) (xs := [V.int (-1), V.int 146097, V.non, V.bl true, L2.T [53], V.ref q1, V.int (146097 + fr), V.bl false]) (by
    simp only [List.forall_mem_cons]
    exact ⟨dy, dy, qv, sP, kU (by decide), vz hq1, dy, sP, fun _ z => (nomatch z)⟩) (i := c' % 8) (by omega) (by show _ < (8 : Int); omega)
  exact ⟨_, v1, .inl (SqL.of hq2), a1, k3 v1 fr H2 s4 g1⟩
end
section
variable {P : Program} {w : World} {K : PySem.W.Frag} {mg : Str → Option Value} {base : Heap} {a : Adr}
def LO (H : Hp) (R : List Qr) (wh : Int) (xs : List V) : Prop := if wh = 0 then ∃ ps : List AK, xs = (ps.map fun e => .ref e.1) ∧ (∀ e ∈ ps, H e.1 = some (.tup (e.2.map kV))) ∧ tI (ps.map (·.2)) ∧ ∀ k, k ∈ ps.map (·.2) ↔ IsQ (val R) k
  else ∃ out : List (List Nat), xs = out.map L2.T ∧ InO out ∧ out.Nodup ∧ ∀ x, x ∈ out ↔ inQ R x
theorem LO.mv {H H' : Hp} {R : List Qr} {wh : Int} {xs : List V} (h : LO H R wh xs) (k : ∀ t l, H t = some (.tup l) → H' t = some (.tup l)) : LO H' R wh xs := by
  unfold LO at *
  split at h
  · rename_i c
    obtain ⟨ps, e, h1, h2⟩ := h
    rw [if_pos c]
    exact ⟨ps, e, fun e me => k _ _ (h1 e me), h2⟩
  · rename_i c
    rw [if_neg c]; exact h
theorem LO.same {H H' : Hp} {R : List Qr} {wh : Int} {xs : List V} (h : LO H R wh xs) (s : Same H H') : LO H' R wh xs := h.mv fun _ _ => s _ _
theorem xE (k : Key) : fP (kV k) = true := by cases k <;> rfl
theorem Ak {K : PySem.W.Frag} {H : Hp} {p q : Addr} {k : List Key} (hp : H p = some (.tup (k.map kV))) (hq : H q = some (.tup (k.map kV))) : EqH K H 50 (.ref p) (.ref q) true := by
  by_cases e : p = q
  · subst e; exact .same
  · have h := EqH.tup (K := K) (H := H) (n := 49) (e := fun _ => true) e (SqT.of hp) (SqT.of hq) fun j x y gx gy => by
      rw [gx] at gy; cases gy
      obtain ⟨z, _, rfl⟩ := List.mem_map.mp (List.mem_of_getElem? gx)
      have := EqH.flat (K := K) (H := H) (n := 49) (xE z) (xE z)
      rwa [show eqV (kV z) (kV z) = true by cases z <;> simp [kV, eqV]] at this
    rwa [show ((List.range (min (k.map kV).length (k.map kV).length)).all (fun _ => true) && (k.map kV).length == (k.map kV).length) = true by simp] at h
theorem LO.eq {K : PySem.W.Frag} {H : Hp} {R : List Qr} {wh : Int} {xs ys : List V} {p q : Addr} (h : LO H R wh xs) (h' : LO H R wh ys) (hp : H p = some (.lst xs)) (hq : H q = some (.lst ys)) : EqR K H p q true := by
  unfold LO at h h'
  split at h
  · rename_i c
    rw [if_pos c] at h'
    obtain ⟨ps, rfl, h1, h2, h3⟩ := h
    obtain ⟨ps', rfl, h1', h2', h3'⟩ := h'
    have e := pO h2 h2' fun x => (h3 x).trans (h3' x).symm
    have hl : ps.length = ps'.length := by have := congrArg List.length e; rwa [List.length_map, List.length_map] at this
    have hh := EqR.lst (K := K) (H := H) (e := fun _ => true) (SqL.of hp) (SqL.of hq) (by rw [List.length_map, List.length_map, hl]) fun j x y gx gy => by
      rw [List.getElem?_map] at gx gy
      obtain ⟨e1, g1, rfl⟩ := Option.map_eq_some_iff.mp gx
      obtain ⟨e2, g2, rfl⟩ := Option.map_eq_some_iff.mp gy
      have q1 : (ps.map (·.2))[j]? = some e1.2 := by rw [List.getElem?_map, g1]; rfl
      have q2 : (ps'.map (·.2))[j]? = some e2.2 := by rw [List.getElem?_map, g2]; rfl
      rw [e, q2] at q1
      have q3 := Option.some.inj q1
      have t1 := h1 e1 (List.mem_of_getElem? g1)
      have t2 := h1' e2 (List.mem_of_getElem? g2)
      rw [q3] at t2
      exact Ak t1 t2
    rwa [show (List.range (ps.map fun e => V.ref e.1).length).all (fun _ => true) = true by simp] at hh
  · rename_i c
    rw [if_neg c] at h'
    obtain ⟨out, rfl, h1, h2, h3⟩ := h
    obtain ⟨out', rfl, h1', h2', h3'⟩ := h'
    have e := xp h2 h2' (fun x => (h3 x).trans (h3' x).symm) h1 h1'
    subst e
    exact EqR.flatL (SqL.of hp) (SqL.of hq) (by rw [List.all_map, List.all_eq_true]; intro x _; rfl)
theorem LO.flat {H : Hp} {R : List Qr} {wh : Int} {xs : List V} (h : LO H R wh xs) : ∀ x ∈ xs, (∃ p, x = .ref p) ∨ ∃ l, x = L2.T l := by
  unfold LO at h
  split at h
  · obtain ⟨ps, rfl, _⟩ := h
    intro x mx
    obtain ⟨e, _, rfl⟩ := List.mem_map.mp mx
    exact .inl ⟨_, rfl⟩
  · obtain ⟨out, rfl, _⟩ := h
    intro x mx
    obtain ⟨e, _, rfl⟩ := List.mem_map.mp mx
    exact .inr ⟨_, rfl⟩
theorem LO.len {H : Hp} {R : List Qr} {wh : Int} {xs : List V} (h : LO H R wh xs) : xs.length ≤ 2 * R.length := by
  unfold LO at h
  split at h
  · obtain ⟨ps, rfl, _, h2, h3⟩ := h
    have := og (R := R) (h2.imp fun {a b} z e => by rw [e, mO] at z; cases z) fun k m => (h3 k).mp m
    rw [List.length_map] at this ⊢; omega
  · obtain ⟨out, rfl, _, nd, h3⟩ := h
    have := qT (l' := R.map (·.a) ++ R.map (·.b)) nd fun x mx => by
      obtain ⟨r, mr, e⟩ := (h3 x).mp mx
      rcases e with e | e
      · exact List.mem_append_left _ (List.mem_map.mpr ⟨r, mr, e⟩)
      · exact List.mem_append_right _ (List.mem_map.mpr ⟨r, mr, e⟩)
    rw [List.length_append, List.length_map, List.length_map] at this
    rw [List.length_map]; omega
theorem sV (x y : V) : List.lookup (Str.ofString "quotes") [(Str.ofString "by_pair", x), (Str.ofString "beside", y)] = none := by rw [da (by decide +kernel), da (by decide +kernel)]; rfl
theorem ym (x y : V) : List.lookup (Str.ofString "currencies") [(Str.ofString "by_pair", x), (Str.ofString "beside", y)] = none := by rw [da (by decide +kernel), da (by decide +kernel)]; rfl
def sp_rq (C : Addr) : Sp := sp2 fun x y H Q _ => asR x fun r => asI y fun wh => ∃ R W, RS C H r R W ∧ R.length ≤ 20 ∧ ∀ l xs H', H l = none → H' l = some (.lst xs) → LO H' R wh xs → Same H H' → Q (.ref l) H'
theorem oE (T : Txt K mg a) : cz P w K mg base (XE P w) 2 a.eW a.iY ["_law_rates", "_law_which"] (sp_rq a.aq) := by
  refine T.eU.okX nS (fun vs H Q E h => sp2.len h) (fun cdv A outer s H vs Q E hr h => ?_)
  obtain ⟨x0, x1, rfl, h⟩ := sp2.inv h
  try dsimp only [sp_rq, sp2] at h
  have HU : (bZ (XE P w) P w K mg base ["_law_rates", "_law_which"] "_law_list" (ad b_) a.eW cdv A outer s H E).A.units + 100 < cLine := bh hr
  obtain ⟨r, rfl, h1⟩ := asR.inv h
  obtain ⟨wh, rfl, R, W, RR, lR, k⟩ := asI.inv h1
  have G_Rates_currencies := g0 (P := P) (w := w) (base := base) T
  have b_Rates_currencies := g7 T.eN
  have G_Rates_quotes := jP (P := P) (w := w) (base := base) T
  have b_Rates_quotes := jT T.gH
  refine ⟨_, (ah (cf (bB (cX K HU) (fv 1) ag (bb _)) (am (aC (m7 (fv 0) T.bT T.jQ G_Rates_quotes (hr.mono (by decide)) b_Rates_quotes .nil bw))) aV)
      (am (aC (m7 (fv 0) T.bT T.gW G_Rates_currencies (hr.mono (by decide)) b_Rates_currencies .nil bw)))), ?_⟩
  obtain ⟨dx, b, s0, kvs, sks, hr0, _⟩ := RR.ex
  walk_at "rd"
  by_cases hw : wh = 0
  · exact itp hw ⟨_, _, hr0, sV _ _, R, W, RR, lR, fun ps l H1 oo iq hl h1 at_ s1 => k l _ H1 hl h1 (by unfold LO; rw [if_pos hw]; exact ⟨ps, rfl, at_, oo, iq⟩) s1⟩
  · exact itn hw ⟨_, _, hr0, ym _ _, R, W, RR, lR, fun out l H1 oo nd iq hl h1 s1 => k l _ H1 hl h1 (by unfold LO; rw [if_neg hw]; exact ⟨out, rfl, oo, nd, iq⟩) s1⟩
abbrev k3 (D : Int) (x y : List Nat) : List Key := [.inl D, .inr ⟨⟨x⟩⟩, .inr ⟨⟨y⟩⟩]
structure LT (H : Hp) (kvs : List (List Key × V)) (R : List Qr) : Prop where
  nd : (kvs.map (·.1)).Nodup
  len : kvs.length ≤ R.length
  to : ∀ k v, (k, v) ∈ kvs → ∃ D x y w t, k = k3 D x y ∧ x < y ∧ v = .ref t ∧ H t = some (.tup [.int w.1, .int w.2]) ∧ val R x y D = some w
  fr : ∀ D x y w, x < y → val R x y D = some w → ∃ v, (k3 D x y, v) ∈ kvs
theorem LT.mv {H H' : Hp} {kvs : List (List Key × V)} {R : List Qr} (h : LT H kvs R) (k : ∀ t l, H t = some (.tup l) → H' t = some (.tup l)) : LT H' kvs R :=
  ⟨h.nd, h.len, fun k1 v m => let ⟨D, x, y, w', t, e1, e2, e3, e4, e5⟩ := h.to k1 v m; ⟨D, x, y, w', t, e1, e2, e3, k _ _ e4, e5⟩, h.fr⟩
theorem yZ {D D' : Int} {x y x' y' : List Nat} (h : k3 D x y = k3 D' x' y') : D = D' ∧ x = x' ∧ y = y' := by
  injection h with h1 h
  injection h with h2 h
  injection h with h3 h
  injection h1 with h1
  injection h2 with h2; injection h2 with h2; injection h2 with h2
  injection h3 with h3; injection h3 with h3; injection h3 with h3
  exact ⟨h1, h2, h3⟩
theorem LT.put {H : Hp} {kvs : List (List Key × V)} {R : List Qr} {r : Qr} {x y : List Nat} {wt : Wt} {tw : Addr} (h : LT H kvs R) (hh : (r.a = x ∧ r.b = y ∧ r.p = wt.1 ∧ r.q = wt.2) ∨ (r.a = y ∧ r.b = x ∧ r.p = wt.2 ∧ r.q = wt.1)) (xy : x < y) (ht : H tw = some (.tup [.int wt.1, .int wt.2])) : LT H (cH kvs (k3 r.d x y) (.ref tw)) (R ++ [r]) := by
  have hv : ∀ x' y' D, x' < y' → val (R ++ [r]) x' y' D = if x' = x ∧ y' = y ∧ D = r.d then some wt else val R x' y' D := fun x' y' D l => by
    rw [eM, m4 (a := x) (b := y) (p := wt.1) (q := wt.2) hh xy x' y' l D]
  refine ⟨pe h.nd, Nat.le_trans (ip _ _ _) (by have := h.len; rw [List.length_append, List.length_singleton]; omega), fun k v m => ?_, fun D x' y' w' l e => ?_⟩
  · rcases cG.mp m with e | ⟨m, n⟩
    · obtain ⟨rfl, rfl⟩ := Prod.mk.inj e
      exact ⟨r.d, x, y, wt, tw, rfl, xy, rfl, ht, by rw [hv x y r.d xy, if_pos ⟨rfl, rfl, rfl⟩]⟩
    · obtain ⟨D, x', y', w', t, e1, e2, e3, e4, e5⟩ := h.to k v m
      refine ⟨D, x', y', w', t, e1, e2, e3, e4, ?_⟩
      rw [hv x' y' D e2, if_neg fun z => n (by rw [show (k, v).1 = k from rfl, e1, z.1, z.2.1, z.2.2])]
      exact e5
  · rw [hv x' y' D l] at e
    split at e
    · rename_i c
      obtain ⟨rfl, rfl, rfl⟩ := c
      exact ⟨_, cG.mpr (.inl rfl)⟩
    · rename_i c
      obtain ⟨v, mv⟩ := h.fr D x' y' w' l e
      exact ⟨v, cG.mpr (.inr ⟨mv, fun z => c (let ⟨a, b, d⟩ := yZ (show k3 D x' y' = k3 r.d x y from z); ⟨b, d, a⟩)⟩)⟩
structure LN (sks : List (Key × V)) (c : List Nat → Prop) (n : Nat) : Prop where
  nd : (sks.map (·.1)).Nodup
  len : sks.length ≤ n
  to : ∀ k v, (k, v) ∈ sks → ∃ x, k = .inr ⟨⟨x⟩⟩ ∧ c x
  fr : ∀ x, c x → ∃ v, ((.inr ⟨⟨x⟩⟩ : Key), v) ∈ sks
theorem nW {x y : List Nat} (q : (Sum.inr ⟨⟨x⟩⟩ : Key) = Sum.inr ⟨⟨y⟩⟩) : x = y := by
  have q := Sum.inr.inj q
  injection q with q; injection q
theorem LN.put {sks : List (Key × V)} {c : List Nat → Prop} {n : Nat} {x : List Nat} {v : V} (h : LN sks c n) : LN (cH sks (.inr ⟨⟨x⟩⟩) v) (fun z => c z ∨ z = x) (n + 1) := by
  refine ⟨pe h.nd, Nat.le_trans (ip _ _ _) (Nat.succ_le_succ h.len), fun k u m => ?_, fun z hz => ?_⟩
  · rcases cG.mp m with e | ⟨m, _⟩
    · exact ⟨x, (Prod.mk.inj e).1, .inr rfl⟩
    · obtain ⟨y, e1, e2⟩ := h.to k u m
      exact ⟨y, e1, .inl e2⟩
  · by_cases hx : z = x
    · subst hx; exact ⟨_, cG.mpr (.inl rfl)⟩
    · obtain ⟨u, mu⟩ := h.fr z (hz.resolve_right hx)
      exact ⟨u, cG.mpr (.inr ⟨mu, fun q => hx (nW q)⟩)⟩
theorem LN.cg {sks : List (Key × V)} {c c' : List Nat → Prop} {n n' : Nat} (h : LN sks c n) (l : n ≤ n') (k : ∀ x, c x ↔ c' x) : LN sks c' n' :=
  ⟨h.nd, Nat.le_trans h.len l, fun k1 v m => let ⟨x, e, z⟩ := h.to k1 v m; ⟨x, e, (k x).mp z⟩, fun x z => h.fr x ((k x).mpr z)⟩
theorem LN.keys {sks : List (Key × V)} {c : List Nat → Prop} {n : Nat} (h : LN sks c n) : ∃ ls : List (List Nat), sks.map (fun e => kV e.1) = ls.map L2.T ∧ ls.Nodup ∧ (∀ x, x ∈ ls ↔ c x) ∧ ls.length = sks.length := by
  have h1 : ∃ ls : List (List Nat), sks.map (·.1) = ls.map fun x => (Sum.inr ⟨⟨x⟩⟩ : Key) := by
    have ht : ∀ k v, (k, v) ∈ sks → ∃ x, k = (Sum.inr ⟨⟨x⟩⟩ : Key) := fun k v mm => let ⟨D, e, _⟩ := h.to k v mm; ⟨D, e⟩
    clear h
    induction sks with
    | nil => exact ⟨[], rfl⟩
    | cons p r ih =>
      obtain ⟨ds, e⟩ := ih fun k v mm => ht k v (.tail _ mm)
      obtain ⟨D, eD⟩ := ht p.1 p.2 (.head _)
      exact ⟨D :: ds, by rw [List.map_cons, List.map_cons, e, eD]⟩
  obtain ⟨ls, e⟩ := h1
  refine ⟨ls, ?_, ?_, fun x => ⟨fun m => ?_, fun z => ?_⟩, ?_⟩
  · have := congrArg (List.map kV) e
    rw [List.map_map, List.map_map] at this
    exact this
  · have nd := h.nd
    rw [e] at nd
    exact (List.pairwise_map.mp nd).imp fun z q => z (by rw [q])
  · have : (Sum.inr ⟨⟨x⟩⟩ : Key) ∈ sks.map (·.1) := by rw [e]; exact List.mem_map.mpr ⟨x, m, rfl⟩
    obtain ⟨⟨k, v⟩, mk, e1⟩ := List.mem_map.mp this
    obtain ⟨x', e2, cx⟩ := h.to _ _ mk
    rw [nW (e1.symm.trans e2)]; exact cx
  · obtain ⟨v, mv⟩ := h.fr x z
    have : (Sum.inr ⟨⟨x⟩⟩ : Key) ∈ sks.map (·.1) := List.mem_map.mpr ⟨_, mv, rfl⟩
    rw [e] at this
    obtain ⟨y, my, ey⟩ := List.mem_map.mp this
    exact nW ey ▸ my
  · have := congrArg List.length e
    rw [List.length_map, List.length_map] at this; exact this.symm
theorem rT {a b : List Nat} (h : a < b) : mnT ⟨⟨a⟩⟩ ⟨⟨b⟩⟩ = ⟨⟨a⟩⟩ ∧ mxT ⟨⟨a⟩⟩ ⟨⟨b⟩⟩ = ⟨⟨b⟩⟩ ∧ mnT ⟨⟨b⟩⟩ ⟨⟨a⟩⟩ = ⟨⟨a⟩⟩ ∧ mxT ⟨⟨b⟩⟩ ⟨⟨a⟩⟩ = ⟨⟨b⟩⟩ := by
  have n : ¬ b < a := fun z => List.lt_irrefl _ (List.lt_trans h z)
  exact ⟨if_neg n, if_pos h, if_pos h, if_neg n⟩
def qOf (R : List Qr) : List Key → List Key
  | [.inl D, .inr x, .inr y] => qK D x.cps.toList y.cps.toList ((val R x.cps.toList y.cps.toList D).getD (0, 0))
  | k => k
def sp_pc : Sp := sp1 fun x H Q _ => asR x fun th => ∃ vs R, H th = some (.lst vs) ∧ A2 (QAt H) vs R ∧ R.length ≤ 20 ∧ dB R ∧ ∀ r l1 l2 xs ys H', H r = none → H l1 = none → H l2 = none → H' r = some (.lst [.ref l1, .ref l2]) → H' l1 = some (.lst xs) → H' l2 = some (.lst ys) → LO H' R 0 xs → LO H' R 1 ys → Same H H' → Q (.ref r) H'
theorem lB (T : Txt K mg a) : cz P w K mg base (XE P w) 1 a.eE a.h8 ["_law_told_here"] sp_pc := by
  refine T.fN.okX h7 (fun vs H Q E h => sp1.len h) (fun cdv A outer s H vs Q E hr h => ?_)
  obtain ⟨x0, rfl, h⟩ := sp1.inv h
  try dsimp only [sp_pc, sp1] at h
  have ND := h7.nd
  have HU : (bZ (XE P w) P w K mg base ["_law_told_here", "_law_last", "_law_names", "_law_day", "_law_one", "_law_p", "_law_other", "_law_q"] "_law_lists" (ad bS) a.eE cdv A outer s H E).A.units + 100 < cLine := bh hr
  obtain ⟨th, rfl, vs, R, ht, aR, lR, ap, k⟩ := asR.inv h
  have sz : 1000 ≤ sizeLine := by rw [sizeLine_eq]; decide
  refine ⟨_, (ah (aI (i := 1) ND rfl (Or.inr rfl) o_)
      (ah (aI (i := 2) ND rfl (Or.inl rfl) gO)
      (ah (e_ (by passes_own) rfl (fw K (fv 0)) (iL K (n := 5) rfl (bL (aE (i := 3) ND rfl (Or.inl rfl)) (bL (aE (i := 4) ND rfl (Or.inl rfl)) (bL (aE (i := 5) ND rfl (Or.inl rfl)) (bL (aE (i := 6) ND rfl (Or.inl rfl)) (bL (aE (i := 7) ND rfl (Or.inl rfl)) iW)))))) (ah (iB (Nat.lt_of_le_of_lt (Nat.add_le_add_left (by decide) _) HU) (fv 2) (fv 4) cT rfl)
      (ah (iB (Nat.lt_of_le_of_lt (Nat.add_le_add_left (by decide) _) HU) (fv 2) (fv 6) cT rfl)
      (am (iB (Nat.lt_of_le_of_lt (Nat.add_le_add_left (by decide) _) HU) (fv 1) (b8 (FA.pa (aa (fv 3) (aa (aA (v8 rfl) rfl T.ue qu (FA.pa (aa (fv 4) (aa (fv 6) ae)))) (aa (aA (xt rfl) rfl T.rF oj (FA.pa (aa (fv 4) (aa (fv 6) ae)))) ae))))) (iV (bB pk (fv 4) (fv 6) (bb _)) (b8 (FA.pa (aa (fv 5) (aa (fv 7) ae)))) (b8 (FA.pa (aa (fv 7) (aa (fv 5) ae))))) rfl)))))
      (am (aC (bY (FA.pa (aa (aA (pd K) rfl T.iI gQ (FA.pa (aa (v5 (ft rfl (cl := _) (x := "_law_key") (xs := ["_law_key"]) (fr := ["_law_last"]) (ks := [1]) (by exact ⟨rfl, by decide +kernel, rfl, by decide +kernel, rfl, dN rfl, rfl, bz rfl, bz (k := fun y => List.lookup y _) rfl, dJ rfl⟩) rfl (nK (fv 1)) (fun _ _ _ _ _ => (aE (i := 0) (hE (l := ["_law_key", "_law_last"]) (by decide)) rfl (Or.inl rfl))) (fun _ _ _ _ _ => iM) (fun _ _ _ _ _ => (b8 (FA.pa (aa (ar (ao K) (fv 0) ag (fun _ _ => rfl)) (aa (ar (ao K) (fv 0) ag (fun _ _ => rfl)) (aa (ar (ao K) (j3 (Nat.lt_of_le_of_lt (Nat.add_le_add_left (by decide) _) HU) (fv 1) (fv 0) (fun _ _ => rfl)) ag (fun _ _ => rfl)) (aa (ar (ao K) (fv 0) ag (fun _ _ => rfl)) (aa (ar (ao K) (j3 (Nat.lt_of_le_of_lt (Nat.add_le_add_left (by decide) _) HU) (fv 1) (fv 0) (fun _ _ => rfl)) ag (fun _ _ => rfl)) ae)))))))))) ae))) (aa (aA (oR rfl) rfl T.iI gQ (FA.pa (aa (fv 2) ae))) ae))))))))), ?_⟩
  walk_at "rd"
  intro dl hdl dn hdn
  refine i4 ?_
  have s1 := (aj (HO.dT []) hdl).trans (aj (HO.dK []) hdn)
  have nld := ak (ac (H := H) (a := dl) (o := .dT [])) hdn
  have hdn0 := (aj (HO.dT []) hdl).free hdn
  walk_at "rd"
  refine iE (SqL.of (s1 _ _ ht)) (iJ (fun i σ' H' => Same H H' ∧ ∃ kvs sks, H' dl = some (.dT kvs) ∧ LT H' kvs (R.take i) ∧ H' dn = some (.dK sks) ∧ LN sks (inQ (R.take i)) (2 * i) ∧ ∃ x3 x4 x5 x6 x7, σ' = [some (.ref th), some (.ref dl), some (.ref dn), x3, x4, x5, x6, x7]) ?_ (fun i σ' H' _ h => SqL.of (h.1 _ _ ht)) ?_ ?_)
  · exact ⟨s1, [], [], (af nld).trans ac, ⟨List.nodup_nil, Nat.zero_le _, (fun _ _ z => nomatch z), fun _ _ _ _ _ z => (nomatch z)⟩, ac, ⟨List.nodup_nil, Nat.zero_le _, (fun _ _ z => nomatch z), fun _ ⟨_, m, _⟩ => (nomatch m)⟩, _, _, _, _, _, rfl⟩
  · rintro i x σ' H' hx ⟨sm, kvs, sks, hl, TT, hn, NN, x3, x4, x5, x6, x7, rfl⟩
    obtain ⟨r, hr, q, rfl, hq⟩ := aR.at_ hx
    have hq' := sm _ _ hq
    rw [gN hr]
    walk_at "rd"
    refine ⟨_, _, rfl, SqT.of hq', rfl, _, _, rfl, _, _, rfl, _, _, rfl, _, _, rfl, _, _, rfl, rfl, ?_⟩
    walk_at "rd"
    have li : i < R.length := (List.getElem?_eq_some_iff.mp hr).1
    have lk := NN.len
    have lt1 := TT.len
    rw [List.length_take] at lt1
    have N2 : LN (cH (cH sks (.inr ⟨⟨r.a⟩⟩) (.bl true)) (.inr ⟨⟨r.b⟩⟩) (.bl true)) (inQ (R.take i ++ [r])) (2 * (i + 1)) := (NN.put.put).cg (by omega) fun x => by
      rw [pG]
      exact ⟨fun h => h.elim (fun h => h.imp id fun h => .inl h.symm) fun h => .inr (.inr h.symm), fun h => h.elim (fun h => .inl (.inl h)) fun h => h.elim (fun h => .inl (.inr h.symm)) fun h => .inr h.symm⟩
    have nd1 : dl ≠ dn := nld
    refine ⟨dn, _, rfl, DPut.k (k := .inr ⟨⟨r.a⟩⟩) hn (by omega), dn, _, rfl, DPut.k (k := .inr ⟨⟨r.b⟩⟩) ac (by have := ip sks (.inr ⟨⟨r.a⟩⟩) (.bl true); omega), ?_⟩
    rw [sM]
    obtain ⟨H2, e2, f2, s2⟩ : ∃ H2, upd H' dn (.dK (cH (cH sks (.inr ⟨⟨r.a⟩⟩) (.bl true)) (.inr ⟨⟨r.b⟩⟩) (.bl true))) = H2 ∧ H2 dn = some (.dK (cH (cH sks (.inr ⟨⟨r.a⟩⟩) (.bl true)) (.inr ⟨⟨r.b⟩⟩) (.bl true))) ∧ ∀ p o, H' p = some o → p ≠ dn → H2 p = some o := ⟨_, rfl, ac, fun p o z n => (af n).trans z⟩
    rw [e2]
    have T2 : LT H2 kvs (R.take i) := TT.mv fun t l z => s2 _ _ z (db z hn (fun q => nomatch q))
    have hl2 := s2 _ _ hl nd1
    have sm2 : Same H H2 := fun p o z => s2 _ _ (sm p o z) (ak z hdn0)
    have fin : ∀ (x y : List Nat) (wt : Wt) (p1 p2 : Addr), ((r.a = x ∧ r.b = y ∧ r.p = wt.1 ∧ r.q = wt.2) ∨ (r.a = y ∧ r.b = x ∧ r.p = wt.2 ∧ r.q = wt.1)) → x < y → H2 p1 = none → upd H2 p1 (.tup [.int wt.1, .int wt.2]) p2 = none →
        ∃ H4, DPut (upd (upd H2 p1 (.tup [.int wt.1, .int wt.2])) p2 (.tup [.int r.d, L2.T x, L2.T y])) dl (.ref p2) (.ref p1) H4 ∧ Same H H4 ∧ ∃ kvs sks, H4 dl = some (.dT kvs) ∧ LT H4 kvs (R.take i ++ [r]) ∧ H4 dn = some (.dK sks) ∧ LN sks (inQ (R.take i ++ [r])) (2 * (i + 1)) := fun x y wt p1 p2 hh xy h1 h2 => by
      have c1 := aj (HO.tup [.int wt.1, .int wt.2]) h1
      have c2 := c1.trans (aj (HO.tup [.int r.d, L2.T x, L2.T y]) h2)
      have hl3 := c2 _ _ hl2
      refine ⟨_, DPut.t (k := k3 r.d x y) hl3 ac (by omega), eQ (sm2.trans c2) hdl, _, _, ac, ?_, (af (Ne.symm nd1)).trans (c2 _ _ f2), N2⟩
      have T3 : LT (upd (upd H2 p1 (.tup [.int wt.1, .int wt.2])) p2 (.tup [.int r.d, L2.T x, L2.T y])) kvs (R.take i) := T2.mv fun t l z => c2 _ _ z
      exact (T3.put hh xy ((aj (HO.tup [.int r.d, L2.T x, L2.T y]) h2) _ _ ac)).mv fun t l z => (af (db z hl3 (fun q => nomatch q))).trans z
    by_cases lt : r.a < r.b
    · rw [(rT lt).1, (rT lt).2.1]
      refine itp (decide_eq_true lt) ⟨by walk_at "om", fun p1 h1 => ⟨by walk_at "om", fun p2 h2 => ?_⟩⟩
      obtain ⟨H4, g1, g2, kv, sk, g3, g4, g5, g6⟩ := fin r.a r.b (r.p, r.q) p1 p2 (.inl ⟨rfl, rfl, rfl, rfl⟩) lt h1 h2
      exact ⟨dl, H4, rfl, g1, g2, kv, sk, g3, g4, g5, g6, _, _, _, _, _, rfl, rfl, rfl, rfl, rfl⟩
    · have gt : r.b < r.a := (jW r.a r.b).elim (fun h => absurd h lt) fun h => h.elim (fun h => absurd h (ap r (List.mem_of_getElem? hr))) id
      rw [(rT gt).2.2.1, (rT gt).2.2.2]
      refine itn (fun z => lt (of_decide_eq_true z)) ⟨by walk_at "om", fun p1 h1 => ⟨by walk_at "om", fun p2 h2 => ?_⟩⟩
      obtain ⟨H4, g1, g2, kv, sk, g3, g4, g5, g6⟩ := fin r.b r.a (r.q, r.p) p1 p2 (.inr ⟨rfl, rfl, rfl, rfl⟩) gt h1 h2
      exact ⟨dl, H4, rfl, g1, g2, kv, sk, g3, g4, g5, g6, _, _, _, _, _, rfl, rfl, rfl, rfl, rfl⟩
  · rintro σ' H' ⟨sm, kvs, sks, hl, TT, hn, NN, x3, x4, x5, x6, x7, rfl⟩
    rw [aR.len, List.take_length] at TT NN
    walk_at "rd"
    have lk := TT.len
    refine xO ?_
    walk_at "rd"
    refine ⟨dl, .dT kvs, rfl, rfl, .inl hl, fun o _ => ?_⟩
    refine xI dl o (.dT kvs) (fun D i ys G => Same (upd H' dl (.frz o (.dT kvs))) G ∧ H' D = none ∧ G D = some (.lst ys) ∧ ∃ ps : List AK, ys = (ps.map fun e => .ref e.1) ∧ (∀ e ∈ ps, G e.1 = some (.tup (e.2.map kV))) ∧ ps.map (·.2) = (kvs.take i).map fun e => qOf R e.1) (by show kvs.length < _; omega) ?_ ?_ ?_ ?_
    · intro D hD
      have nD : D ≠ dl := fun z => by rw [z, ac] at hD; cases hD
      refine ⟨aj _ hD, by rwa [af nD] at hD, ac, [], rfl, (fun _ z => nomatch z), rfl⟩
    · rintro D i ys G ⟨sG, hD, fD, ps, rfl, at_, em⟩
      refine ⟨fD, sG _ _ ac, ?_⟩
      have := congrArg List.length em
      rw [List.length_map, List.length_map, List.length_take] at this
      rw [List.length_map]; omega
    · rintro D i y v ys G zs N1 N0 hi ⟨ky, q, hk, rfl, hq⟩ ⟨sG, hD, fD, ps, rfl, at_, em⟩ hz n1 n0
      obtain ⟨D0, x, y, w', t, rfl, xy, rfl, ht0, hv⟩ := TT.to _ _ (List.mem_of_getElem? hk)
      have htG : G t = some (.tup [.int w'.1, .int w'.2]) := sG _ _ ((af (db ht0 hl (fun q => nomatch q))).trans ht0)
      obtain ⟨z1, rfl⟩ := ex1 hz
      have dg : ∀ {F : Hp}, Same G F → DGet F dl (.ref q) (some (.ref t)) := fun {F} s => by
        have h1 : eC kvs (k3 D0 x y) = some (.ref t) := by
          obtain ⟨v', e1, m1⟩ := vy (List.mem_of_getElem? hk)
          rw [e1, uK TT.nd m1 (List.mem_of_getElem? hk)]
        exact .inr ⟨kvs, k3 D0 x y, q, .inr ⟨o, s _ _ (sG _ _ ac)⟩, rfl, s _ _ hq, h1.symm⟩
      walk_at "rd"
      refine ⟨⟨[some (.ref q)], rfl, rfl⟩, _, _, .inr (SqT.of hq), aB (j := 0) rfl, _, _, .inr (SqT.of hq), aB (j := 1) rfl, dl, _, rfl, dg (Same.refl _), ?_⟩
      walk_at "rd"
      refine ⟨_, _, .inr (SqT.of htG), aB (j := 0) rfl, _, _, .inr (SqT.of hq), aB (j := 2) rfl, dl, _, rfl, dg (Same.refl _), ?_⟩
      walk_at "rd"
      refine ⟨_, _, .inr (SqT.of htG), aB (j := 1) rfl, by walk_at "om", fun p2 h2 => ?_⟩
      have s2 := aj (HO.tup [V.int D0, L2.T x, V.int w'.1, L2.T y, V.int w'.2]) h2
      refine n1 _ _ (s2 _ _ fD) ⟨fun c z h => ?_, hD, ac, ps ++ [(p2, qK D0 x y w')], by rw [List.map_append]; rfl, fun e me => ?_, ?_⟩
      · have hc : c ≠ D := fun z => by
          have nD : D ≠ dl := fun z => by rw [z, hl] at hD; cases hD
          rw [z, af nD, hD] at h; cases h
        rw [af hc]; exact s2 _ _ (sG c z h)
      · rcases List.mem_append.mp me with me | me
        · rw [af (db (at_ e me) fD (fun q => nomatch q))]; exact s2 _ _ (at_ e me)
        · rw [List.mem_singleton.mp me]
          exact (af (Ne.symm (ak fD h2))).trans ac
      · rw [List.map_append, em, gN hk, List.map_append]
        show _ ++ [qK D0 x y w'] = _ ++ [qK D0 x y ((val R x y D0).getD (0, 0))]
        rw [hv]; rfl
    · rintro D ys G ⟨sG, hD, fD, ps, rfl, at_, em⟩
      have nD : D ≠ dl := fun z => by rw [z, hl] at hD; cases hD
      rw [show eO (.dT kvs) = kvs.length from rfl, List.take_length] at em
      refine ⟨dl, o, .dT kvs, sG _ _ ac, .inl ⟨hl, rfl, ?_⟩⟩
      have sF := kz sG hl
      have iq : ∀ k, k ∈ ps.map (·.2) ↔ IsQ (val R) k := fun k => by
        rw [em]
        constructor
        · intro m
          obtain ⟨⟨k1, v1⟩, m1, rfl⟩ := List.mem_map.mp m
          obtain ⟨D0, x, y, w', t, rfl, xy, _, _, hv⟩ := TT.to _ _ m1
          refine ⟨D0, x, y, w', xy, hv, ?_⟩
          show qK D0 x y ((val R x y D0).getD (0, 0)) = _
          rw [hv]; rfl
        · rintro ⟨D0, x, y, w', xy, hv, rfl⟩
          obtain ⟨v, mv⟩ := TT.fr D0 x y w' xy hv
          refine List.mem_map.mpr ⟨_, mv, ?_⟩
          show qK D0 x y ((val R x y D0).getD (0, 0)) = _
          rw [hv]; rfl
      have nd : (ps.map (·.2)).Nodup := by
        rw [em]
        refine List.pairwise_map.mpr ((List.Pairwise.and_mem.mp (List.pairwise_map.mp TT.nd)).imp fun {p1 p2} ⟨m1, m2, ne⟩ e => ?_)
        obtain ⟨D1, x1, y1, w1, _, e1, _⟩ := TT.to p1.1 p1.2 m1
        obtain ⟨D2, x2, y2, w2, _, e2, _⟩ := TT.to p2.1 p2.2 m2
        rw [e1, e2] at e
        obtain ⟨q1, q2, q3, _⟩ := qY (show qK D1 x1 y1 _ = qK D2 x2 y2 _ from e)
        exact ne (by rw [e1, e2, q1, q2, q3])
      have len := og nd fun k m => (iq k).mp m
      rw [List.length_map] at len
      have ap2 : ∀ e ∈ ps, upd G dl (.dT kvs) e.1 = some (.tup (e.2.map kV)) := fun e me => by
        have := at_ e me
        rw [af fun z => by rw [z, sG _ _ ac] at this; cases this]
        exact this
      walk_at "rd"
      refine ⟨ps, true, [false, true, false, true], SqL.of ((af nD).trans fD), ap2, by omega, fun e me => ?_, nd, fun out po oo l hl1 => ?_⟩
      · obtain ⟨D0, x, y, w', _, _, e1⟩ := (iq e.2).mp (List.mem_map.mpr ⟨e, me, rfl⟩)
        rw [e1]; rfl
      · have s2 := aj (HO.lst (out.map fun e => V.ref e.1)) hl1
        have sA := sF.trans s2
        obtain ⟨ls, e1, nd2, ml, ll⟩ := NN.keys
        have lsk := NN.len
        refine ⟨sks, ls, sA _ _ hn, e1, by omega, fun out2 po2 oo2 l2 hl2 => ⟨by walk_at "om", fun rr hrr => ?_⟩⟩
        have s3 := aj (HO.lst (out2.map L2.T)) hl2
        have s4 := aj (HO.lst [V.ref l, V.ref l2]) hrr
        have sm2 := sm.trans sA
        refine k rr l l2 _ _ _ ((sm2.trans s3).free hrr) ((sm.trans sF).free hl1) (sm2.free hl2) ac ((s3.trans s4) _ _ ac) (s4 _ _ ac) ?_ ?_ (sm2.trans (s3.trans s4))
        · unfold LO; rw [if_pos rfl]
          exact ⟨out, rfl, fun e me => (s2.trans (s3.trans s4)) _ _ (ap2 e (po.mem_iff.mp me)), oo, fun k => (List.Perm.mem_iff (po.map _)).trans (iq k)⟩
        · unfold LO; rw [if_neg (by decide)]
          exact ⟨out2, rfl, oo2, po2.nodup_iff.mpr nd2, fun x => po2.mem_iff.trans (ml x)⟩
end
section
variable {P : Program} {w : World} {K : PySem.W.Frag} {mg : Str → Option Value} {base : Heap} {a : Adr}
def Hd (H H' : Hp) (v : V) : Prop := ∃ p ys, v = .ref p ∧ H p = none ∧ H' p = some (.lst ys) ∧ ys.length ≤ 100 ∧ ∀ y ∈ ys, (∃ q, y = .ref q) ∨ ∃ l, y = L2.T l
def sp_mF (C : Addr) : Sp := sp4 fun x y z u H Q _ => asR x fun r => asR y fun th => asR z fun hl => asI u fun tn => ∃ R W vs hs, RS C H r R W ∧ dB R ∧ R.length ≤ 20 ∧ H th = some (.lst vs) ∧ A2 (QAt H) vs R ∧ hl ≠ th ∧ H hl = some (.lst hs) ∧ hs.length ≤ 200 ∧
  ∀ xs H', H' hl = some (.lst (hs ++ xs)) → xs.length = 2 → (∀ v ∈ xs, Hd H H' v) → Kp (fun p => p = hl) H H' → Q (.bl true) H'
theorem bV (T : Txt K mg a) : cz P w K mg base (XE P w) 3 a.dL a.f_ ["_law_rates", "_law_told_here", "_law_held", "_law_turn"] (sp_mF a.aq) := by
  refine T.a_.okX gf (fun vs H Q E h => sp4.len h) (fun cdv A outer s H vs Q E hr h => ?_)
  obtain ⟨x0, x1, x2, x3, rfl, h⟩ := sp4.inv h
  try dsimp only [sp_mF, sp4] at h
  have ND := gf.nd
  have HU : (bZ (XE P w) P w K mg base ["_law_rates", "_law_told_here", "_law_held", "_law_turn", "_law_dues", "_law_which", "_law_found"] "_law_listed" (ad bF) a.dL cdv A outer s H E).A.units + 100 < cLine := bh hr
  obtain ⟨r, rfl, h1⟩ := asR.inv h
  obtain ⟨th, rfl, h2⟩ := asR.inv h1
  obtain ⟨hl, rfl, h3⟩ := asR.inv h2
  obtain ⟨tn, rfl, R, W, vs, hs, RR, ap, lR, ht, aR, nlt, hh, lh, k⟩ := asI.inv h3
  have sz : 1000 ≤ sizeLine := by rw [sizeLine_eq]; decide
  have G__law_list := oE (P := P) (w := w) (base := base) T
  have b__law_list := oN T.eU
  have G__law_lists := lB (P := P) (w := w) (base := base) T
  have b__law_lists := lC T.fN
  refine ⟨_, (ah (aI (i := 4) ND rfl (Or.inl rfl) (az G__law_lists (hr.mono (by decide)) rfl T.nB T.fN.kp b__law_lists .nil bw (FA.pa (aa (fv 1) ae))))
      (ah (e_ (by passes_own) rfl (fw K (ar (ao K) (bY (FA.pa (aa (bY (FA.pa (aa ag (aa ag ae)))) (aa (bY (FA.pa (aa ag (aa ag ae)))) ae)))) (ay ce (fv 3) ag) (fun _ _ => rfl))) (aE (i := 5) ND rfl (Or.inl rfl)) (ah (aI (i := 6) ND rfl (Or.inl rfl) (az G__law_list (hr.mono (by decide)) rfl T.jw T.eU.kp b__law_list .nil bw (FA.pa (aa (fv 0) (aa (fv 5) ae)))))
      (ah (cf (L2.PW.pt (fj (cC (ck (aA (cW K) rfl T.aU aN (FA.pa (aa (fv 6) (aa (dH (v := .ty "list") rfl T.vg rJ rfl) ae)))))) (eP (bB (iA K HU) (fv 6) (ar (ao K) (fv 4) (fv 5) (fun _ _ => rfl)) (bb _))))) (am (aC cT)) aV)
      (ah (eT (iz K PySem.F.plainAttrs_list PySem.F.slot_list_append PySem.F.type_list_append fH (fv 6) (FA.pa (aa (be [109, 111, 114, 101]) ae))))
      (ah (eT (iz K PySem.F.plainAttrs_list PySem.F.slot_list_append PySem.F.type_list_append fH (fv 2) (FA.pa (aa (az G__law_list (hr.mono (by decide)) rfl T.jw T.eU.kp b__law_list .nil bw (FA.pa (aa (fv 0) (aa (fv 5) ae)))) ae))))
      (am (cf (bB (iA K HU) (ar (ao K) (fv 2) (vb qE ag) (fun _ _ => rfl)) (ar (ao K) (fv 4) (fv 5) (fun _ _ => rfl)) (bb _)) (am (aC cT)) aV)))))))
      (am (aC cT)))), ?_⟩
  walk_at "rd"
  refine ⟨vs, R, ht, aR, lR, ap, fun rr l1 l2 xs ys H1 nr n1 n2 hr1 hl1 hl2 L1 L2' s1 => i4 ?_⟩
  walk_at "rd"
  refine ⟨by walk_at "om", fun q1 c1 => ⟨by walk_at "om", fun q2 c2 => ⟨by walk_at "om", fun q3 c3 => ?_⟩⟩⟩
  have a1 := aj (HO.lst [V.int 0, V.int 1]) c1
  have a2 := aj (HO.lst [V.int 1, V.int 0]) c2
  have a3 := aj (HO.lst [V.ref q1, V.ref q2]) c3
  have f1 := (a2.trans a3) _ _ (ac (H := H1) (a := q1) (o := HO.lst [V.int 0, V.int 1]))
  have f2 := a3 _ _ (ac (H := upd H1 q1 (HO.lst [V.int 0, V.int 1])) (a := q2) (o := HO.lst [V.int 1, V.int 0]))
  have f3 : upd (upd (upd H1 q1 (HO.lst [V.int 0, V.int 1])) q2 (HO.lst [V.int 1, V.int 0])) q3 (HO.lst [V.ref q1, V.ref q2]) q3 = _ := ac
  have s2 := s1.trans (a1.trans (a2.trans a3))
  have hr2 := (a1.trans (a2.trans a3)) _ _ hr1
  have hl1' := (a1.trans (a2.trans a3)) _ _ hl1
  have hl2' := (a1.trans (a2.trans a3)) _ _ hl2
  have L1' := L1.same (a1.trans (a2.trans a3))
  have L2'' := L2'.same (a1.trans (a2.trans a3))
  have d1 := s1.free c1
  have d2 := (s1.trans a1).free c2
  generalize upd (upd (upd H1 q1 (HO.lst [V.int 0, V.int 1])) q2 (HO.lst [V.int 1, V.int 0])) q3 (HO.lst [V.ref q1, V.ref q2]) = H2 at f1 f2 f3 s2 hr2 hl1' hl2' L1' L2'' ⊢
  clear a3 a2 a1 c3 c2 c1 hr1 hl1 hl2 L1 L2' s1
  obtain ⟨v, av, hv⟩ := kf (P := fun v => ∃ pl w1 w2, v = .ref pl ∧ H pl = none ∧ H2 pl = some (.lst [.int w1, .int w2]) ∧ (w1 = 0 ∨ w1 = 1) ∧ (w2 = 0 ∨ w2 = 1)) (xs := [V.ref q1, V.ref q2]) (fun x mx => by
    rcases List.mem_cons.mp mx with rfl | mx
    · exact ⟨q1, 0, 1, rfl, d1, f1, .inl rfl, .inr rfl⟩
    · rw [List.mem_singleton.mp mx]
      exact ⟨q2, 1, 0, rfl, d2, f2, .inr rfl, .inl rfl⟩) (i := tn % 2) (by omega) (by show _ < (2 : Int); omega)
  refine ⟨_, v, .inl (SqL.of f3), av, ?_⟩
  obtain ⟨pl, w1, w2, rfl, npl, hpl, hw1, hw2⟩ := hv
  have hh2 := s2 _ _ hh
  have np : ∀ {p : Addr}, H p = none → p ≠ hl := fun n => Ne.symm (ak hh n)
  refine iE (SqL.of hpl) (iJ (fun i σ' G => Kp (fun p => p = hl) H2 G ∧ ∃ zs, G hl = some (.lst (hs ++ zs)) ∧ zs.length = i ∧ (∀ v ∈ zs, Hd H G v) ∧ ∃ x5 x6, σ' = [some (.ref r), some (.ref th), some (.ref hl), some (.int tn), some (.ref rr), x5, x6]) ⟨fun p o z _ => z, [], by rw [List.append_nil]; exact hh2, rfl, (fun _ z => nomatch z), none, none, rfl⟩ (fun i σ' G _ h => SqL.of (h.1 _ _ hpl (np npl))) ?_ ?_)
  · rintro i x σ' G hx ⟨KG, zs, hG, lz, hdz, x5, x6, rfl⟩
    obtain ⟨w, rfl, hw⟩ : ∃ w : Int, x = .int w ∧ (w = 0 ∨ w = 1) := by
      match i, hx with
      | 0, hx => exact ⟨w1, (Option.some.inj hx).symm, hw1⟩
      | 1, hx => exact ⟨w2, (Option.some.inj hx).symm, hw2⟩
      | i + 2, hx => simp at hx
    have li : i < 2 := (List.getElem?_eq_some_iff.mp hx).1
    have tG : ∀ t l, H2 t = some (.tup l) → G t = some (.tup l) := fun t l z => KG _ _ z (db z hh2 (fun q => nomatch q))
    have RG : RS a.aq G r R W := (RR.same s2).mv fun p o z h => KG p o z (by
      rcases h with h | rfl | ⟨l, rfl⟩
      · obtain ⟨u, e, hu⟩ := (RR.same s2).dict h
        intro q; rw [q, hh2] at e; cases e; cases hu
      · obtain ⟨_, _, _, _, _, e, _⟩ := (RR.same s2).ex
        exact db e hh2 (fun q => nomatch q)
      · exact db z hh2 (fun q => nomatch q))
    have hrG := KG _ _ hr2 (np nr)
    obtain ⟨dw, us, hdw, hdn, LD, hdi⟩ : ∃ dw us, G dw = some (.lst us) ∧ dw ≠ hl ∧ LO G R w us ∧ atI [V.ref l1, V.ref l2] w = some (.ref dw) := by
      rcases hw with rfl | rfl
      · exact ⟨l1, xs, KG _ _ hl1' (np n1), np n1, L1'.mv tG, aB (j := 0) rfl⟩
      · exact ⟨l2, ys, KG _ _ hl2' (np n2), np n2, L2''.mv tG, aB (j := 1) rfl⟩
    walk_at "rd"
    refine ⟨R, W, RG, lR, fun l xs1 H3 nl hl3 LO3 s3 => ?_⟩
    have hk : cw H3 (.ref l) = some "list" := by simp [cw, hl3]
    simp only [hk]
    walk_at "rd"
    have len1 := LO3.len
    refine ⟨_, _, .inl (SqL.of (s3 _ _ hrG)), hdi, ?_⟩
    walk_at "rd"
    refine ⟨true, LO.eq LO3 (LD.same s3) hl3 (s3 _ _ hdw), itn (by decide) ⟨.inl ⟨_, SqL.of hl3⟩, l, _, _, rfl, rfl, hl3, by omega, ?_⟩⟩
    have s4 : Same G (upd H3 l (.lst (xs1 ++ [L2.T [109, 111, 114, 101]]))) := eQ s3 nl
    generalize upd H3 l (.lst (xs1 ++ [L2.T [109, 111, 114, 101]])) = H4 at s4 ⊢
    refine ⟨.inl ⟨_, SqL.of (s4 _ _ hG)⟩, R, W, RG.same s4, lR, fun l' xs2 H5 nl' hl5 LO5 s5 => ?_⟩
    have s45 := s4.trans s5
    have len2 := LO5.len
    have hl5' := s45 _ _ hG
    have nlh : l' ≠ hl := fun z => by rw [z, s4 _ _ hG] at nl'; cases nl'
    refine ⟨hl, _, _, rfl, rfl, hl5', by rw [List.length_append]; omega, ?_⟩
    have K6 : ∀ p o, H5 p = some o → p ≠ hl → upd H5 hl (.lst (hs ++ zs ++ [.ref l'])) p = some o := fun p o z n => (af n).trans z
    have h6 : upd H5 hl (.lst (hs ++ zs ++ [.ref l'])) hl = some (.lst (hs ++ zs ++ [.ref l'])) := ac
    generalize upd H5 hl (.lst (hs ++ zs ++ [.ref l'])) = H6 at K6 h6 ⊢
    refine ⟨_, _, .inl (SqL.of h6), uM _ _, _, _, .inl (SqL.of (K6 _ _ (s45 _ _ hrG) (np nr))), hdi, ?_⟩
    walk_at "rd"
    have t6 : ∀ t l, H5 t = some (.tup l) → H6 t = some (.tup l) := fun t l z => K6 _ _ z (db z hl5' (fun q => nomatch q))
    refine ⟨true, LO.eq (LO5.mv t6) ((LD.same s45).mv t6) (K6 _ _ hl5 nlh) (K6 _ _ (s45 _ _ hdw) hdn), itn (by decide) ⟨fun p o z n => K6 _ _ (s45 _ _ (KG p o z n)) n, zs ++ [.ref l'], by rw [← List.append_assoc]; exact h6, by rw [List.length_append, lz]; rfl, fun v mv => ?_, _, _, rfl, rfl⟩⟩
    rcases List.mem_append.mp mv with mv | mv
    · obtain ⟨p, us', rfl, n1, e1, e2, e3⟩ := hdz v mv
      exact ⟨p, us', rfl, n1, K6 _ _ (s45 _ _ e1) (np n1), e2, e3⟩
    · rw [List.mem_singleton.mp mv]
      refine ⟨l', xs2, rfl, ?_, K6 _ _ hl5 nlh, by omega, LO5.flat⟩
      cases z : H l' with
      | none => rfl
      | some o =>
        have := s4 _ _ (KG _ _ (s2 _ _ z) nlh)
        rw [this] at nl'; cases nl'
  · rintro σ' G ⟨KG, zs, hG, lz, hdz, x5, x6, rfl⟩
    walk_at "rd"
    exact k zs G hG lz hdz fun p o z n => KG p o (s2 p o z) n
def sp_uQ (C : Addr) : Sp := sp4 fun x y z u H Q _ => asR x fun r => asR y fun th => asR z fun cn => asI u fun d => ∃ R W vs, ∃ ls : List (List Nat), RS C H r R W ∧ dB R ∧ R.length ≤ 100 ∧ H th = some (.lst vs) ∧ A2 (QAt H) vs R ∧ H cn = some (.lst (ls.map L2.T)) ∧ ls.length ≤ 10 ∧ ∀ H', Same H H' → Q (.bl true) H'
theorem jf (T : Txt K mg a) : cz P w K mg base (XE P w) 5 a.di a.fA ["_law_rates", "_law_told_here", "_law_coins", "_law_day"] (sp_uQ a.aq) := by
  refine T.dW.okX fm (fun vs H Q E h => sp4.len h) (fun cdv A outer s H vs Q E hr h => ?_)
  obtain ⟨x0, x1, x2, x3, rfl, h⟩ := sp4.inv h
  try dsimp only [sp_uQ, sp4] at h
  have ND := fm.nd
  have HU : (bZ (XE P w) P w K mg base ["_law_rates", "_law_told_here", "_law_coins", "_law_day", "_law_one"] "_law_all_good" (ad aY) a.di cdv A outer s H E).A.units + 100 < cLine := bh hr
  obtain ⟨r, rfl, h1⟩ := asR.inv h
  obtain ⟨th, rfl, h2⟩ := asR.inv h1
  obtain ⟨cn, rfl, h3⟩ := asR.inv h2
  obtain ⟨d, rfl, R, W, vs, ls, RR, ap, lR, ht, aR, hc, lc, k⟩ := asI.inv h3
  have sz : 1000 ≤ sizeLine := by rw [sizeLine_eq]; decide
  have G__law_newest_good := eg (P := P) (w := w) (base := base) T
  have b__law_newest_good := eu T.bO
  refine ⟨_, (ah (e_ (by passes_own) rfl (fw K (fv 2)) (aE (i := 4) ND rfl (Or.inr rfl)) (am (cf (bB (iA K HU) (ft rfl (cl := _) (x := "_law_other") (xs := ["_law_other"]) (fr := ["_law_rates", "_law_told_here", "_law_one", "_law_day"]) (ks := [0, 1, 4, 3]) (by exact ⟨rfl, by decide +kernel, rfl, by decide +kernel, rfl, dN rfl, rfl, bz rfl, bz (k := fun y => List.lookup y _) rfl, dJ rfl⟩) rfl (fw K (fv 2)) (fun _ _ _ _ _ => (aE (i := 0) (hE (l := ["_law_other", "_law_rates", "_law_told_here", "_law_one", "_law_day"]) (by decide)) rfl (Or.inl rfl))) (fun _ _ _ _ _ => (iT (cC (ck (az G__law_newest_good (hr.mono (by decide)) rfl T.dq T.bO.kp b__law_newest_good .nil sq (FA.pa (aa (fv 1) (aa (fv 2) (aa (fv 3) (aa (fv 0) (aa (fv 4) ae))))))))))) (fun _ _ _ _ _ => (fv 0))) (bY (FA.pa ae)) (bb _)) (am (aC cT)) aV)))
      (am (aC cT))), ?_⟩
  walk_at "rd"
  refine i4 ?_
  walk_at "rd"
  refine iE (SqL.of hc) (iJ (fun i σ' H' => Same H H' ∧ ∃ x4, σ' = [some (.ref r), some (.ref th), some (.ref cn), some (.int d), x4]) ⟨Same.refl _, none, rfl⟩ (fun i σ' H' _ h => SqL.of (h.1 _ _ hc)) ?_ ?_)
  · rintro i x σ' H' hx ⟨sm, x4, rfl⟩
    rw [List.getElem?_map] at hx
    obtain ⟨l, hl, rfl⟩ := Option.map_eq_some_iff.mp hx
    walk_at "rd"
    refine xD ?_
    walk_at "rd"
    refine ⟨⟨_, SqL.of (sm _ _ hc)⟩, xH cn (ls.map L2.T) (fun D i ys G => Same H' G ∧ ys = [] ∧ G D = some (.lst [])) (by rw [List.length_map]; omega) (fun D hD => ⟨aj _ hD, rfl, ac⟩) (fun D i ys G h => ⟨by rw [h.2.1]; exact h.2.2, SqL.of (h.1 _ _ (sm _ _ hc)), by rw [h.2.1]; exact Nat.zero_le _⟩) ?_ ?_⟩
    · rintro D i y ys G zs N1 N0 hy ⟨sG, rfl, hD⟩ hz n1 n0
      rw [List.getElem?_map] at hy
      obtain ⟨l', hl', rfl⟩ := Option.map_eq_some_iff.mp hy
      obtain ⟨z1, rfl⟩ := ex1 hz
      have sF := sm.trans sG
      walk_at "rd"
      refine ⟨⟨[some (L2.T l')], rfl, rfl⟩, R, W, vs, RR.same sF, ap, lR, sF _ _ ht, kh sF aR, fun H2 s2 => ?_⟩
      walk_at "rd"
      exact n0 _ ⟨sG.trans s2, rfl, s2 _ _ hD⟩
    · rintro D ys G ⟨sG, rfl, hD⟩
      refine ⟨Nat.zero_le _, fun p hp => ?_⟩
      walk_at "rd"
      have s2 := aj (HO.lst []) hp
      exact ⟨true, EqR.nilR (xs := []) (SqL.of (s2 _ _ hD)) (SqL.of ac), itn (by decide) ⟨sm.trans (sG.trans s2), _, rfl⟩⟩
  · rintro σ' H' ⟨sm, x4, rfl⟩
    walk_at "rd"
    exact k _ sm
structure TS (C : Addr) (H : Hp) (rs th : Nat → Addr) (R : Nat → List Qr) (W : Nat → Addr → Prop) (n : Nat) : Prop where
  rs : ∀ s, s < 2 → RS C H (rs s) (R s) (W s)
  ap : ∀ s, s < 2 → dB (R s) ∧ (R s).length ≤ n
  th : ∀ s, s < 2 → ∃ vs, H (th s) = some (.lst vs) ∧ A2 (QAt H) vs (R s)
theorem TS.same {C : Addr} {H H' : Hp} {rs th : Nat → Addr} {R : Nat → List Qr} {W : Nat → Addr → Prop} {n : Nat} (h : TS C H rs th R W n) (s : Same H H') : TS C H' rs th R W n :=
  ⟨fun i l => (h.rs i l).same s, h.ap, fun i l => let ⟨vs, e, a⟩ := h.th i l; ⟨vs, s _ _ e, kh s a⟩⟩
theorem pk2 {f : Nat → Addr} {i : Nat} (h : i < 2) : [V.ref (f 0), V.ref (f 1)][i]? = some (.ref (f i)) := by
  match i, h with
  | 0, _ => rfl
  | 1, _ => rfl
def sp_um (C : Addr) : Sp := sp4 fun x y z u H Q _ => asR x fun bo => asR y fun tl => asR z fun cn => asI u fun d => ∃ rs th R W, ∃ ls : List (List Nat), TS C H rs th R W 20 ∧ H bo = some (.lst [.ref (rs 0), .ref (rs 1)]) ∧ H tl = some (.lst [.ref (th 0), .ref (th 1)]) ∧ H cn = some (.lst (ls.map L2.T)) ∧ ls.length ≤ 10 ∧ ∀ H', Same H H' → Q (.bl true) H'
theorem bx (T : Txt K mg a) : cz P w K mg base (XE P w) 6 a.dZ a.fo ["_law_both", "_law_told_here", "_law_coins", "_law_day"] (sp_um a.aq) := by
  refine T.aZ.okX fz (fun vs H Q E h => sp4.len h) (fun cdv A outer s H vs Q E hr h => ?_)
  obtain ⟨x0, x1, x2, x3, rfl, h⟩ := sp4.inv h
  try dsimp only [sp_um, sp4] at h
  have ND := fz.nd
  obtain ⟨bo, rfl, h1⟩ := asR.inv h
  obtain ⟨tl, rfl, h2⟩ := asR.inv h1
  obtain ⟨cn, rfl, h3⟩ := asR.inv h2
  obtain ⟨d, rfl, rs, th, R, W, ls, S, hb, htl, hc, lc, k⟩ := asI.inv h3
  have sz : 1000 ≤ sizeLine := by rw [sizeLine_eq]; decide
  have G__law_listed := bV (P := P) (w := w) (base := base) T
  have b__law_listed := bW T.a_
  have G__law_all_good := jf (P := P) (w := w) (base := base) T
  have b__law_all_good := jc T.dW
  refine ⟨_, (ah (e_ (by passes_own) rfl (gP rfl T.iK (FA.pa (aa ag ae))) (aE (i := 4) ND rfl (Or.inl rfl)) (ah (cf (cC (ck (az G__law_all_good (hr.mono (by decide)) rfl T.jN T.dW.kp b__law_all_good .nil bw (FA.pa (aa (ar (ao K) (fv 0) (fv 4) (fun _ _ => rfl)) (aa (ar (ao K) (fv 1) (fv 4) (fun _ _ => rfl)) (aa (fv 2) (aa (fv 3) ae)))))))) (am (aC cT)) aV)
      (am (cf (cC (ck (az G__law_listed (hr.mono (by decide)) rfl T.fb T.a_.kp b__law_listed .nil bw (FA.pa (aa (ar (ao K) (fv 0) (fv 4) (fun _ _ => rfl)) (aa (ar (ao K) (fv 1) (fv 4) (fun _ _ => rfl)) (aa (bY (FA.pa ae)) (aa (ay cq (fv 3) (fv 4)) ae)))))))) (am (aC cT)) aV))))
      (am (aC cT))), ?_⟩
  walk_at "rd"
  refine px ?_
  walk_at "rd"
  refine mP (lo := 0) (n := 2) (fun i σ' G => Same H G ∧ ∃ x4, σ' = [some (.ref bo), some (.ref tl), some (.ref cn), some (.int d), x4]) ⟨Same.refl _, none, rfl⟩ ?_ ?_
  · rintro i σ' G hi ⟨sm, x4, rfl⟩
    have S1 := S.same sm
    obtain ⟨vs, hv, av⟩ := S1.th i hi
    obtain ⟨ai, li⟩ := S1.ap i hi
    have ib : ∀ {F : Hp}, Same G F → ∀ {Z : V → Prop}, Z (.ref (rs i)) → ∃ xs v, (SqL K F bo xs ∨ SqT K F bo xs) ∧ atI xs (0 + (i : Int)) = some v ∧ Z v := by
      intro F s Z z
      exact ⟨_, _, .inl (SqL.of (s _ _ (sm _ _ hb))), by rw [Int.zero_add]; exact aB (pk2 hi), z⟩
    have it : ∀ {F : Hp}, Same G F → ∀ {Z : V → Prop}, Z (.ref (th i)) → ∃ xs v, (SqL K F tl xs ∨ SqT K F tl xs) ∧ atI xs (0 + (i : Int)) = some v ∧ Z v := by
      intro F s Z z
      exact ⟨_, _, .inl (SqL.of (s _ _ (sm _ _ htl))), by rw [Int.zero_add]; exact aB (pk2 hi), z⟩
    walk_at "rd"
    refine ib (Same.refl _) (it (Same.refl _) ?_)
    walk_at "rd"
    refine ⟨R i, W i, vs, ls, S1.rs i hi, ai, by omega, hv, av, sm _ _ hc, lc, fun H2 s2 => ?_⟩
    walk_at "rd"
    refine ib s2 (it s2 ⟨Nat.zero_le _, fun p hp => ?_⟩)
    have s3 := s2.trans (aj (HO.lst []) hp)
    walk_at "rd"
    refine ⟨R i, W i, vs, [], (S1.rs i hi).same s3, ai, li, s3 _ _ hv, kh s3 av, Ne.symm (ak (s2 _ _ hv) hp), ac, by decide, fun xs H4 h4 _ _ K4 => ?_⟩
    walk_at "rd"
    exact ⟨sm.trans fun q o z => K4 _ _ (s3 _ _ z) (ak (s2 _ _ z) hp), _, rfl⟩
  · rintro σ' G ⟨sm, x4, rfl⟩
    walk_at "rd"
    exact k _ sm
end
section
variable {P : Program} {w : World} {K : PySem.W.Frag} {mg : Str → Option Value} {base : Heap} {a : Adr}
theorem RS.kp {C r : Addr} {H H' : Hp} {R : List Qr} {W M : Addr → Prop} (h : RS C H r R W) (k : Kp M H H') (hm : ∀ p, M p → (∃ u, H p = some u ∧ (isD u = true ∨ ∃ xs, u = .lst xs)) ∧ ¬ W p) : RS C H' r R W :=
  h.mv fun p o z q => k p o z fun m => by
    obtain ⟨⟨u, e, hu⟩, nw⟩ := hm p m
    rcases q with q | rfl | ⟨l, rfl⟩
    · exact nw q
    · obtain ⟨_, _, _, _, _, e1, _⟩ := h.ex
      rw [e1] at e; cases e
      rcases hu with hu | ⟨_, hu⟩ <;> cases hu
    · rw [z] at e; cases e
      rcases hu with hu | ⟨_, hu⟩ <;> cases hu
theorem vA {H H' : Hp} (k : ∀ t l, H t = some (.tup l) → H' t = some (.tup l)) {vs : List V} {R : List Qr} (h : A2 (QAt H) vs R) : A2 (QAt H') vs R := h.imp fun _ _ _ _ ⟨q, e, z⟩ => ⟨q, e, k _ _ z⟩
def Mt (hl : Addr) (th : Nat → Addr) (p : Addr) : Prop := p = hl ∨ p = th 0 ∨ p = th 1
def Hq (H : Hp) (M : Addr → Prop) (v : V) : Prop := ∃ p xs, v = .ref p ∧ H p = some (.lst xs) ∧ ¬ M p ∧ xs.length ≤ 100 ∧ ∀ y ∈ xs, (∃ q, y = .ref q) ∨ ∃ l, y = L2.T l
def Pr (H : Hp) (M : Addr → Prop) (v w : V) : Prop := ∃ p q xs, v = .ref p ∧ w = .ref q ∧ p ≠ q ∧ H p = some (.lst xs) ∧ H q = some (.lst xs) ∧ ¬ M p ∧ ¬ M q ∧ ∀ y ∈ xs, (∃ q, y = .ref q) ∨ ∃ l, y = L2.T l
structure LF (H : Hp) (bo tl hl cn kp : Addr) (rs th : Nat → Addr) (ls : List (List Nat)) (hs ks : List V) : Prop where
  fbo : H bo = some (.lst [.ref (rs 0), .ref (rs 1)])
  ftl : H tl = some (.lst [.ref (th 0), .ref (th 1)])
  fcn : H cn = some (.lst (ls.map L2.T))
  fkp : H kp = some (.lst ks)
  nb : ¬ Mt hl th bo
  nt : ¬ Mt hl th tl
  nc : ¬ Mt hl th cn
  nk : ¬ Mt hl th kp
  hq : ∀ v ∈ hs, Hq H (Mt hl th) v
  pr : A2 (Pr H (Mt hl th)) (hs.take ks.length) ks
theorem LF.mv {H H' : Hp} {bo tl hl cn kp : Addr} {rs th : Nat → Addr} {ls : List (List Nat)} {hs ks : List V} (h : LF H bo tl hl cn kp rs th ls hs ks) (k : ∀ p xs, H p = some (.lst xs) → ¬ Mt hl th p → H' p = some (.lst xs)) : LF H' bo tl hl cn kp rs th ls hs ks :=
  ⟨k _ _ h.fbo h.nb, k _ _ h.ftl h.nt, k _ _ h.fcn h.nc, k _ _ h.fkp h.nk, h.nb, h.nt, h.nc, h.nk, fun v m => let ⟨p, xs, e1, e2, e3, e4⟩ := h.hq v m; ⟨p, xs, e1, k _ _ e2 e3, e3, e4⟩,
   h.pr.imp fun _ _ _ _ ⟨p, q, xs, e1, e2, e3, e4, e5, e6, e7, e8⟩ => ⟨p, q, xs, e1, e2, e3, k _ _ e4 e6, k _ _ e5 e7, e6, e7, e8⟩⟩
structure LS (C : Addr) (H : Hp) (bo tl hl cn kp : Addr) (rs th : Nat → Addr) (R : Nat → List Qr) (W : Nat → Addr → Prop) (ls : List (List Nat)) (hs ks : List V) (n : Nat) : Prop where
  ts : TS C H rs th R W n
  dj : ∀ p, W 0 p → ¬ W 1 p
  fhl : H hl = some (.lst hs)
  nt : th 0 ≠ th 1
  nh : ∀ s, s < 2 → hl ≠ th s
  lf : LF H bo tl hl cn kp rs th ls hs ks
  lc : ls.length = 6
  ok : ∀ l ∈ ls, ok l
theorem LS.same {C : Addr} {H H' : Hp} {bo tl hl cn kp : Addr} {rs th : Nat → Addr} {R : Nat → List Qr} {W : Nat → Addr → Prop} {ls : List (List Nat)} {hs ks : List V} {n : Nat} (h : LS C H bo tl hl cn kp rs th R W ls hs ks n) (s : Same H H') : LS C H' bo tl hl cn kp rs th R W ls hs ks n :=
  ⟨h.ts.same s, h.dj, s _ _ h.fhl, h.nt, h.nh, h.lf.mv fun p xs z _ => s _ _ z, h.lc, h.ok⟩
theorem dj2 {W : Nat → Addr → Prop} (h : ∀ p, W 0 p → ¬ W 1 p) {i j : Nat} (hi : i < 2) (hj : j < 2) (ne : i ≠ j) {p : Addr} (hp : W i p) : ¬ W j p := by
  match i, j, hi, hj, ne with
  | 0, 1, _, _, _ => exact h p hp
  | 1, 0, _, _, _ => exact fun z => h p z hp
  | 0, 0, _, _, n => exact absurd rfl n
  | 1, 1, _, _, n => exact absurd rfl n
theorem AA {th : Nat → Addr} (h : th 0 ≠ th 1) {i j : Nat} (hi : i < 2) (hj : j < 2) (ne : i ≠ j) : th i ≠ th j := by
  match i, j, hi, hj, ne with
  | 0, 1, _, _, _ => exact h
  | 1, 0, _, _, _ => exact Ne.symm h
  | 0, 0, _, _, n => exact absurd rfl n
  | 1, 1, _, _, n => exact absurd rfl n
theorem xC {hl : Addr} {th : Nat → Addr} {i : Nat} (hi : i < 2) : Mt hl th (th i) := by
  match i, hi with
  | 0, _ => exact .inr (.inl rfl)
  | 1, _ => exact .inr (.inr rfl)
theorem qw {hl : Addr} {th : Nat → Addr} {p : Addr} (h : Mt hl th p) : p = hl ∨ ∃ i, i < 2 ∧ p = th i := h.elim .inl fun h => .inr (h.elim (fun h => ⟨0, by decide, h⟩) fun h => ⟨1, by decide, h⟩)
theorem LS.deed {C : Addr} {H H1 : Hp} {bo tl hl cn kp : Addr} {rs th : Nat → Addr} {R : Nat → List Qr} {W : Nat → Addr → Prop} {ls : List (List Nat)} {hs ks : List V} {n : Nat} (h : LS C H bo tl hl cn kp rs th R W ls hs ks n) {s : Nat} (hs2 : s < 2) {r : Qr} {W' : Addr → Prop} (RR : RS C H1 (rs s) (R s ++ [r]) W') (fr : ∀ p, W' p → W s p ∨ H p = none) (kk : Kp (W s) H H1) (nr : r.a ≠ r.b) {v : V} (hv : QAt H1 v r) :
    ∃ vs, H1 (th s) = some (.lst vs) ∧ vs.length ≤ n ∧ LS C (upd H1 (th s) (.lst (vs ++ [v]))) bo tl hl cn kp rs th (fun i => if i = s then R s ++ [r] else R i) (fun i => if i = s then W' else W i) ls hs ks (n + 1) := by
  have lk : ∀ p xs, H p = some (.lst xs) → H1 p = some (.lst xs) := fun p xs z => kk _ _ z fun m => by
    obtain ⟨u, e, hu⟩ := (h.ts.rs s hs2).dict m
    rw [z] at e; cases e; cases hu
  have tk : ∀ p xs, H p = some (.tup xs) → H1 p = some (.tup xs) := fun p xs z => kk _ _ z fun m => by
    obtain ⟨u, e, hu⟩ := (h.ts.rs s hs2).dict m
    rw [z] at e; cases e; cases hu
  obtain ⟨vs, hv0, av⟩ := h.ts.th s hs2
  have hv1 := lk _ _ hv0
  have t2 : ∀ p xs, H1 p = some (.tup xs) → upd H1 (th s) (.lst (vs ++ [v])) p = some (.tup xs) := fun p xs z => (af (db z hv1 (fun q => nomatch q))).trans z
  have l2 : ∀ p xs, H1 p = some (.lst xs) → p ≠ th s → upd H1 (th s) (.lst (vs ++ [v])) p = some (.lst xs) := fun p xs z ne => (af ne).trans z
  have ku : ∀ {G : Hp} {ys : List V}, Kp (fun p => p = th s) G (upd G (th s) (.lst ys)) := fun p o z n => (af n).trans z
  refine ⟨vs, hv1, by rw [av.len]; exact (h.ts.ap s hs2).2, ⟨fun i hi => ?_, fun i hi => ?_, fun i hi => ?_⟩, fun p w0 w1 => ?_, l2 _ _ (lk _ _ h.fhl) (h.nh s hs2), h.nt, h.nh, h.lf.mv fun p xs z nm => l2 _ _ (lk _ _ z) (fun e => nm (e ▸ xC hs2)), h.lc, h.ok⟩
  · by_cases e : i = s
    · subst e
      simp only [if_true]
      exact RR.kp ku fun p hp => ⟨⟨_, hp ▸ hv1, .inr ⟨_, rfl⟩⟩, fun m => by obtain ⟨u, e, hu⟩ := RR.dict m; rw [hp, hv1] at e; cases e; cases hu⟩
    · simp only [if_neg e]
      have R1 : RS C H1 (rs i) (R i) (W i) := (h.ts.rs i hi).kp kk fun p hp => ⟨let ⟨u, e, hu⟩ := (h.ts.rs s hs2).dict hp; ⟨u, e, .inl hu⟩, dj2 h.dj hs2 hi (Ne.symm e) hp⟩
      exact R1.kp ku fun p hp => ⟨⟨_, hp ▸ hv1, .inr ⟨_, rfl⟩⟩, fun m => by obtain ⟨u, e, hu⟩ := R1.dict m; rw [hp, hv1] at e; cases e; cases hu⟩
  · obtain ⟨a1, a2⟩ := h.ts.ap i hi
    by_cases e : i = s
    · subst e
      simp only [if_true]
      refine ⟨fun z mz => ?_, by rw [List.length_append, List.length_singleton]; omega⟩
      rcases List.mem_append.mp mz with mz | mz
      · exact a1 z mz
      · rw [List.mem_singleton.mp mz]; exact nr
    · simp only [if_neg e]
      exact ⟨a1, by omega⟩
  · by_cases e : i = s
    · subst e
      simp only [if_true]
      exact ⟨_, ac, vA t2 ((vA tk av).snoc hv)⟩
    · simp only [if_neg e]
      obtain ⟨us, hu, au⟩ := h.ts.th i hi
      exact ⟨us, l2 _ _ (lk _ _ hu) (AA h.nt hi hs2 e), vA t2 (vA tk au)⟩
  · have go : ∀ {i j : Nat}, i < 2 → j < 2 → i ≠ j → i = s → W' p → W j p → False := fun {i j} hi hj ne es w w' => by
      subst es
      rcases fr p w with w | w
      · exact dj2 h.dj hi hj ne w w'
      · obtain ⟨u, e, _⟩ := (h.ts.rs j hj).dict w'
        rw [w] at e; cases e
    match s, hs2 with
    | 0, _ => exact go (i := 0) (j := 1) (by decide) (by decide) (by decide) rfl (by simpa using w0) (by simpa using w1)
    | 1, _ => exact go (i := 1) (j := 0) (by decide) (by decide) (by decide) rfl (by simpa using w1) (by simpa using w0)
theorem LS.up {C : Addr} {H : Hp} {bo tl hl cn kp : Addr} {rs th : Nat → Addr} {R : Nat → List Qr} {W : Nat → Addr → Prop} {ls : List (List Nat)} {hs ks : List V} {n : Nat} (h : LS C H bo tl hl cn kp rs th R W ls hs ks n) : LS C H bo tl hl cn kp rs th R W ls hs ks (n + 1) :=
  ⟨⟨h.ts.rs, fun i hi => ⟨(h.ts.ap i hi).1, Nat.le_succ_of_le (h.ts.ap i hi).2⟩, h.ts.th⟩, h.dj, h.fhl, h.nt, h.nh, h.lf, h.lc, h.ok⟩
theorem LS.listed {C : Addr} {H H' : Hp} {bo tl hl cn kp : Addr} {rs th : Nat → Addr} {R : Nat → List Qr} {W : Nat → Addr → Prop} {ls : List (List Nat)} {hs ks xs : List V} {n : Nat} (h : LS C H bo tl hl cn kp rs th R W ls hs ks n) (hk : ks.length ≤ hs.length) (hx : H' hl = some (.lst (hs ++ xs))) (hd : ∀ v ∈ xs, Hd H H' v) (kk : Kp (fun p => p = hl) H H') : LS C H' bo tl hl cn kp rs th R W ls (hs ++ xs) ks n := by
  have tk : ∀ p l, H p = some (.tup l) → H' p = some (.tup l) := fun p l z => kk _ _ z (db z h.fhl (fun q => nomatch q))
  have F := h.lf.mv (H' := H') fun p xs z nm => kk _ _ z fun e => nm (.inl e)
  refine ⟨⟨fun i hi => (h.ts.rs i hi).kp kk fun p hp => ⟨⟨_, hp ▸ h.fhl, .inr ⟨_, rfl⟩⟩, fun m => by obtain ⟨u, e, hu⟩ := (h.ts.rs i hi).dict m; rw [hp, h.fhl] at e; cases e; cases hu⟩, h.ts.ap, fun i hi => ?_⟩, h.dj, hx, h.nt, h.nh, ⟨F.fbo, F.ftl, F.fcn, F.fkp, F.nb, F.nt, F.nc, F.nk, fun v mv => ?_, ?_⟩, h.lc, h.ok⟩
  · obtain ⟨us, hu, au⟩ := h.ts.th i hi
    exact ⟨us, kk _ _ hu (Ne.symm (h.nh i hi)), vA tk au⟩
  · rcases List.mem_append.mp mv with mv | mv
    · exact F.hq v mv
    · obtain ⟨p, ys, rfl, n0, e1, e2, e3⟩ := hd v mv
      refine ⟨p, ys, rfl, e1, fun m => ?_, e2, e3⟩
      rcases qw m with rfl | ⟨i, hi, rfl⟩
      · rw [h.fhl] at n0; cases n0
      · obtain ⟨us, hu, _⟩ := h.ts.th i hi
        rw [hu] at n0; cases n0
  · rw [List.take_append_of_le_length hk]; exact F.pr
theorem yo {K : PySem.W.Frag} {H : Hp} {M : Addr → Prop} {hs ks : List V} {p q : Addr} (h : A2 (Pr H M) hs ks) (hp : H p = some (.lst hs)) (hq : H q = some (.lst ks)) : EqR K H p q true := by
  have hh := EqR.lst (K := K) (H := H) (e := fun _ => true) (SqL.of hp) (SqL.of hq) h.len fun j x y gx gy => by
    obtain ⟨y', gy', p1, q1, xs, rfl, rfl, ne, e1, e2, _, _, fl⟩ := h.at_ gx
    rw [gy] at gy'; cases gy'
    have h2 := EqH.lst (K := K) (H := H) (n := 49) (e := fun _ => true) ne (SqL.of e1) (SqL.of e2) rfl fun j x y gx gy => by
      rw [gx] at gy; cases gy
      rcases fl x (List.mem_of_getElem? gx) with ⟨z, rfl⟩ | ⟨l, rfl⟩
      · exact .same
      · have := EqH.flat (K := K) (H := H) (n := 49) (x := L2.T l) (y := L2.T l) rfl rfl
        rwa [show eqV (L2.T l) (L2.T l) = true by simp [eqV]] at this
    rwa [show (List.range xs.length).all (fun _ => true) = true by simp] at h2
  rwa [show (List.range hs.length).all (fun _ => true) = true by simp] at hh
end
section
variable {P : Program} {w : World} {K : PySem.W.Frag} {mg : Str → Option Value} {base : Heap} {a : Adr}
def AV : Stmt → List Stmt
  | .For _ _ b _ _ => b
  | _ => []
noncomputable abbrev kA : List Stmt := AV ((aw bX).getD 7 (.Pass ⟨0, 0, 0, 0⟩))
theorem nI {H H' : Hp} {p : Addr} {xs : List V} {M : Addr → Prop} (h : SqL K H p xs) (k : Kp M H H') (hm : M p → ∃ u, H p = some u ∧ isD u = true) : SqL K H' p xs := by
  rcases h with (h | ⟨o, h⟩) | h
  · exact .inl (.inl (k _ _ h fun m => by obtain ⟨u, e, hu⟩ := hm m; rw [h] at e; cases e; cases hu))
  · exact .inl (.inr ⟨o, k _ _ h fun m => by obtain ⟨u, e, hu⟩ := hm m; rw [h] at e; cases e; cases hu⟩)
  · exact .inr h
def CPr (H G : Hp) (M : Addr → Prop) (D : Addr) (v y : V) : Prop := ∃ p q xs, v = .ref p ∧ y = .ref q ∧ p ≠ q ∧ H p = some (.lst xs) ∧ G q = some (.lst xs) ∧ ¬ M p ∧ ¬ M q ∧ q ≠ D ∧ ∀ y ∈ xs, (∃ q, y = .ref q) ∨ ∃ l, y = L2.T l
def LIv (C : Addr) (K : PySem.W.Frag) (p : Addr) (ns : List Int) (bo tl hl cn : Addr) (rs th : Nat → Addr) (ls : List (List Nat)) (bs : Int) (n : Nat) (σ : St) (H : Hp) : Prop :=
  ∃ kp R W hs ks, ∃ dd : Int, ∃ x8 x9 x10 x11 x12 x13 x14 x15 x16 x17, LS C H bo tl hl cn kp rs th R W ls hs ks n ∧ ks.length = hs.length ∧ hs.length ≤ 4 * n ∧ SqL K H p (ns.map V.int) ∧
    σ = [some (.ref p), some (.ref cn), some (.int bs), some (.ref bo), some (.ref tl), some (.ref hl), some (.ref kp), some (.int dd), x8, x9, x10, x11, x12, x13, x14, x15, x16, x17]
theorem yI (T : Txt K mg a) {cdv : Value} {A : Around} {outer : List Env} {s : Shared} {H : Hp} {E : XK} (hr : Room 6 (A.deeper (PyProof.Rows.envOfC "law" (ad bX) s.heap.objs.size a.cI cdv))) : ∃ u, PSs (bZ (XE P w) P w K mg base ["_law_script", "_law_coins", "_law_base", "_law_both", "_law_told_here", "_law_held", "_law_kept", "_law_day", "_law_k", "_law_side", "_law_most", "_law_one", "_law_other", "_law_row", "_law_due_here", "_law_turn", "_law_good", "_law_which"] "law" (ad bX) a.cI cdv A outer s H E) (List.drop 15 kA) u ∧
    ∀ (D : dU) p ns bo tl hl cn rs th ls bs n kp R W hs ks (dd : Int) x8 x9 x10 x11 x12 x13 x14 x15 x16 x17 H1, LS a.aq H1 bo tl hl cn kp rs th R W ls hs ks n → ks.length ≤ hs.length → hs.length ≤ 4 * n → n ≤ 20 → SqL K H1 p (ns.map V.int) →
      (∀ σ' H', LIv a.aq K p ns bo tl hl cn rs th ls bs n σ' H' → D.nx σ' H') → u D [some (.ref p), some (.ref cn), some (.int bs), some (.ref bo), some (.ref tl), some (.ref hl), some (.ref kp), some (.int dd), x8, x9, x10, x11, x12, x13, x14, x15, x16, x17] H1 := by
  have sz : 1000 ≤ sizeLine := by rw [sizeLine_eq]; decide
  have ND := fI.nd
  have HU : (bZ (XE P w) P w K mg base ["_law_script", "_law_coins", "_law_base", "_law_both", "_law_told_here", "_law_held", "_law_kept", "_law_day", "_law_k", "_law_side", "_law_most", "_law_one", "_law_other", "_law_row", "_law_due_here", "_law_turn", "_law_good", "_law_which"] "law" (ad bX) a.cI cdv A outer s H E).A.units + 100 < cLine := bh hr
  have G__law_end_good := bx (P := P) (w := w) (base := base) T
  have b__law_end_good := bA T.aZ
  have G__law_listed := bV (P := P) (w := w) (base := base) T
  have b__law_listed := bW T.a_
  have G__law_pair_good := bK (P := P) (w := w) (base := base) T
  have b__law_pair_good := bH T.aQ
  have G__law_told := cP (P := P) (w := w) (base := base) T
  have b__law_told := cK T.cy
  have G__law_due := cZ (P := P) (w := w) (base := base) T
  have b__law_due := cY T.cJ
  have G__law_spoilt := cb (P := P) (w := w) (base := base) T
  have b__law_spoilt := cj T.bR
  have G_Rates___init__ := bi (P := P) (w := w) (base := base) T
  have b_Rates___init__ := bj T.ba
  have G__law_cell_at := bN (P := P) (w := w) (base := base) T
  have b__law_cell_at := bM T.aX
  have G__law_currency_by := aT (P := P) (w := w) (base := base) T
  have b__law_currency_by := aS T.aK
  refine ⟨_, (am (aI (i := 6) ND rfl (Or.inl rfl) (ay vk (fv 6) (ft rfl (cl := _) (x := "_law_some") (xs := ["_law_some"]) (fr := []) (ks := []) (by exact ⟨rfl, by decide +kernel, rfl, by decide +kernel, rfl, dN rfl, rfl, bz rfl, bz (k := fun y => List.lookup y _) rfl, dJ rfl⟩) rfl (fw K (pI (uZ K) (fv 5) (r6 (aA (fO K) rfl T.ko ik (FA.pa (aa (fv 6) ae)))) rY)) (fun _ _ _ _ _ => (aE (i := 0) (hE (l := ["_law_some"]) (by decide)) rfl (Or.inl rfl))) (fun _ _ _ _ _ => iM) (fun _ _ _ _ _ => (ji (wS K) rfl T.vg rJ (FA.pa (aa (fv 0) ae)))))))), fun D p ns bo tl hl cn rs th ls bs n kp R W hs ks dd x8 x9 x10 x11 x12 x13 x14 x15 x16 x17 H1 L lk lh ln hS k => ?_⟩
  walk_at "rd"
  refine xD ?_
  walk_at "rd"
  refine ⟨_, .inl (SqL.of L.lf.fkp), ?_⟩
  walk_at "rd"
  refine ⟨hl, hs, rfl, SqL.of L.fhl, fun sl hsl => ?_⟩
  have ec : pR hs (some (ks.length : Int)) none = hs.drop ks.length := by
    unfold pR
    rw [HT.sIx_none, HT.sIx_nat, Nat.min_eq_left lk]
    exact List.take_of_length_le (by rw [List.length_drop]; exact Nat.le_refl _)
  rw [ec]
  have s2 := aj (HO.lst (hs.drop ks.length)) hsl
  have h2 : upd H1 sl (HO.lst (hs.drop ks.length)) sl = some (HO.lst (hs.drop ks.length)) := ac
  generalize upd H1 sl (HO.lst (hs.drop ks.length)) = H2 at s2 h2 ⊢
  have L2 := L.same s2
  refine ⟨sl, rfl, ⟨_, SqL.of h2⟩, xH sl (hs.drop ks.length) (fun D' i ys G => Same H2 G ∧ H2 D' = none ∧ G D' = some (.lst ys) ∧ A2 (CPr H2 G (Mt hl th) D') ((hs.drop ks.length).take i) ys) (by rw [List.length_drop]; omega) (fun D' hD => ⟨aj _ hD, hD, ac, .nil⟩) (fun D' i ys G h => ⟨h.2.2.1, SqL.of (h.1 _ _ h2), ?_⟩) ?_ ?_⟩
  · rw [← h.2.2.2.len, List.length_take]; exact Nat.min_le_left _ _
  · rintro D' i y ys G zs N1 N0 hy ⟨sG, nD, hD, aG⟩ hz n1 n0
    obtain ⟨z1, rfl⟩ := ex1 hz
    obtain ⟨pp, xs, rfl, hx, nM, lx, fx⟩ := L2.lf.hq y (List.mem_of_mem_drop (List.mem_of_getElem? hy))
    walk_at "rd"
    refine ⟨⟨_, rfl, rfl⟩, xs, .inl (SqL.of (sG _ _ hx)), fun l hl1 => ?_⟩
    have s3 := aj (HO.lst xs) hl1
    have nl : l ≠ D' := Ne.symm (ak hD hl1)
    have mt : ∀ {q : Addr}, H2 q = none → ¬ Mt hl th q := fun {q} z m => by
      rcases qw m with rfl | ⟨i, hi, rfl⟩
      · rw [L2.fhl] at z; cases z
      · obtain ⟨us, hu, _⟩ := L2.ts.th i hi
        rw [hu] at z; cases z
    refine n1 _ _ (s3 _ _ hD) ⟨eQ (sG.trans s3) nD, nD, ac, ?_⟩
    rw [gN hy]
    refine A2.snoc (aG.imp fun v y _ _ ⟨p1, q1, xs1, e1, e2, e3, e4, e5, e6, e7, e8, e9⟩ => ⟨p1, q1, xs1, e1, e2, e3, e4, (af e8).trans (s3 _ _ e5), e6, e7, e8, e9⟩) ⟨pp, l, xs, rfl, rfl, ak (sG _ _ hx) hl1, hx, (af nl).trans ac, nM, mt (sG.free hl1), nl, fx⟩
  · rintro D' ys G ⟨sG, nD, hD, aG⟩
    rw [List.take_length] at aG
    walk_at "rd"
    have ly := aG.len
    rw [List.length_drop] at ly
    refine ⟨ks, ys, sG _ _ L2.lf.fkp, hD, by omega, fun kq hkq => ?_⟩
    have s3 := aj (HO.lst (ks ++ ys)) hkq
    have L3 := L2.same (sG.trans s3)
    have hk3 : upd G kq (HO.lst (ks ++ ys)) kq = some (HO.lst (ks ++ ys)) := ac
    have mt : ∀ {q : Addr}, G q = none → ¬ Mt hl th q := fun {q} z m => by
      rcases qw m with rfl | ⟨i, hi, rfl⟩
      · rw [sG _ _ L2.fhl] at z; cases z
      · obtain ⟨us, hu, _⟩ := L2.ts.th i hi
        rw [sG _ _ hu] at z; cases z
    have ll : (ks ++ ys).length = hs.length := by rw [List.length_append]; omega
    refine k _ _ ⟨kq, R, W, hs, ks ++ ys, dd, _, _, _, _, _, _, _, _, _, _, ⟨L3.ts, L3.dj, L3.fhl, L3.nt, L3.nh, ⟨L3.lf.fbo, L3.lf.ftl, L3.lf.fcn, hk3, L3.lf.nb, L3.lf.nt, L3.lf.nc, mt hkq, L3.lf.hq, ?_⟩, L3.lc, L3.ok⟩, ll, lh, hS.same (s2.trans (sG.trans s3)), rfl⟩
    rw [ll, List.take_length, ← List.take_append_drop ks.length hs]
    exact L3.lf.pr.app (aG.imp fun v y _ _ ⟨p1, q1, xs1, e1, e2, e3, e4, e5, e6, e7, e8, e9⟩ => ⟨p1, q1, xs1, e1, e2, e3, (sG.trans s3) _ _ e4, s3 _ _ e5, e6, e7, e9⟩)
theorem ze (T : Txt K mg a) {cdv : Value} {A : Around} {outer : List Env} {s : Shared} {H : Hp} {E : XK} (hr : Room 6 (A.deeper (PyProof.Rows.envOfC "law" (ad bX) s.heap.objs.size a.cI cdv))) : ∃ u, PSs (bZ (XE P w) P w K mg base ["_law_script", "_law_coins", "_law_base", "_law_both", "_law_told_here", "_law_held", "_law_kept", "_law_day", "_law_k", "_law_side", "_law_most", "_law_one", "_law_other", "_law_row", "_law_due_here", "_law_turn", "_law_good", "_law_which"] "law" (ad bX) a.cI cdv A outer s H E) (List.drop 14 kA) u ∧
    ∀ (D : dU) p ns bo tl hl cn rs th ls bs n kp R W hs ks (dd : Int) x8 (sd : Nat) x10 l l' x13 x14 (tn : Int) x16 x17 H1, sd < 2 → LS a.aq H1 bo tl hl cn kp rs th R W ls hs ks n → ks.length ≤ hs.length → hs.length + 2 ≤ 4 * n → n ≤ 20 → SqL K H1 p (ns.map V.int) → ((∀ H', SqL K H' p (ns.map V.int)) ∨ p ≠ hl) →
      (∀ σ' H', LIv a.aq K p ns bo tl hl cn rs th ls bs n σ' H' → D.nx σ' H') → u D [some (.ref p), some (.ref cn), some (.int bs), some (.ref bo), some (.ref tl), some (.ref hl), some (.ref kp), some (.int dd), x8, some (.int sd), x10, some (L2.T l), some (L2.T l'), x13, x14, some (.int tn), x16, x17] H1 := by
  have sz : 1000 ≤ sizeLine := by rw [sizeLine_eq]; decide
  have ND := fI.nd
  have HU : (bZ (XE P w) P w K mg base ["_law_script", "_law_coins", "_law_base", "_law_both", "_law_told_here", "_law_held", "_law_kept", "_law_day", "_law_k", "_law_side", "_law_most", "_law_one", "_law_other", "_law_row", "_law_due_here", "_law_turn", "_law_good", "_law_which"] "law" (ad bX) a.cI cdv A outer s H E).A.units + 100 < cLine := bh hr
  have G__law_end_good := bx (P := P) (w := w) (base := base) T
  have b__law_end_good := bA T.aZ
  have G__law_listed := bV (P := P) (w := w) (base := base) T
  have b__law_listed := bW T.a_
  have G__law_pair_good := bK (P := P) (w := w) (base := base) T
  have b__law_pair_good := bH T.aQ
  have G__law_told := cP (P := P) (w := w) (base := base) T
  have b__law_told := cK T.cy
  have G__law_due := cZ (P := P) (w := w) (base := base) T
  have b__law_due := cY T.cJ
  have G__law_spoilt := cb (P := P) (w := w) (base := base) T
  have b__law_spoilt := cj T.bR
  have G_Rates___init__ := bi (P := P) (w := w) (base := base) T
  have b_Rates___init__ := bj T.ba
  have G__law_cell_at := bN (P := P) (w := w) (base := base) T
  have b__law_cell_at := bM T.aX
  have G__law_currency_by := aT (P := P) (w := w) (base := base) T
  have b__law_currency_by := aS T.aK
  obtain ⟨u15, hu15, k15⟩ := yI (P := P) (w := w) (base := base) T (cdv := cdv) (A := A) (outer := outer) (s := s) (H := H) (E := E) hr
  refine ⟨_, (ah (cf (L2.PW.pt (lg (bB (cX K HU) (ay ce (ay eB (fv 15) ag) ag) ag (bb _)) (iU (cC (ck (az G__law_listed (hr.mono (by decide)) rfl T.fb T.a_.kp b__law_listed .nil bw (FA.pa (aa (ar (ao K) (fv 3) (fv 9) (fun _ _ => rfl)) (aa (ar (ao K) (fv 4) (fv 9) (fun _ _ => rfl)) (aa (fv 5) (aa (fv 15) ae))))))))))) (am (aC cT)) aV)
      hu15), fun D p ns bo tl hl cn rs th ls bs n kp R W hs ks dd x8 sd x10 l l' x13 x14 tn x16 x17 H1 hsd L lk lh ln hS nph k => ?_⟩
  walk_at "rd"
  by_cases ht : tn / 2 % 3 = 1
  · refine itp ht ⟨_, _, .inl (SqL.of L.lf.fbo), aB (pk2 hsd), _, _, .inl (SqL.of L.lf.ftl), aB (pk2 hsd), ?_⟩
    obtain ⟨vs, hv, av⟩ := L.ts.th sd hsd
    obtain ⟨a1, a2⟩ := L.ts.ap sd hsd
    refine ⟨R sd, W sd, vs, hs, L.ts.rs sd hsd, a1, by omega, hv, av, L.nh sd hsd, L.fhl, by omega, fun xs H2 h2 lx hd K2 => ?_⟩
    exact k15 D p ns bo tl hl cn rs th ls bs n kp R W (hs ++ xs) ks dd _ _ _ _ _ _ _ _ _ _ H2 (L.listed lk h2 hd K2) (by rw [List.length_append]; omega) (by rw [List.length_append]; omega) ln (nph.elim (fun h => h _) fun n => nI hS K2 fun z => absurd z n) k
  · exact itn ht (k15 D p ns bo tl hl cn rs th ls bs n kp R W hs ks dd _ _ _ _ _ _ _ _ _ _ H1 L lk (by omega) ln hS k)
theorem yH (T : Txt K mg a) {cdv : Value} {A : Around} {outer : List Env} {s : Shared} {H : Hp} {E : XK} (hr : Room 6 (A.deeper (PyProof.Rows.envOfC "law" (ad bX) s.heap.objs.size a.cI cdv))) : ∃ u, PSs (bZ (XE P w) P w K mg base ["_law_script", "_law_coins", "_law_base", "_law_both", "_law_told_here", "_law_held", "_law_kept", "_law_day", "_law_k", "_law_side", "_law_most", "_law_one", "_law_other", "_law_row", "_law_due_here", "_law_turn", "_law_good", "_law_which"] "law" (ad bX) a.cI cdv A outer s H E) (List.drop 13 kA) u ∧
    ∀ (D : dU) p ns bo tl hl cn rs th ls bs n kp R W hs ks (dd : Int) x8 (sd : Nat) x10 l l' x13 x14 (tn : Int) x16 x17 H1, sd < 2 → LS a.aq H1 bo tl hl cn kp rs th R W ls hs ks n → ks.length ≤ hs.length → hs.length + 2 ≤ 4 * n → n ≤ 20 → SqL K H1 p (ns.map V.int) → ((∀ H', SqL K H' p (ns.map V.int)) ∨ p ≠ hl) →
      (∀ σ' H', LIv a.aq K p ns bo tl hl cn rs th ls bs n σ' H' → D.nx σ' H') → u D [some (.ref p), some (.ref cn), some (.int bs), some (.ref bo), some (.ref tl), some (.ref hl), some (.ref kp), some (.int dd), x8, some (.int sd), x10, some (L2.T l), some (L2.T l'), x13, x14, some (.int tn), x16, x17] H1 := by
  have sz : 1000 ≤ sizeLine := by rw [sizeLine_eq]; decide
  have ND := fI.nd
  have HU : (bZ (XE P w) P w K mg base ["_law_script", "_law_coins", "_law_base", "_law_both", "_law_told_here", "_law_held", "_law_kept", "_law_day", "_law_k", "_law_side", "_law_most", "_law_one", "_law_other", "_law_row", "_law_due_here", "_law_turn", "_law_good", "_law_which"] "law" (ad bX) a.cI cdv A outer s H E).A.units + 100 < cLine := bh hr
  have G__law_end_good := bx (P := P) (w := w) (base := base) T
  have b__law_end_good := bA T.aZ
  have G__law_listed := bV (P := P) (w := w) (base := base) T
  have b__law_listed := bW T.a_
  have G__law_pair_good := bK (P := P) (w := w) (base := base) T
  have b__law_pair_good := bH T.aQ
  have G__law_told := cP (P := P) (w := w) (base := base) T
  have b__law_told := cK T.cy
  have G__law_due := cZ (P := P) (w := w) (base := base) T
  have b__law_due := cY T.cJ
  have G__law_spoilt := cb (P := P) (w := w) (base := base) T
  have b__law_spoilt := cj T.bR
  have G_Rates___init__ := bi (P := P) (w := w) (base := base) T
  have b_Rates___init__ := bj T.ba
  have G__law_cell_at := bN (P := P) (w := w) (base := base) T
  have b__law_cell_at := bM T.aX
  have G__law_currency_by := aT (P := P) (w := w) (base := base) T
  have b__law_currency_by := aS T.aK
  obtain ⟨u14, hu14, k14⟩ := ze (P := P) (w := w) (base := base) T (cdv := cdv) (A := A) (outer := outer) (s := s) (H := H) (E := E) hr
  refine ⟨_, (ah (e_ (by passes_own) rfl (gP rfl T.iK (FA.pa (aa ag ae))) (aE (i := 17) ND rfl (Or.inl rfl)) (am (cf (cC (ck (az G__law_pair_good (hr.mono (by decide)) rfl T.fq T.aQ.kp b__law_pair_good .nil bw (FA.pa (aa (ar (ao K) (fv 3) (fv 17) (fun _ _ => rfl)) (aa (ar (ao K) (fv 4) (fv 17) (fun _ _ => rfl)) (aa (fv 11) (aa (fv 12) (aa (fv 7) ae))))))))) (am (aC cT)) aV)))
      hu14), fun D p ns bo tl hl cn rs th ls bs n kp R W hs ks dd x8 sd x10 l l' x13 x14 tn x16 x17 H1 hsd L lk lh ln hS nph k => ?_⟩
  walk_at "rd"
  refine px ?_
  walk_at "rd"
  refine mP (lo := 0) (n := 2) (fun i σ' G => Same H1 G ∧ ∃ x17, σ' = [some (.ref p), some (.ref cn), some (.int bs), some (.ref bo), some (.ref tl), some (.ref hl), some (.ref kp), some (.int dd), x8, some (.int sd), x10, some (L2.T l), some (L2.T l'), x13, x14, some (.int tn), x16, x17]) ⟨Same.refl _, _, rfl⟩ ?_ ?_
  · rintro i σ' G hi ⟨sm, x17, rfl⟩
    have L1 := L.same sm
    obtain ⟨vs, hv, av⟩ := L1.ts.th i hi
    obtain ⟨a1, a2⟩ := L1.ts.ap i hi
    walk_at "rd"
    refine ⟨_, _, .inl (SqL.of L1.lf.fbo), by rw [Int.zero_add]; exact aB (pk2 hi), _, _, .inl (SqL.of L1.lf.ftl), by rw [Int.zero_add]; exact aB (pk2 hi), ?_⟩
    refine ⟨R i, W i, vs, L1.ts.rs i hi, a1, by omega, hv, av, fun H2 s2 => ?_⟩
    walk_at "rd"
    exact ⟨sm.trans s2, _, rfl⟩
  · rintro σ' G ⟨sm, x17, rfl⟩
    exact k14 D p ns bo tl hl cn rs th ls bs n kp R W hs ks dd _ sd _ l l' _ _ tn _ _ G hsd (L.same sm) lk lh ln (hS.same sm) nph k
theorem y9 (T : Txt K mg a) {cdv : Value} {A : Around} {outer : List Env} {s : Shared} {H : Hp} {E : XK} (hr : Room 6 (A.deeper (PyProof.Rows.envOfC "law" (ad bX) s.heap.objs.size a.cI cdv))) : ∃ u, PSs (bZ (XE P w) P w K mg base ["_law_script", "_law_coins", "_law_base", "_law_both", "_law_told_here", "_law_held", "_law_kept", "_law_day", "_law_k", "_law_side", "_law_most", "_law_one", "_law_other", "_law_row", "_law_due_here", "_law_turn", "_law_good", "_law_which"] "law" (ad bX) a.cI cdv A outer s H E) (List.drop 12 kA) u ∧
    ∀ (D : dU) p ns bo tl hl cn rs th ls bs n kp R W hs ks (dd : Int) x8 (sd : Nat) x10 l l' x13 x14 (tn : Int) x16 x17 H1, sd < 2 → LS a.aq H1 bo tl hl cn kp rs th R W ls hs ks n → ks.length ≤ hs.length → hs.length + 4 ≤ 4 * n → n ≤ 20 → SqL K H1 p (ns.map V.int) → ((∀ H', SqL K H' p (ns.map V.int)) ∨ p ≠ hl) →
      (∀ σ' H', LIv a.aq K p ns bo tl hl cn rs th ls bs n σ' H' → D.nx σ' H') → u D [some (.ref p), some (.ref cn), some (.int bs), some (.ref bo), some (.ref tl), some (.ref hl), some (.ref kp), some (.int dd), x8, some (.int sd), x10, some (L2.T l), some (L2.T l'), x13, x14, some (.int tn), x16, x17] H1 := by
  have sz : 1000 ≤ sizeLine := by rw [sizeLine_eq]; decide
  have ND := fI.nd
  have HU : (bZ (XE P w) P w K mg base ["_law_script", "_law_coins", "_law_base", "_law_both", "_law_told_here", "_law_held", "_law_kept", "_law_day", "_law_k", "_law_side", "_law_most", "_law_one", "_law_other", "_law_row", "_law_due_here", "_law_turn", "_law_good", "_law_which"] "law" (ad bX) a.cI cdv A outer s H E).A.units + 100 < cLine := bh hr
  have G__law_end_good := bx (P := P) (w := w) (base := base) T
  have b__law_end_good := bA T.aZ
  have G__law_listed := bV (P := P) (w := w) (base := base) T
  have b__law_listed := bW T.a_
  have G__law_pair_good := bK (P := P) (w := w) (base := base) T
  have b__law_pair_good := bH T.aQ
  have G__law_told := cP (P := P) (w := w) (base := base) T
  have b__law_told := cK T.cy
  have G__law_due := cZ (P := P) (w := w) (base := base) T
  have b__law_due := cY T.cJ
  have G__law_spoilt := cb (P := P) (w := w) (base := base) T
  have b__law_spoilt := cj T.bR
  have G_Rates___init__ := bi (P := P) (w := w) (base := base) T
  have b_Rates___init__ := bj T.ba
  have G__law_cell_at := bN (P := P) (w := w) (base := base) T
  have b__law_cell_at := bM T.aX
  have G__law_currency_by := aT (P := P) (w := w) (base := base) T
  have b__law_currency_by := aS T.aK
  obtain ⟨u13, hu13, k13⟩ := yH (P := P) (w := w) (base := base) T (cdv := cdv) (A := A) (outer := outer) (s := s) (H := H) (E := E) hr
  refine ⟨_, (ah (cf (L2.PW.pt (lg (bB (cX K HU) (ay ce (ay eB (fv 15) ag) ag) ag (bb _)) (iU (cC (ck (az G__law_listed (hr.mono (by decide)) rfl T.fb T.a_.kp b__law_listed .nil bw (FA.pa (aa (ar (ao K) (fv 3) (fv 9) (fun _ _ => rfl)) (aa (ar (ao K) (fv 4) (fv 9) (fun _ _ => rfl)) (aa (fv 5) (aa (fv 15) ae))))))))))) (am (aC cT)) aV)
      hu13), fun D p ns bo tl hl cn rs th ls bs n kp R W hs ks dd x8 sd x10 l l' x13 x14 tn x16 x17 H1 hsd L lk lh ln hS nph k => ?_⟩
  walk_at "rd"
  by_cases ht : tn / 2 % 3 = 0
  · refine itp ht ⟨_, _, .inl (SqL.of L.lf.fbo), aB (pk2 hsd), _, _, .inl (SqL.of L.lf.ftl), aB (pk2 hsd), ?_⟩
    obtain ⟨vs, hv, av⟩ := L.ts.th sd hsd
    obtain ⟨a1, a2⟩ := L.ts.ap sd hsd
    refine ⟨R sd, W sd, vs, hs, L.ts.rs sd hsd, a1, by omega, hv, av, L.nh sd hsd, L.fhl, by omega, fun xs H2 h2 lx hd K2 => ?_⟩
    exact k13 D p ns bo tl hl cn rs th ls bs n kp R W (hs ++ xs) ks dd _ sd _ l l' _ _ tn _ _ H2 hsd (L.listed lk h2 hd K2) (by rw [List.length_append]; omega) (by rw [List.length_append]; omega) ln (nph.elim (fun h => h _) fun n => nI hS K2 fun z => absurd z n) nph k
  · exact itn ht (k13 D p ns bo tl hl cn rs th ls bs n kp R W hs ks dd _ sd _ l l' _ _ tn _ _ H1 hsd L lk (by omega) ln hS nph k)
end
section
variable {P : Program} {w : World} {K : PySem.W.Frag} {mg : Str → Option Value} {base : Heap} {a : Adr}
theorem du0 {d o p u q : V} (h : du d o p u q = 0) : d = .int (toI d) ∧ o = L2.T (toT o) ∧ p = .int (toI p) ∧ u = L2.T (toT u) ∧ q = .int (toI q) ∧ toT o ≠ toT u := by
  unfold du at h
  split at h
  · rename_i h1
    split at h
    · rename_i h2
      split at h
      · rename_i h3
        have e2 := fE h2.1
        have e4 := fE h2.2.1
        refine ⟨gR h1, e2, gR h3.1, e4, gR h3.2, fun e => ?_⟩
        have z := h2.2.2
        rw [e2, e4, e] at z
        have : sB (L2.T (toT u)) (L2.T (toT u)) = true := decide_eq_true rfl
        rw [this] at z; cases z
      · cases h
    · cases h
  · cases h
theorem eF {ns : List Int} {k j : Nat} (h : k + j < ns.length) : ∃ m : Int, atI (ns.map V.int) ((k : Int) + (j : Int)) = some (.int m) :=
  ⟨ns[k + j], by rw [show (k : Int) + (j : Int) = ((k + j : Nat) : Int) by omega]; exact aB (by rw [List.getElem?_map, List.getElem?_eq_getElem h]; rfl)⟩
theorem zP (T : Txt K mg a) {cdv : Value} {A : Around} {outer : List Env} {s : Shared} {H : Hp} {E : XK} (hr : Room 6 (A.deeper (PyProof.Rows.envOfC "law" (ad bX) s.heap.objs.size a.cI cdv))) : ∃ z, PSs (bZ (XE P w) P w K mg base ["_law_script", "_law_coins", "_law_base", "_law_both", "_law_told_here", "_law_held", "_law_kept", "_law_day", "_law_k", "_law_side", "_law_most", "_law_one", "_law_other", "_law_row", "_law_due_here", "_law_turn", "_law_good", "_law_which"] "law" (ad bX) a.cI cdv A outer s H E) (List.drop 10 kA) z ∧
    ∀ (D : dU) ps ns bo tl hl cn rs th ls bs n kp R W hs ks (dd : Int) (kk sd : Nat) x10 l l' t d o p u q (x14 x15 x16 x17 : Option V) (tn : Int) H1, sd < 2 → kk + 3 < ns.length → LS a.aq H1 bo tl hl cn kp rs th R W ls hs ks n → ks.length = hs.length → hs.length ≤ 4 * n → n ≤ 18 → SqL K H1 ps (ns.map V.int) → ((∀ H', SqL K H' ps (ns.map V.int)) ∨ ¬ Mt hl th ps) →
      H1 t = some (.tup [d, o, p, u, q]) → Tg H1 d → Tg H1 o → Tg H1 p → Tg H1 u → Tg H1 q →
      (∀ σ' H', LIv a.aq K ps ns bo tl hl cn rs th ls bs (n + 1) σ' H' → D.nx σ' H') → z D [some (.ref ps), some (.ref cn), some (.int bs), some (.ref bo), some (.ref tl), some (.ref hl), some (.ref kp), some (.int dd), some (.int kk), some (.int sd), x10, some (L2.T l), some (L2.T l'), some (.ref t), some (L2.T (wDu (du d o p u q))), some (.int tn), some (.bl true), x17] H1 := by
  have sz : 1000 ≤ sizeLine := by rw [sizeLine_eq]; decide
  have ND := fI.nd
  have HU : (bZ (XE P w) P w K mg base ["_law_script", "_law_coins", "_law_base", "_law_both", "_law_told_here", "_law_held", "_law_kept", "_law_day", "_law_k", "_law_side", "_law_most", "_law_one", "_law_other", "_law_row", "_law_due_here", "_law_turn", "_law_good", "_law_which"] "law" (ad bX) a.cI cdv A outer s H E).A.units + 100 < cLine := bh hr
  have G__law_end_good := bx (P := P) (w := w) (base := base) T
  have b__law_end_good := bA T.aZ
  have G__law_listed := bV (P := P) (w := w) (base := base) T
  have b__law_listed := bW T.a_
  have G__law_pair_good := bK (P := P) (w := w) (base := base) T
  have b__law_pair_good := bH T.aQ
  have G__law_told := cP (P := P) (w := w) (base := base) T
  have b__law_told := cK T.cy
  have G__law_due := cZ (P := P) (w := w) (base := base) T
  have b__law_due := cY T.cJ
  have G__law_spoilt := cb (P := P) (w := w) (base := base) T
  have b__law_spoilt := cj T.bR
  have G_Rates___init__ := bi (P := P) (w := w) (base := base) T
  have b_Rates___init__ := bj T.ba
  have G__law_cell_at := bN (P := P) (w := w) (base := base) T
  have b__law_cell_at := bM T.aX
  have G__law_currency_by := aT (P := P) (w := w) (base := base) T
  have b__law_currency_by := aS T.aK
  obtain ⟨u12, hu12, k12⟩ := y9 (P := P) (w := w) (base := base) T (cdv := cdv) (A := A) (outer := outer) (s := s) (H := H) (E := E) hr
  refine ⟨_, (ah (cf (L2.PW.pt (fj (cC (ck (fv 16))) (eP (bB (iA K HU) (az G__law_told (hr.mono (by decide)) rfl T.qa T.cy.kp b__law_told .nil bw (FA.pa (aa (ar (ao K) (fv 3) (fv 9) (fun _ _ => rfl)) (aa (fv 13) ae)))) (fv 14) (bb _))))) (am (aC cT)) aV)
      (ah (cf (bB (cX K HU) (fv 14) (be []) (bb _)) (am (eT (iz K PySem.F.plainAttrs_list PySem.F.slot_list_append PySem.F.type_list_append fH (ar (ao K) (fv 4) (fv 9) (fun _ _ => rfl)) (FA.pa (aa (fv 13) ae))))) aV)
      hu12)), fun D ps ns bo tl hl cn rs th ls bs n kp R W hs ks dd kk sd x10 l l' t d o p u q x14 x15 x16 x17 tn H1 hsd hkk L lk lh ln hS nm ht Td To Tp Tu Tq k => ?_⟩
  obtain ⟨a1, a2⟩ := L.ts.ap sd hsd
  walk_at "rd"
  refine ⟨_, _, .inl (SqL.of L.lf.fbo), aB (pk2 hsd), ?_⟩
  refine ⟨d, o, p, u, q, ht, Td, To, Tp, Tu, Tq, R sd, W sd, L.ts.rs sd hsd, by omega, fun hne H2 s2 => ?_, fun h0 W' H2 RR hf KK => ?_⟩
  · have nz : ¬ wDu (du d o p u q) = [] := by
      have h3 : du d o p u q = 1 ∨ du d o p u q = 2 ∨ du d o p u q = 3 := by
        have : du d o p u q ≤ 3 := by unfold du; split <;> (try split) <;> (try split) <;> decide
        omega
      rcases h3 with e | e | e <;> rw [e] <;> decide
    refine itp rfl (itn nz ?_)
    exact k12 D ps ns bo tl hl cn rs th ls bs (n + 1) kp R W hs ks dd _ sd _ l l' _ _ tn _ _ H2 hsd (L.same s2).up (by omega) (by omega) (by omega) (hS.same s2) (nm.imp id fun n z => n (.inl z)) k
  · have lk2 : ∀ p xs, H1 p = some (.lst xs) → H2 p = some (.lst xs) := fun p xs z => KK _ _ z fun m => by
      obtain ⟨u, e, hu⟩ := (L.ts.rs sd hsd).dict m
      rw [z] at e; cases e; cases hu
    have tk2 : ∀ p xs, H1 p = some (.tup xs) → H2 p = some (.tup xs) := fun p xs z => KK _ _ z fun m => by
      obtain ⟨u, e, hu⟩ := (L.ts.rs sd hsd).dict m
      rw [z] at e; cases e; cases hu
    rw [h0]
    refine itp rfl (itp rfl ⟨_, _, .inl (SqL.of (lk2 _ _ L.lf.ftl)), aB (pk2 hsd), ?_⟩)
    obtain ⟨g1, g2, g3, g4, g5, g6⟩ := du0 h0
    have hq : QAt H2 (.ref t) (rM d o p u q) := ⟨t, rfl, by
      have := tk2 _ _ ht
      rw [g1, g2, g3, g4, g5] at this; exact this⟩
    obtain ⟨vs, hv, lv, L3⟩ := L.deed hsd RR hf KK g6 hq
    walk_at "rd"
    refine ⟨.inl ⟨_, SqL.of hv⟩, th sd, vs, _, rfl, rfl, hv, by omega, ?_⟩
    have hS2 := nI hS KK fun m => (L.ts.rs sd hsd).dict m
    have hS3 : SqL K (upd H2 (th sd) (.lst (vs ++ [.ref t]))) ps (ns.map V.int) := nm.elim (fun h => h _) fun nm => nI (M := fun p => p = th sd) hS2 (fun p o z n => (af n).trans z) fun z => absurd (z ▸ xC hsd) nm
    exact k12 D ps ns bo tl hl cn rs th ls bs (n + 1) kp _ _ hs ks dd _ sd _ l l' _ _ tn _ _ _ hsd L3 (by omega) (by omega) (by omega) hS3 (nm.imp id fun n z => n (.inl z)) k
theorem Ao (T : Txt K mg a) {cdv : Value} {A : Around} {outer : List Env} {s : Shared} {H : Hp} {E : XK} (hr : Room 6 (A.deeper (PyProof.Rows.envOfC "law" (ad bX) s.heap.objs.size a.cI cdv))) : ∃ z, PSs (bZ (XE P w) P w K mg base ["_law_script", "_law_coins", "_law_base", "_law_both", "_law_told_here", "_law_held", "_law_kept", "_law_day", "_law_k", "_law_side", "_law_most", "_law_one", "_law_other", "_law_row", "_law_due_here", "_law_turn", "_law_good", "_law_which"] "law" (ad bX) a.cI cdv A outer s H E) (List.drop 7 kA) z ∧
    ∀ (D : dU) ps ns bo tl hl cn rs th ls bs n kp R W hs ks (dd : Int) (kk sd : Nat) x10 l l' t d o p u q (x14 x15 x16 x17 : Option V) (tn : Int) H1, sd < 2 → kk + 3 < ns.length → LS a.aq H1 bo tl hl cn kp rs th R W ls hs ks n → ks.length = hs.length → hs.length ≤ 4 * n → n ≤ 18 → SqL K H1 ps (ns.map V.int) → ((∀ H', SqL K H' ps (ns.map V.int)) ∨ ¬ Mt hl th ps) →
      H1 t = some (.tup [d, o, p, u, q]) → Tg H1 d → Tg H1 o → Tg H1 p → Tg H1 u → Tg H1 q →
      (∀ σ' H', LIv a.aq K ps ns bo tl hl cn rs th ls bs (n + 1) σ' H' → D.nx σ' H') → z D [some (.ref ps), some (.ref cn), some (.int bs), some (.ref bo), some (.ref tl), some (.ref hl), some (.ref kp), some (.int dd), some (.int kk), some (.int sd), x10, some (L2.T l), some (L2.T l'), some (.ref t), x14, x15, x16, x17] H1 := by
  have sz : 1000 ≤ sizeLine := by rw [sizeLine_eq]; decide
  have ND := fI.nd
  have HU : (bZ (XE P w) P w K mg base ["_law_script", "_law_coins", "_law_base", "_law_both", "_law_told_here", "_law_held", "_law_kept", "_law_day", "_law_k", "_law_side", "_law_most", "_law_one", "_law_other", "_law_row", "_law_due_here", "_law_turn", "_law_good", "_law_which"] "law" (ad bX) a.cI cdv A outer s H E).A.units + 100 < cLine := bh hr
  have G__law_end_good := bx (P := P) (w := w) (base := base) T
  have b__law_end_good := bA T.aZ
  have G__law_listed := bV (P := P) (w := w) (base := base) T
  have b__law_listed := bW T.a_
  have G__law_pair_good := bK (P := P) (w := w) (base := base) T
  have b__law_pair_good := bH T.aQ
  have G__law_told := cP (P := P) (w := w) (base := base) T
  have b__law_told := cK T.cy
  have G__law_due := cZ (P := P) (w := w) (base := base) T
  have b__law_due := cY T.cJ
  have G__law_spoilt := cb (P := P) (w := w) (base := base) T
  have b__law_spoilt := cj T.bR
  have G_Rates___init__ := bi (P := P) (w := w) (base := base) T
  have b_Rates___init__ := bj T.ba
  have G__law_cell_at := bN (P := P) (w := w) (base := base) T
  have b__law_cell_at := bM T.aX
  have G__law_currency_by := aT (P := P) (w := w) (base := base) T
  have b__law_currency_by := aS T.aK
  obtain ⟨u10, hu10, k10⟩ := zP (P := P) (w := w) (base := base) T (cdv := cdv) (A := A) (outer := outer) (s := s) (H := H) (E := E) hr
  refine ⟨_, (ah (aI (i := 14) ND rfl (Or.inl rfl) (az G__law_due (hr.mono (by decide)) rfl T.qI T.cJ.kp b__law_due .nil bw (FA.pa (aa (fv 13) ae))))
      (ah (aI (i := 15) ND rfl (Or.inl rfl) (ay cq (ay eB (ar (ao K) (fv 0) (ay cq (fv 8) ag) (fun _ _ => rfl)) ag) (ay eB (ar (ao K) (fv 0) (ay cq (fv 8) ag) (fun _ _ => rfl)) ag)))
      (ah (aI (i := 16) ND rfl (Or.inl rfl) (xL (iH Ad (ay ce (fv 15) ag) ag (bb _)) (gC (az G__law_pair_good (hr.mono (by decide)) rfl T.fq T.aQ.kp b__law_pair_good .nil bw (FA.pa (aa (ar (ao K) (fv 3) (fv 9) (fun _ _ => rfl)) (aa (ar (ao K) (fv 4) (fv 9) (fun _ _ => rfl)) (aa (fv 11) (aa (fv 12) (aa (fv 7) ae))))))))))
      hu10))), fun D ps ns bo tl hl cn rs th ls bs n kp R W hs ks dd kk sd x10 l l' t d o p u q x14 x15 x16 x17 tn H1 hsd hkk L lk lh ln hS nm ht Td To Tp Tu Tq k => ?_⟩
  walk_at "rd"
  refine ⟨d, o, p, u, q, ht, Td, To, Tp, Tu, Tq, fun H2 s2 => ?_⟩
  obtain ⟨m2, e2⟩ := eF (ns := ns) (k := kk) (j := 2) (by omega)
  obtain ⟨m3, e3⟩ := eF (ns := ns) (k := kk) (j := 3) hkk
  have hS2 := hS.same s2
  have LL := L.same s2
  refine ⟨_, _, .inl hS2, e2, ?_⟩
  walk_at "rd"
  refine ⟨_, _, .inl hS2, e3, ?_⟩
  walk_at "rd"
  have fin : ∀ H3, Same H2 H3 → u10 D [some (.ref ps), some (.ref cn), some (.int bs), some (.ref bo), some (.ref tl), some (.ref hl), some (.ref kp), some (.int dd), some (.int kk), some (.int sd), x10, some (L2.T l), some (L2.T l'), some (.ref t), some (L2.T (wDu (du d o p u q))), some (.int (m2 / 3 + m3 / 5)), some (.bl true), x17] H3 := fun H3 s3 => by
    have s23 := s2.trans s3
    exact k10 D ps ns bo tl hl cn rs th ls bs n kp R W hs ks dd kk sd x10 l l' t d o p u q none none none x17 _ H3 hsd hkk (L.same s23) lk lh ln (hS.same s23) nm (s23 _ _ ht) (Td.same s23) (To.same s23) (Tp.same s23) (Tu.same s23) (Tq.same s23) k
  by_cases h0 : 0 < (m2 / 3 + m3 / 5) % 3
  · exact itp h0 (fin _ (Same.refl _))
  · obtain ⟨vs, hv, av⟩ := LL.ts.th sd hsd
    obtain ⟨a1, a2⟩ := LL.ts.ap sd hsd
    exact itn h0 ⟨_, _, .inl (SqL.of LL.lf.fbo), aB (pk2 hsd), _, _, .inl (SqL.of LL.lf.ftl), aB (pk2 hsd), R sd, W sd, vs, LL.ts.rs sd hsd, a1, by omega, hv, av, fun H3 s3 => fin H3 s3⟩
theorem AH (T : Txt K mg a) {cdv : Value} {A : Around} {outer : List Env} {s : Shared} {H : Hp} {E : XK} (hr : Room 6 (A.deeper (PyProof.Rows.envOfC "law" (ad bX) s.heap.objs.size a.cI cdv))) : ∃ z, PSs (bZ (XE P w) P w K mg base ["_law_script", "_law_coins", "_law_base", "_law_both", "_law_told_here", "_law_held", "_law_kept", "_law_day", "_law_k", "_law_side", "_law_most", "_law_one", "_law_other", "_law_row", "_law_due_here", "_law_turn", "_law_good", "_law_which"] "law" (ad bX) a.cI cdv A outer s H E) kA z ∧
    ∀ (D : dU) ps ns bo tl hl cn rs th ls bs n kp R W hs ks (dd : Int) (kk : Nat) x9 x10 x11 x12 x13 x14 x15 x16 x17 H1, kk + 3 < ns.length → LS a.aq H1 bo tl hl cn kp rs th R W ls hs ks n → ks.length = hs.length → hs.length ≤ 4 * n → n ≤ 18 → SqL K H1 ps (ns.map V.int) → ((∀ H', SqL K H' ps (ns.map V.int)) ∨ ¬ Mt hl th ps) →
      (∀ σ' H', LIv a.aq K ps ns bo tl hl cn rs th ls bs (n + 1) σ' H' → D.nx σ' H') → z D [some (.ref ps), some (.ref cn), some (.int bs), some (.ref bo), some (.ref tl), some (.ref hl), some (.ref kp), some (.int dd), some (.int kk), x9, x10, x11, x12, x13, x14, x15, x16, x17] H1 := by
  have sz : 1000 ≤ sizeLine := by rw [sizeLine_eq]; decide
  have ND := fI.nd
  have HU : (bZ (XE P w) P w K mg base ["_law_script", "_law_coins", "_law_base", "_law_both", "_law_told_here", "_law_held", "_law_kept", "_law_day", "_law_k", "_law_side", "_law_most", "_law_one", "_law_other", "_law_row", "_law_due_here", "_law_turn", "_law_good", "_law_which"] "law" (ad bX) a.cI cdv A outer s H E).A.units + 100 < cLine := bh hr
  have G__law_end_good := bx (P := P) (w := w) (base := base) T
  have b__law_end_good := bA T.aZ
  have G__law_listed := bV (P := P) (w := w) (base := base) T
  have b__law_listed := bW T.a_
  have G__law_pair_good := bK (P := P) (w := w) (base := base) T
  have b__law_pair_good := bH T.aQ
  have G__law_told := cP (P := P) (w := w) (base := base) T
  have b__law_told := cK T.cy
  have G__law_due := cZ (P := P) (w := w) (base := base) T
  have b__law_due := cY T.cJ
  have G__law_spoilt := cb (P := P) (w := w) (base := base) T
  have b__law_spoilt := cj T.bR
  have G_Rates___init__ := bi (P := P) (w := w) (base := base) T
  have b_Rates___init__ := bj T.ba
  have G__law_cell_at := bN (P := P) (w := w) (base := base) T
  have b__law_cell_at := bM T.aX
  have G__law_currency_by := aT (P := P) (w := w) (base := base) T
  have b__law_currency_by := aS T.aK
  obtain ⟨u7, hu7, k7⟩ := Ao (P := P) (w := w) (base := base) T (cdv := cdv) (A := A) (outer := outer) (s := s) (H := H) (E := E) hr
  refine ⟨_, (ah (aI (i := 9) ND rfl (Or.inl rfl) (ay ce (ar (ao K) (fv 0) (fv 8) (fun _ _ => rfl)) ag))
      (ah (aI (i := 7) ND rfl (Or.inl rfl) (aA (vd rfl) rfl T.ue qu (FA.pa (aa ag (aa (ay cq (fv 2) (ay ce (ar (ao K) (fv 0) (ay cq (fv 8) ag) (fun _ _ => rfl)) ag)) ae)))))
      (ah (aI (i := 10) ND rfl (Or.inl rfl) (ar (ao K) (bY (FA.pa (aa ag (aa (ay im ag ag) ae)))) (ay ce (ay eB (ar (ao K) (fv 0) (ay cq (fv 8) ag) (fun _ _ => rfl)) ag) ag) (fun _ _ => rfl)))
      (ah (aI (i := 11) ND rfl (Or.inl rfl) (ar (ao K) (fv 1) (ay ce (ay eB (ar (ao K) (fv 0) (fv 8) (fun _ _ => rfl)) ag) ag) (fun _ _ => rfl)))
      (ah (aI (i := 12) ND rfl (Or.inl rfl) (ar (ao K) (fv 1) (ay ce (ay eB (ar (ao K) (fv 0) (fv 8) (fun _ _ => rfl)) ag) ag) (fun _ _ => rfl)))
      (ah (aI (i := 13) ND rfl (Or.inl rfl) (b8 (FA.pa (aa (fv 7) (aa (fv 11) (aa (ay cq ag (ay ce (ar (ao K) (fv 0) (ay cq (fv 8) ag) (fun _ _ => rfl)) (fv 10))) (aa (fv 12) (aa (ay cq ag (ay ce (ar (ao K) (fv 0) (ay cq (fv 8) ag) (fun _ _ => rfl)) (fv 10))) ae))))))))
      (ah (cf (bB (cX K HU) (ay ce (ay eB (ar (ao K) (fv 0) (fv 8) (fun _ _ => rfl)) ag) ag) ag (bb _)) (am (aI (i := 13) ND rfl (Or.inl rfl) (az G__law_spoilt (hr.mono (by decide)) rfl T.lK T.bR.kp b__law_spoilt .nil bw (FA.pa (aa (fv 13) (aa (ar (ao K) (fv 0) (ay cq (fv 8) ag) (fun _ _ => rfl)) (aa (ar (ao K) (fv 0) (ay cq (fv 8) ag) (fun _ _ => rfl)) ae))))))) aV)
      hu7))))))), fun D ps ns bo tl hl cn rs th ls bs n kp R W hs ks dd kk x9 x10 x11 x12 x13 x14 x15 x16 x17 H1 hkk L lk lh ln hS nm k => ?_⟩
  obtain ⟨m0, e0⟩ := eF (ns := ns) (k := kk) (j := 0) (by omega)
  obtain ⟨m1, e1⟩ := eF (ns := ns) (k := kk) (j := 1) (by omega)
  obtain ⟨m2, e2⟩ := eF (ns := ns) (k := kk) (j := 2) (by omega)
  obtain ⟨m3, e3⟩ := eF (ns := ns) (k := kk) (j := 3) hkk
  have e0 : atI (ns.map V.int) (kk : Int) = some (.int m0) := by have := e0; rwa [show (kk : Int) + ((0 : Nat) : Int) = kk by omega] at this
  obtain ⟨sd, hsd, es⟩ : ∃ sd : Nat, sd < 2 ∧ m0 % 2 = (sd : Int) := ⟨(m0 % 2).toNat, by omega, by omega⟩
  walk_at "rd"
  refine ⟨_, _, .inl hS, e0, ?_⟩
  walk_at "rd"
  rw [es]
  refine ⟨_, _, .inl hS, e1, ?_⟩
  walk_at "rd"
  refine ⟨by decide, by walk_at "om", fun q1 h1 => ?_⟩
  obtain ⟨G1, eG1, c1, f1⟩ := dA (HO.lst [V.int 20, V.int (10 ^ Int.toNat 9)]) h1
  rw [eG1]
  refine ⟨_, _, .inl (hS.same c1), e1, ?_⟩
  walk_at "rd"
  obtain ⟨v, av, mo, rfl, hmo⟩ := kf (P := fun v => ∃ mo : Int, v = .int mo ∧ 0 < mo) (xs := [V.int 20, V.int (10 ^ Int.toNat 9)]) (fun x mx => by
    rcases List.mem_cons.mp mx with rfl | mx
    · exact ⟨20, rfl, by decide⟩
    · rw [List.mem_singleton.mp mx]; exact ⟨_, rfl, by decide⟩) (i := m1 / 12 % 2) (by omega) (by show _ < (2 : Int); omega)
  refine ⟨_, _, .inl (SqL.of f1), av, _, _, .inl (hS.same c1), e0, ?_⟩
  walk_at "rd"
  have L1 := L.same c1
  have lc := L.lc
  have coin : ∀ i : Int, 0 ≤ i → i < 6 → ∃ l, atI (ls.map L2.T) i = some (L2.T l) ∧ ok l := fun i h0 h1 => by
    obtain ⟨v, av, l, rfl, hl⟩ := kf (P := fun v => ∃ l, v = L2.T l ∧ ok l) (xs := ls.map L2.T) (fun x mx => by
      obtain ⟨l, ml, rfl⟩ := List.mem_map.mp mx
      exact ⟨l, rfl, L.ok l ml⟩) h0 (by rw [List.length_map]; omega)
    exact ⟨l, av, hl⟩
  obtain ⟨l, al, ol⟩ := coin (m0 / 2 % 5) (by omega) (by omega)
  obtain ⟨l', al', ol'⟩ := coin (m0 / 10 % 5) (by omega) (by omega)
  refine ⟨_, _, .inl (SqL.of L1.lf.fcn), al, _, _, .inl (hS.same c1), e0, ?_⟩
  walk_at "rd"
  refine ⟨_, _, .inl (SqL.of L1.lf.fcn), al', _, _, .inl (hS.same c1), e2, ?_⟩
  walk_at "rd"
  refine ⟨hmo, _, _, .inl (hS.same c1), e3, ?_⟩
  walk_at "rd"
  refine ⟨hmo, by walk_at "om", fun q2 h2 => ?_⟩
  obtain ⟨G2, eG2, c2, f2⟩ := dA (HO.tup [V.int (if bs + m1 % 12 < 146096 then bs + m1 % 12 else 146096), L2.T l, V.int (1 + m2 % mo), L2.T l', V.int (1 + m3 % mo)]) h2
  rw [eG2]
  have s2 := c1.trans c2
  refine ⟨_, _, .inl (hS.same s2), e0, ?_⟩
  walk_at "rd"
  by_cases h9 : m0 / 50 % 9 = 1
  · refine itp h9 ⟨_, _, .inl (hS.same s2), e2, _, _, .inl (hS.same s2), e3, ?_⟩
    walk_at "rd"
    refine ⟨_, _, _, _, _, f2, dy, kU ol, dy, kU ol', dy, fun t d o p u q H3 ht Td To Tp Tu Tq s3 => ?_⟩
    have s4 := s2.trans s3
    exact k7 D ps ns bo tl hl cn rs th ls bs n kp R W hs ks _ kk sd _ l l' t d o p u q _ _ _ _ 0 H3 hsd hkk (L.same s4) lk lh ln (hS.same s4) nm ht Td To Tp Tu Tq k
  · exact itn h9 (k7 D ps ns bo tl hl cn rs th ls bs n kp R W hs ks _ kk sd _ l l' q2 _ _ _ _ _ _ _ _ _ 0 G2 hsd hkk (L.same s2) lk lh ln (hS.same s2) nm f2 dy (kU ol) dy (kU ol') dy k)
end
section
variable {P : Program} {w : World} {K : PySem.W.Frag} {mg : Str → Option Value} {base : Heap} {a : Adr}
theorem tL {ta : TA} {g : TG} {tb : L2.TS} {D : dU} {σ : St} {H : Hp} (h : ta σ H fun vs H1 => ∃ i j c : Int, vs = [.int i, .int j, .int c] ∧ (0 ≤ i ∧ i < 1000000 ∧ -1000000 ≤ j ∧ j < 1000000 ∧ 1 ≤ c ∧ c < 1000000) ∧ FE (qM i c (rsz i j c)) g tb D σ H1) : lH (ud ta) g tb D σ H := h
theorem Aa {ta : TA} {n : Nat} {g : TG} {ks : List Nat} {tt : TT} {te : TE} {σ : St} {H : Hp} {Q : VK} (h : ta σ H fun vs H1 => ∃ j : Int, vs = [.int j] ∧ -(2 ^ 62) ≤ j ∧ j < 2 ^ 62 ∧ CEl (Itr 0 j.toNat) n g ks tt te σ H1 Q) : dS (rN ta) n g ks tt te σ H Q := h
theorem Aw {n : Nat} {g : TG} {ks : List Nat} {tt : TT} {te : TE} {σ : St} {H1 : Hp} {Q : VK} (m : Nat) (P : Addr → Nat → List V → Hp → Prop) (hz : m < sizeLine)
    (h0 : ∀ D, H1 D = none → P D 0 [] (upd H1 D (.lst []))) (hD : ∀ D i ys H', P D i ys H' → H' D = some (.lst ys) ∧ ys.length ≤ i)
    (hs : ∀ D i ys H' (zs : St) (N1 : VK) (N0 : Hp → Prop), i < m → P D i ys H' → zs.length = n → (∀ v H6, H6 D = some (.lst ys) → P D (i + 1) (ys ++ [v]) (upd H6 D (.lst (ys ++ [v]))) → N1 v H6) → (∀ H6, P D (i + 1) ys H6 → N0 H6) →
      g (.int (0 + i)) (zs ++ ks.map fun k => (σ[k]?).join) H' fun σ4 H4 => (∃ zs4 : St, zs4.length = n ∧ σ4 = zs4 ++ ks.map fun k => (σ[k]?).join) ∧ tt σ4 H4 fun b H5 => if b = true then te σ4 H5 N1 else N0 H5)
    (hd : ∀ D ys H', P D m ys H' → Q (.ref D) H') : CEl (Itr 0 m) n g ks tt te σ H1 Q := by
  intro D hDn
  refine ⟨fun i k ys H' => k = m - i ∧ i ≤ m ∧ P D i ys H', ⟨_, rfl, Nat.zero_le _, h0 D hDn⟩, ?_⟩
  rintro i k ys H' ⟨rfl, hi, p⟩
  obtain ⟨d1, d3⟩ := hD D i ys H' p
  refine ⟨d1, ?_⟩
  rcases Nat.lt_or_ge i m with lt | ge
  · refine .inr ⟨lt, ?_⟩
    rintro x H3 ⟨rfl, rfl⟩ zs hzs
    exact hs D i ys _ zs _ _ lt p hzs (fun v H6 h6 p6 => ⟨h6, by omega, _, by omega, rfl, lt, p6⟩) fun H6 p6 => ⟨_, by omega, rfl, lt, p6⟩
  · obtain rfl : i = m := Nat.le_antisymm hi ge
    exact .inl ⟨Nat.le_refl _, hd D ys H' p⟩
def sp_law (K : PySem.W.Frag) : Sp := sp1 fun x H Q _ => asR x fun p => ∃ ns : List Int, SqL K H p (ns.map V.int) ∧ ns.length ≤ 63 ∧ ∀ H', Q (.bl true) H'
theorem zl (T : Txt K mg a) : cz P w K mg base (XE P w) 7 a.cI a.uu ["_law_script"] (sp_law K) := by
  refine T.AE.okX fI (fun vs H Q E h => sp1.len h) (fun cdv A outer s H vs Q E hr h => ?_)
  obtain ⟨x0, rfl, h⟩ := sp1.inv h
  try dsimp only [sp_law, sp1] at h
  have ND := fI.nd
  have HU : (bZ (XE P w) P w K mg base ["_law_script", "_law_coins", "_law_base", "_law_both", "_law_told_here", "_law_held", "_law_kept", "_law_day", "_law_k", "_law_side", "_law_most", "_law_one", "_law_other", "_law_row", "_law_due_here", "_law_turn", "_law_good", "_law_which"] "law" (ad bX) a.cI cdv A outer s H E).A.units + 100 < cLine := bh hr
  obtain ⟨p, rfl, ns, hS, lns, k⟩ := asR.inv h
  have sz : 1000 ≤ sizeLine := by rw [sizeLine_eq]; decide
  have G__law_end_good := bx (P := P) (w := w) (base := base) T
  have b__law_end_good := bA T.aZ
  have G_Rates___init__ := bi (P := P) (w := w) (base := base) T
  have b_Rates___init__ := bj T.ba
  have G__law_cell_at := bN (P := P) (w := w) (base := base) T
  have b__law_cell_at := bM T.aX
  have G__law_currency_by := aT (P := P) (w := w) (base := base) T
  have b__law_currency_by := aS T.aK
  obtain ⟨ub, hub, kb⟩ := AH (P := P) (w := w) (base := base) T (cdv := cdv) (A := A) (outer := outer) (s := s) (H := H) (E := E) hr
  have t7 : ∃ z, PSs (bZ (XE P w) P w K mg base ["_law_script", "_law_coins", "_law_base", "_law_both", "_law_told_here", "_law_held", "_law_kept", "_law_day", "_law_k", "_law_side", "_law_most", "_law_one", "_law_other", "_law_row", "_law_due_here", "_law_turn", "_law_good", "_law_which"] "law" (ad bX) a.cI cdv A outer s H E) (List.drop 7 (aw bX)) z ∧ ∀ bo tl hl cn rs th ls bs kp W (dd : Int) x8 x9 x10 x11 x12 x13 x14 x15 x16 x17 H1, LS a.aq H1 bo tl hl cn kp rs th (fun _ => []) W ls [] [] 0 → SqL K H1 p (ns.map V.int) → ((∀ H', SqL K H' p (ns.map V.int)) ∨ ¬ Mt hl th p) →
      z { nx := fun _ H' => Q .non H', rt := Q } [some (.ref p), some (.ref cn), some (.int bs), some (.ref bo), some (.ref tl), some (.ref hl), some (.ref kp), some (.int dd), x8, x9, x10, x11, x12, x13, x14, x15, x16, x17] H1 := by
    refine ⟨_, (ah (e_ (by passes_own) rfl (qt rfl T.iK (FA.pa (aa ag (aa (ay uq (aA (fO K) rfl T.ko ik (FA.pa (aa (fv 0) ae))) ag) (aa ag ae))))) (aE (i := 8) ND rfl (Or.inl rfl)) hub)
      (am (aC (gr (az G__law_end_good (hr.mono (by decide)) rfl T.jM T.aZ.kp b__law_end_good .nil bw (FA.pa (aa (fv 3) (aa (fv 4) (aa (fv 1) (aa (fv 7) ae)))))) (gC (iH (cX K HU) (fv 5) (fv 6) (bb _))))))), fun bo tl hl cn rs th ls bs kp W dd x8 x9 x10 x11 x12 x13 x14 x15 x16 x17 H1 L hS1 nm => ?_⟩
    walk_at "rd"
    refine tL ?_
    walk_at "rd"
    have lm : (ns.map V.int).length = ns.length := List.length_map ..
    refine ⟨ns.map V.int, .inl hS1, 2, _, 4, ⟨rfl, rfl, rfl⟩, ⟨by decide, by decide, by omega, by omega, by decide, by decide⟩, ?_⟩
    rw [lm]
    have rz : ∀ i : Nat, i < rsz 2 ((ns.length : Int) - 3) 4 → 2 + i * 4 + 3 < ns.length := fun i hi => by
      unfold rsz at hi
      split at hi
      · omega
      · omega
    have rl : rsz 2 ((ns.length : Int) - 3) 4 ≤ 18 := by
      unfold rsz
      split <;> omega
    refine qW (fun i σ' G => LIv a.aq K p ns bo tl hl cn rs th ls bs i σ' G) ⟨kp, _, W, [], [], dd, _, _, _, _, _, _, _, _, _, _, L, rfl, Nat.zero_le _, hS1, rfl⟩ ?_ ?_
    · rintro i σ' G hi ⟨kp, R, W, hs, ks, dd, x8, x9, x10, x11, x12, x13, x14, x15, x16, x17, L, lk, lh, hS2, rfl⟩
      have e : (2 : Int) + (i : Int) * 4 = ((2 + i * 4 : Nat) : Int) := by omega
      rw [e]
      walk_at "rd"
      exact kb _ p ns bo tl hl cn rs th ls bs i kp R W hs ks dd (2 + i * 4) _ _ _ _ _ _ _ _ _ G (rz i hi) L lk lh (by omega) hS2 nm fun _ _ h => h
    · rintro σ' G ⟨kp, R, W, hs, ks, dd, x8, x9, x10, x11, x12, x13, x14, x15, x16, x17, L, lk, lh, hS2, rfl⟩
      walk_at "rd"
      refine ⟨rs, th, R, W, ls, ⟨L.ts.rs, fun i hi => ⟨(L.ts.ap i hi).1, by have := (L.ts.ap i hi).2; omega⟩, L.ts.th⟩, L.lf.fbo, L.lf.ftl, L.lf.fcn, by rw [L.lc]; decide, fun H2 s2 => ?_⟩
      have LL := L.same s2
      have pr := LL.lf.pr
      rw [lk, List.take_length] at pr
      walk_at "rd"
      exact ⟨true, yo pr LL.fhl LL.lf.fkp, k _⟩
  obtain ⟨z7, hz7, k7⟩ := t7
  refine ⟨_, (ah (iX (i0 := 1) ND rfl (Or.inl rfl) rfl (cl := _) (x := "_law_k") (xs := ["_law_k"]) (fr := ["_law_script"]) (ks := [0]) (by exact ⟨rfl, by decide +kernel, rfl, by decide +kernel, rfl, dN rfl, rfl, bz rfl, bz (k := fun y => List.lookup y _) rfl, dJ rfl⟩) rfl (gP rfl T.iK (FA.pa (aa ag ae))) (fun _ _ _ _ _ => (aE (i := 0) (hE (l := ["_law_k", "_law_script"]) (by decide)) rfl (Or.inl rfl))) (fun _ _ _ _ _ => iM) (fun _ _ _ _ _ => (az G__law_currency_by (hr.mono (by decide)) rfl T.ig T.aK.kp b__law_currency_by .nil sq (FA.pa (aa (az G__law_cell_at (hr.mono (by decide)) rfl T.gK T.aX.kp b__law_cell_at .nil sq (FA.pa (aa (fv 1) (aa ag ae)))) (aa (fv 0) ae))))))
      (ah (aI (i := 2) ND rfl (Or.inl rfl) (ay ce (az G__law_cell_at (hr.mono (by decide)) rfl T.gK T.aX.kp b__law_cell_at .nil bw (FA.pa (aa (fv 0) (aa ag ae)))) ag))
      (ah (aI (i := 3) ND rfl (Or.inl rfl) (bY (FA.pa (aa (mI T.pM G_Rates___init__ (hr.mono (by decide)) rfl T.rB b_Rates___init__ .nil bw) (aa (mI T.pM G_Rates___init__ (hr.mono (by decide)) rfl T.rB b_Rates___init__ .nil bw) ae)))))
      (ah (aI (i := 4) ND rfl (Or.inl rfl) (bY (FA.pa (aa (bY (FA.pa ae)) (aa (bY (FA.pa ae)) ae)))))
      (ah (aI (i := 5) ND rfl (Or.inl rfl) (bY (FA.pa ae)))
      (ah (aI (i := 6) ND rfl (Or.inl rfl) (bY (FA.pa ae)))
      (ah (aI (i := 7) ND rfl (Or.inl rfl) (fv 2))
      hz7))))))), ?_⟩
  walk_at "rd"
  refine Aa ?_
  walk_at "rd"
  refine Aw 6 (fun D i ys G => Same H G ∧ G D = some (.lst ys) ∧ H D = none ∧ ∃ ls : List (List Nat), ls.length = i ∧ (∀ l ∈ ls, ok l) ∧ ys = ls.map L2.T) (by omega) (fun D hD => ⟨aj _ hD, ac, hD, [], rfl, (fun _ z => nomatch z), rfl⟩) (fun D i ys G h => ⟨h.2.1, ?_⟩) ?_ ?_
  · obtain ⟨_, _, _, ls, e1, _, rfl⟩ := h
    rw [List.length_map, e1]; exact Nat.le_refl _
  · rintro D i ys G zs N1 N0 hi ⟨sG, hD, nD, ls, e1, e2, rfl⟩ hz n1 n0
    obtain ⟨z1, rfl⟩ := ex1 hz
    walk_at "rd"
    refine ⟨⟨[some (V.int (0 + (i : Int)))], rfl, rfl⟩, ns, hS.same sG, lns, by omega, fun l H2 ol s2 => ?_⟩
    refine n1 _ _ (s2 _ _ hD) ⟨eQ (sG.trans s2) nD, ac, nD, ls ++ [l], by rw [List.length_append, e1]; rfl, fun z mz => ?_, by rw [List.map_append]; rfl⟩
    rcases List.mem_append.mp mz with mz | mz
    · exact e2 z mz
    · rw [List.mem_singleton.mp mz]; exact ol
  · rintro cn ys G0 ⟨s0, hcn, _, ls, lls, ols, rfl⟩
    walk_at "rd"
    refine ⟨ns, hS.same s0, lns, fun bs x dx nx ndx nxd => ⟨dx, ac, fun W0 H2 RA0 fw0 K0 x' dx' nx' ndx' nxd' => ⟨dx', ac, fun W1 H3 RA1 fw1 K1 => ⟨by walk_at "om", fun bo hbo => ?_⟩⟩⟩⟩
    have S2 : Same G0 H2 := fun q o z => K0 q o ((af (ak z nx)).trans ((af (ak z ndx)).trans z)) (ak z nx)
    have S3 : Same H2 H3 := fun q o z => K1 q o ((af (ak z nx')).trans ((af (ak z ndx')).trans z)) (ak z nx')
    have RB0 := RA0.same S3
    have f1 : ∀ q, W1 q → H2 q = none := fun q hq => by
      have := fw1 q hq
      by_cases e : q = x'
      · rw [e]; exact nx'
      · rw [af e] at this
        by_cases e' : q = dx'
        · rw [e']; exact ndx'
        · rwa [af e'] at this
    have dj : ∀ q, W0 q → ¬ W1 q := fun q h0 h1 => by
      obtain ⟨u, e, _⟩ := RA0.dict h0
      rw [f1 q h1] at e; cases e
    clear K0 K1 fw0 fw1 RA0
    have S4 := S2.trans S3
    obtain ⟨G1, g1, c1, b1⟩ := dA (HO.lst [V.ref x, V.ref x']) hbo
    rw [g1]
    refine ⟨Nat.zero_le _, fun t0 h0 => ?_⟩
    obtain ⟨G2, g2, c2, b2⟩ := dA (HO.lst []) h0
    rw [g2]
    refine ⟨Nat.zero_le _, fun t1 h1 => ?_⟩
    obtain ⟨G3, g3, c3, b3⟩ := dA (HO.lst []) h1
    rw [g3]
    refine ⟨by walk_at "om", fun tl htl => ?_⟩
    obtain ⟨G4, g4, c4, b4⟩ := dA (HO.lst [V.ref t0, V.ref t1]) htl
    rw [g4]
    refine ⟨Nat.zero_le _, fun hl hhl => ?_⟩
    obtain ⟨G5, g5, c5, b5⟩ := dA (HO.lst []) hhl
    rw [g5]
    refine ⟨Nat.zero_le _, fun kp hkp => ?_⟩
    obtain ⟨G6, g6, c6, b6⟩ := dA (HO.lst []) hkp
    rw [g6]
    have d5 := c6
    have d4 := c5.trans d5
    have d3 := c4.trans d4
    have d2 := c3.trans d3
    have d1 := c2.trans d2
    have d0 := c1.trans d1
    have n01 : t0 ≠ t1 := ak b2 h1
    have nt0 : ∀ {q : Addr}, G1 q ≠ none → q ≠ t0 := fun z e => z (e ▸ h0)
    have nt1 : ∀ {q : Addr}, G2 q ≠ none → q ≠ t1 := fun z e => z (e ▸ h1)
    have nhl : ∀ {q : Addr}, G4 q ≠ none → q ≠ hl := fun z e => z (e ▸ hhl)
    have sm : ∀ {q : Addr} {o : HO} {G : Hp}, G q = some o → G q ≠ none := fun z e => by rw [z] at e; cases e
    have old : ∀ {q : Addr} {o : HO}, G1 q = some o → ¬ Mt hl (fun i => if i = 0 then t0 else t1) q := fun z m => m.elim (nhl (sm ((c2.trans (c3.trans c4)) _ _ z))) fun m => m.elim (nt0 (sm z)) (nt1 (sm (c2 _ _ z)))
    have ntl : ¬ Mt hl (fun i => if i = 0 then t0 else t1) tl := fun m => m.elim (nhl (sm b4)) fun m => m.elim (Ne.symm (ak (c3 _ _ b2) htl)) (Ne.symm (ak b3 htl))
    have nkp : ¬ Mt hl (fun i => if i = 0 then t0 else t1) kp := fun m => m.elim (Ne.symm (ak b5 hkp)) fun m => m.elim (Ne.symm (ak ((c3.trans (c4.trans c5)) _ _ b2) hkp)) (Ne.symm (ak ((c4.trans c5) _ _ b3) hkp))
    have hSp := hS.same (s0.trans (S4.trans c1))
    have npm : (∀ H', SqL K H' p (ns.map V.int)) ∨ ¬ Mt hl (fun i => if i = 0 then t0 else t1) p := by
      rcases hSp with (z | ⟨o, z⟩) | z
      · exact .inr (old z)
      · exact .inr (old z)
      · exact .inl fun _ => .inr z
    refine k7 bo tl hl cn (fun i => if i = 0 then x else x') (fun i => if i = 0 then t0 else t1) ls (bs % 146097) kp (fun i => if i = 0 then W0 else W1) _ _ _ _ _ _ _ _ _ _ _ G6 ⟨⟨fun i hi => ?_, fun i hi => ⟨(fun _ z => nomatch z), Nat.zero_le _⟩, fun i hi => ?_⟩, dj, d5 _ _ b5, n01, fun i hi => ?_, ⟨d1 _ _ b1, d4 _ _ b4, (S4.trans d0) _ _ hcn, b6, old b1, ntl, old ((S4.trans c1) _ _ hcn), nkp, (fun _ z => nomatch z), .nil⟩, lls, ols⟩ (hS.same (s0.trans (S4.trans d0))) npm
    · have ev : RS a.aq G6 (if i = 0 then x else x') [] (if i = 0 then W0 else W1) := by
        match i, hi with
        | 0, _ => exact (RB0.same d0).cg (fun _ _ _ _ => rfl) fun z => ⟨fun q => q.elim, fun ⟨_, m, _⟩ => (nomatch m)⟩
        | 1, _ => exact (RA1.same d0).cg (fun _ _ _ _ => rfl) fun z => ⟨fun q => q.elim, fun ⟨_, m, _⟩ => (nomatch m)⟩
      exact ev
    · match i, hi with
      | 0, _ => exact ⟨[], d2 _ _ b2, .nil⟩
      | 1, _ => exact ⟨[], d3 _ _ b3, .nil⟩
    · match i, hi with
      | 0, _ => exact Ne.symm (nhl (sm ((c3.trans c4) _ _ b2)))
      | 1, _ => exact Ne.symm (nhl (sm (c4 _ _ b3)))
theorem law_starts {K : PySem.W.Frag} {H : Hp} {p : Addr} {ns : List Int} (hO : uv H) (hS : SqL K H p (ns.map V.int)) (hl : ns.length ≤ 63) : sp_law K [.ref p] H (fun v _ => v = .bl true) (fun _ _ _ => False) := ⟨ns, hS, hl, fun _ => rfl⟩
end
noncomputable abbrev fnQ (x q : String) (s : Stmt) (kV dc pm : Value) (an : Option Addr) (cd ct : Value) : FuncData := PySem.W.fnOf x q (aH s) (aw s) (ad s) .none kV dc pm an cd ct
open PySem.W in
theorem all_mk {l : OpenLaw} {w : World} {K : Frag} {h : Heap} {mg : Str → Option Value} {fa : Addr} (X : K.In h) (G : h.Ns mainGlobals mg) (hfa : mg "law" = some (.ref fa))
 {C0 C1 C2 C3 C4 C5 : Addr}
 {f0 f1 f2 f3 f4 f5 f6 f7 f8 f9 f10 f11 f12 f13 f14 f15 f16 f17 f18 f19 f20 f21 f22 f23 f24 f25 f26 f27 f28 f29 : Addr} {od0 od1 od2 od3 od4 od5 od6 od7 od8 od9 od10 od11 od12 od13 od14 od15 od16 od17 od18 od19 od20 od21 od22 od23 od24 od25 od26 od27 od28 od29 an0 an1 an2 an3 an4 an5 an6 an7 an8 an9 an10 an11 an12 an13 an14 an15 an16 an17 an18 an19 an20 an21 an22 an23 an24 an25 an26 an27 an28 an29 : Option Addr} {sl0 sl1 sl2 sl3 sl4 sl5 sl6 sl7 sl8 sl9 sl10 sl11 sl12 sl13 sl14 sl15 sl16 sl17 sl18 sl19 sl20 sl21 sl22 sl23 sl24 sl25 sl26 sl27 sl28 sl29 : Array (Option Value)} {oc0 oc1 oc2 oc3 oc4 oc5 oc6 oc7 oc8 oc9 oc10 oc11 oc12 oc13 oc14 oc15 oc16 oc17 oc18 oc19 oc20 oc21 oc22 oc23 oc24 oc25 oc26 oc27 oc28 oc29 kV0 kV1 kV2 kV3 kV4 kV5 kV6 kV7 kV8 kV9 kV10 kV11 kV12 kV13 kV14 kV15 kV16 kV17 kV18 kV19 kV20 kV21 kV22 kV23 kV24 kV25 kV26 kV27 kV28 kV29 dc0 dc1 dc2 dc3 dc4 dc5 dc6 dc7 dc8 dc9 dc10 dc11 dc12 dc13 dc14 dc15 dc16 dc17 dc18 dc19 dc20 dc21 dc22 dc23 dc24 dc25 dc26 dc27 dc28 dc29 pm0 pm1 pm2 pm3 pm4 pm5 pm6 pm7 pm8 pm9 pm10 pm11 pm12 pm13 pm14 pm15 pm16 pm17 pm18 pm19 pm20 pm21 pm22 pm23 pm24 pm25 pm26 pm27 pm28 pm29 cd0 cd1 cd2 cd3 cd4 cd5 cd6 cd7 cd8 cd9 cd10 cd11 cd12 cd13 cd14 cd15 cd16 cd17 cd18 cd19 cd20 cd21 cd22 cd23 cd24 cd25 cd26 cd27 cd28 cd29 ct0 ct1 ct2 ct3 ct4 ct5 ct6 ct7 ct8 ct9 ct10 ct11 ct12 ct13 ct14 ct15 ct16 ct17 ct18 ct19 ct20 ct21 ct22 ct23 ct24 ct25 ct26 ct27 ct28 ct29 : Value}
 {cl0 : ClassData}
 {cl1 : ClassData}
 {cl2 : ClassData}
 {cl3 : ClassData}
 {cl4 : ClassData}
 (p0 : nsIn K mainGlobals "HouseError" = some (some (.ref C0)))
 (p1 : nsIn K mainGlobals "BadDay" = some (some (.ref C1)))
 (p2 : nsIn K mainGlobals "BadCurrency" = some (some (.ref C2)))
 (p3 : nsIn K mainGlobals "BadRate" = some (some (.ref C3)))
 (p4 : nsIn K mainGlobals "NoRate" = some (some (.ref C4)))
 (p5 : nsIn K mainGlobals "Rates" = some (some (.ref C5)))
 (a0 : nsIn K mainGlobals "is_whole" = some (some (.ref f0)))
 (l0 : K.lookup f0 = some ⟨oc0, od0, .func (fnQ "is_whole" "is_whole" cN kV0 dc0 pm0 an0 cd0 ct0), sl0⟩) (c0 : codeIn K cd0 "is_whole" = true) (k0 : keepIn K (.ref f0) = true)
 (a1 : nsIn K mainGlobals "is_among" = some (some (.ref f1)))
 (l1 : K.lookup f1 = some ⟨oc1, od1, .func (fnQ "is_among" "is_among" cO kV1 dc1 pm1 an1 cd1 ct1), sl1⟩) (c1 : codeIn K cd1 "is_among" = true) (k1 : keepIn K (.ref f1) = true)
 (a2 : nsIn K mainGlobals "signs_lie" = some (some (.ref f2)))
 (l2 : K.lookup f2 = some ⟨oc2, od2, .func (fnQ "signs_lie" "signs_lie" cB kV2 dc2 pm2 an2 cd2 ct2), sl2⟩) (c2 : codeIn K cd2 "signs_lie" = true) (k2 : keepIn K (.ref f2) = true)
 (a3 : nsIn K mainGlobals "is_day" = some (some (.ref f3)))
 (l3 : K.lookup f3 = some ⟨oc3, od3, .func (fnQ "is_day" "is_day" dz kV3 dc3 pm3 an3 cd3 ct3), sl3⟩) (c3 : codeIn K cd3 "is_day" = true) (k3 : keepIn K (.ref f3) = true)
 (a4 : nsIn K mainGlobals "is_currency" = some (some (.ref f4)))
 (l4 : K.lookup f4 = some ⟨oc4, od4, .func (fnQ "is_currency" "is_currency" bG kV4 dc4 pm4 an4 cd4 ct4), sl4⟩) (c4 : codeIn K cd4 "is_currency" = true) (k4 : keepIn K (.ref f4) = true)
 (a5 : nsIn K mainGlobals "is_coin_count" = some (some (.ref f5)))
 (l5 : K.lookup f5 = some ⟨oc5, od5, .func (fnQ "is_coin_count" "is_coin_count" bv kV5 dc5 pm5 an5 cd5 ct5), sl5⟩) (c5 : codeIn K cd5 "is_coin_count" = true) (k5 : keepIn K (.ref f5) = true)
 (a6 : nsIn K mainGlobals "_law_cell_at" = some (some (.ref f6)))
 (l6 : K.lookup f6 = some ⟨oc6, od6, .func (fnQ "_law_cell_at" "_law_cell_at" bI kV6 dc6 pm6 an6 cd6 ct6), sl6⟩) (c6 : codeIn K cd6 "_law_cell_at" = true) (k6 : keepIn K (.ref f6) = true)
 (a7 : nsIn K mainGlobals "_law_currency_by" = some (some (.ref f7)))
 (l7 : K.lookup f7 = some ⟨oc7, od7, .func (fnQ "_law_currency_by" "_law_currency_by" aP kV7 dc7 pm7 an7 cd7 ct7), sl7⟩) (c7 : codeIn K cd7 "_law_currency_by" = true) (k7 : keepIn K (.ref f7) = true)
 (a8 : nsIn K mainGlobals "_law_newest" = some (some (.ref f8)))
 (l8 : K.lookup f8 = some ⟨oc8, od8, .func (fnQ "_law_newest" "_law_newest" bE kV8 dc8 pm8 an8 cd8 ct8), sl8⟩) (c8 : codeIn K cd8 "_law_newest" = true) (k8 : keepIn K (.ref f8) = true)
 (a9 : nsIn K mainGlobals "_law_word" = some (some (.ref f9)))
 (l9 : K.lookup f9 = some ⟨oc9, od9, .func (fnQ "_law_word" "_law_word" b9 kV9 dc9 pm9 an9 cd9 ct9), sl9⟩) (c9 : codeIn K cd9 "_law_word" = true) (k9 : keepIn K (.ref f9) = true)
 (a10 : nsIn K mainGlobals "_law_is_whole" = some (some (.ref f10)))
 (l10 : K.lookup f10 = some ⟨oc10, od10, .func (fnQ "_law_is_whole" "_law_is_whole" bu kV10 dc10 pm10 an10 cd10 ct10), sl10⟩) (c10 : codeIn K cd10 "_law_is_whole" = true) (k10 : keepIn K (.ref f10) = true)
 (a11 : nsIn K mainGlobals "_law_is_currency" = some (some (.ref f11)))
 (l11 : K.lookup f11 = some ⟨oc11, od11, .func (fnQ "_law_is_currency" "_law_is_currency" aM kV11 dc11 pm11 an11 cd11 ct11), sl11⟩) (c11 : codeIn K cd11 "_law_is_currency" = true) (k11 : keepIn K (.ref f11) = true)
 (a12 : nsIn K mainGlobals "_law_due" = some (some (.ref f12)))
 (l12 : K.lookup f12 = some ⟨oc12, od12, .func (fnQ "_law_due" "_law_due" cE kV12 dc12 pm12 an12 cd12 ct12), sl12⟩) (c12 : codeIn K cd12 "_law_due" = true) (k12 : keepIn K (.ref f12) = true)
 (a13 : nsIn K mainGlobals "_law_spoilt" = some (some (.ref f13)))
 (l13 : K.lookup f13 = some ⟨oc13, od13, .func (fnQ "_law_spoilt" "_law_spoilt" aD kV13 dc13 pm13 an13 cd13 ct13), sl13⟩) (c13 : codeIn K cd13 "_law_spoilt" = true) (k13 : keepIn K (.ref f13) = true)
 (a14 : nsIn K mainGlobals "_law_told" = some (some (.ref f14)))
 (l14 : K.lookup f14 = some ⟨oc14, od14, .func (fnQ "_law_told" "_law_told" cv kV14 dc14 pm14 an14 cd14 ct14), sl14⟩) (c14 : codeIn K cd14 "_law_told" = true) (k14 : keepIn K (.ref f14) = true)
 (a15 : nsIn K mainGlobals "_law_newest_good" = some (some (.ref f15)))
 (l15 : K.lookup f15 = some ⟨oc15, od15, .func (fnQ "_law_newest_good" "_law_newest_good" aJ kV15 dc15 pm15 an15 cd15 ct15), sl15⟩) (c15 : codeIn K cd15 "_law_newest_good" = true) (k15 : keepIn K (.ref f15) = true)
 (a16 : nsIn K mainGlobals "_law_pair_good" = some (some (.ref f16)))
 (l16 : K.lookup f16 = some ⟨oc16, od16, .func (fnQ "_law_pair_good" "_law_pair_good" bg kV16 dc16 pm16 an16 cd16 ct16), sl16⟩) (c16 : codeIn K cd16 "_law_pair_good" = true) (k16 : keepIn K (.ref f16) = true)
 (a17 : nsIn K mainGlobals "_law_lists" = some (some (.ref f17)))
 (l17 : K.lookup f17 = some ⟨oc17, od17, .func (fnQ "_law_lists" "_law_lists" bS kV17 dc17 pm17 an17 cd17 ct17), sl17⟩) (c17 : codeIn K cd17 "_law_lists" = true) (k17 : keepIn K (.ref f17) = true)
 (a18 : nsIn K mainGlobals "_law_list" = some (some (.ref f18)))
 (l18 : K.lookup f18 = some ⟨oc18, od18, .func (fnQ "_law_list" "_law_list" b_ kV18 dc18 pm18 an18 cd18 ct18), sl18⟩) (c18 : codeIn K cd18 "_law_list" = true) (k18 : keepIn K (.ref f18) = true)
 (a19 : nsIn K mainGlobals "_law_listed" = some (some (.ref f19)))
 (l19 : K.lookup f19 = some ⟨oc19, od19, .func (fnQ "_law_listed" "_law_listed" bF kV19 dc19 pm19 an19 cd19 ct19), sl19⟩) (c19 : codeIn K cd19 "_law_listed" = true) (k19 : keepIn K (.ref f19) = true)
 (a20 : nsIn K mainGlobals "_law_all_good" = some (some (.ref f20)))
 (l20 : K.lookup f20 = some ⟨oc20, od20, .func (fnQ "_law_all_good" "_law_all_good" aY kV20 dc20 pm20 an20 cd20 ct20), sl20⟩) (c20 : codeIn K cd20 "_law_all_good" = true) (k20 : keepIn K (.ref f20) = true)
 (a21 : nsIn K mainGlobals "_law_end_good" = some (some (.ref f21)))
 (l21 : K.lookup f21 = some ⟨oc21, od21, .func (fnQ "_law_end_good" "_law_end_good" bp kV21 dc21 pm21 an21 cd21 ct21), sl21⟩) (c21 : codeIn K cd21 "_law_end_good" = true) (k21 : keepIn K (.ref f21) = true)
 (a22 : nsIn K mainGlobals "law" = some (some (.ref f22)))
 (l22 : K.lookup f22 = some ⟨oc22, od22, .func (fnQ "law" "law" bX kV22 dc22 pm22 an22 cd22 ct22), sl22⟩) (c22 : codeIn K cd22 "law" = true) (k22 : keepIn K (.ref f22) = true)
 (a23 : findIn K (.ref C5) "__init__" = some (some (.ref f23))) (i23 : isFn K (.ref f23) = true)
 (l23 : K.lookup f23 = some ⟨oc23, od23, .func (fnQ "__init__" "Rates.__init__" bf kV23 dc23 pm23 an23 cd23 ct23), sl23⟩) (c23 : codeIn K cd23 "Rates.__init__" = true) (k23 : keepIn K (.ref f23) = true)
 (a24 : findIn K (.ref C5) "quote" = some (some (.ref f24))) (i24 : isFn K (.ref f24) = true)
 (l24 : K.lookup f24 = some ⟨oc24, od24, .func (fnQ "quote" "Rates.quote" bD kV24 dc24 pm24 an24 cd24 ct24), sl24⟩) (c24 : codeIn K cd24 "Rates.quote" = true) (k24 : keepIn K (.ref f24) = true)
 (a25 : findIn K (.ref C5) "keep" = some (some (.ref f25))) (i25 : isFn K (.ref f25) = true)
 (l25 : K.lookup f25 = some ⟨oc25, od25, .func (fnQ "keep" "Rates.keep" bq kV25 dc25 pm25 an25 cd25 ct25), sl25⟩) (c25 : codeIn K cd25 "Rates.keep" = true) (k25 : keepIn K (.ref f25) = true)
 (a26 : findIn K (.ref C5) "link" = some (some (.ref f26))) (i26 : isFn K (.ref f26) = true)
 (l26 : K.lookup f26 = some ⟨oc26, od26, .func (fnQ "link" "Rates.link" bQ kV26 dc26 pm26 an26 cd26 ct26), sl26⟩) (c26 : codeIn K cd26 "Rates.link" = true) (k26 : keepIn K (.ref f26) = true)
 (a27 : findIn K (.ref C5) "newest" = some (some (.ref f27))) (i27 : isFn K (.ref f27) = true)
 (l27 : K.lookup f27 = some ⟨oc27, od27, .func (fnQ "newest" "Rates.newest" aW kV27 dc27 pm27 an27 cd27 ct27), sl27⟩) (c27 : codeIn K cd27 "Rates.newest" = true) (k27 : keepIn K (.ref f27) = true)
 (a28 : findIn K (.ref C5) "currencies" = some (some (.ref f28))) (i28 : isFn K (.ref f28) = true)
 (l28 : K.lookup f28 = some ⟨oc28, od28, .func (fnQ "currencies" "Rates.currencies" aO kV28 dc28 pm28 an28 cd28 ct28), sl28⟩) (c28 : codeIn K cd28 "Rates.currencies" = true) (k28 : keepIn K (.ref f28) = true)
 (a29 : findIn K (.ref C5) "quotes" = some (some (.ref f29))) (i29 : isFn K (.ref f29) = true)
 (l29 : K.lookup f29 = some ⟨oc29, od29, .func (fnQ "quotes" "Rates.quotes" bJ kV29 dc29 pm29 an29 cd29 ct29), sl29⟩) (c29 : codeIn K cd29 "Rates.quotes" = true) (k29 : keepIn K (.ref f29) = true)
 (pg5 : plainGet K C5 Str.empty = true) (hd5 : hasDictIn K C5 = true) (po5 : plainOver K C5 = true) (sa5 : findIn K (.ref C5) "__setattr__" = some (some (.builtin "object.__setattr__"))) (mk5 : makesIn K C5 = true) (kc5 : keepIn K (.ref C5) = true)
 (na5_0 : findIn K (.ref C5) "by_pair" = some none)
 (na5_1 : findIn K (.ref C5) "beside" = some none)
 (o0 : clsIn K C0 = some cl0) (r0 : typeIn K (.ref C0) = some (.type "type")) (b0 : mroIn K C0 (.type "BaseException") = some true)
 (o1 : clsIn K C1 = some cl1) (r1 : typeIn K (.ref C1) = some (.type "type")) (b1 : mroIn K C1 (.type "BaseException") = some true)
 (o2 : clsIn K C2 = some cl2) (r2 : typeIn K (.ref C2) = some (.type "type")) (b2 : mroIn K C2 (.type "BaseException") = some true)
 (o3 : clsIn K C3 = some cl3) (r3 : typeIn K (.ref C3) = some (.type "type")) (b3 : mroIn K C3 (.type "BaseException") = some true)
 (o4 : clsIn K C4 = some cl4) (r4 : typeIn K (.ref C4) = some (.type "type")) (b4 : mroIn K C4 (.type "BaseException") = some true)
 (g2 : mroIn K C2 (.type "object") = some true) (v2 : mroIn K C2 (.type "ValueError") = some true) (u2 : findIn K (.ref C2) "__getattribute__" = some (some (.builtin "BaseException.__getattribute__"))) (w2 : findIn K (.ref C2) "__getattr__" = some none) (y2 : findIn K (.ref C2) "__class__" = some (some (.builtin "object.__class__")))
 (s2_0 : mroIn K C2 (.ref C0) = some true)
 (s2_1 : mroIn K C2 (.ref C1) = some false)
 (s2_2 : mroIn K C2 (.ref C2) = some true)
 (s2_3 : mroIn K C2 (.ref C3) = some false)
 (s2_4 : mroIn K C2 (.ref C4) = some false)
 (g1 : mroIn K C1 (.type "object") = some true) (v1 : mroIn K C1 (.type "ValueError") = some true) (u1 : findIn K (.ref C1) "__getattribute__" = some (some (.builtin "BaseException.__getattribute__"))) (w1 : findIn K (.ref C1) "__getattr__" = some none) (y1 : findIn K (.ref C1) "__class__" = some (some (.builtin "object.__class__")))
 (s1_0 : mroIn K C1 (.ref C0) = some true)
 (s1_1 : mroIn K C1 (.ref C1) = some true)
 (s1_2 : mroIn K C1 (.ref C2) = some false)
 (s1_3 : mroIn K C1 (.ref C3) = some false)
 (s1_4 : mroIn K C1 (.ref C4) = some false)
 (g3 : mroIn K C3 (.type "object") = some true) (v3 : mroIn K C3 (.type "ValueError") = some true) (u3 : findIn K (.ref C3) "__getattribute__" = some (some (.builtin "BaseException.__getattribute__"))) (w3 : findIn K (.ref C3) "__getattr__" = some none) (y3 : findIn K (.ref C3) "__class__" = some (some (.builtin "object.__class__")))
 (s3_0 : mroIn K C3 (.ref C0) = some true)
 (s3_1 : mroIn K C3 (.ref C1) = some false)
 (s3_2 : mroIn K C3 (.ref C2) = some false)
 (s3_3 : mroIn K C3 (.ref C3) = some true)
 (s3_4 : mroIn K C3 (.ref C4) = some false)
 (z0 : nsIn K mainGlobals "ValueError" = some none)
 (z1 : nsIn K mainGlobals "abs" = some none)
 (z2 : nsIn K mainGlobals "all" = some none)
 (z3 : nsIn K mainGlobals "bool" = some none)
 (z4 : nsIn K mainGlobals "int" = some none)
 (z5 : nsIn K mainGlobals "isinstance" = some none)
 (z6 : nsIn K mainGlobals "len" = some none)
 (z7 : nsIn K mainGlobals "list" = some none)
 (z8 : nsIn K mainGlobals "max" = some none)
 (z9 : nsIn K mainGlobals "min" = some none)
 (z10 : nsIn K mainGlobals "range" = some none)
 (z11 : nsIn K mainGlobals "sorted" = some none)
 (z12 : nsIn K mainGlobals "str" = some none)
 (z13 : nsIn K mainGlobals "tuple" = some none)
 (q2 : excIn K C2 [.type "ValueError", .type "Exception", .type "BaseException", .type "object"] "ValueError.__new__" = true)
 (q1 : excIn K C1 [.type "ValueError", .type "Exception", .type "BaseException", .type "object"] "ValueError.__new__" = true)
 (q3 : excIn K C3 [.type "ValueError", .type "Exception", .type "BaseException", .type "object"] "ValueError.__new__" = true)
 : ∃ fd : FuncData, (∀ (s : Shared) (v : Value), BindsTo s fd ⟨[v], []⟩ [("_law_script", v)]) ∧ ∀ base : Heap, K.In base → base.Ns mainGlobals mg → cz l.prog w K mg base (XE l.prog w) 7 fa fd ["_law_script"] (sp_law K) := by
  have e := hfa.symm.trans (mg_of X G a22)
  cases e
  have T : Txt K mg ⟨f0, fnQ "is_whole" "is_whole" cN kV0 dc0 pm0 an0 cd0 ct0, f1, fnQ "is_among" "is_among" cO kV1 dc1 pm1 an1 cd1 ct1, f2, fnQ "signs_lie" "signs_lie" cB kV2 dc2 pm2 an2 cd2 ct2, f3, fnQ "is_day" "is_day" dz kV3 dc3 pm3 an3 cd3 ct3, f4, fnQ "is_currency" "is_currency" bG kV4 dc4 pm4 an4 cd4 ct4, f5, fnQ "is_coin_count" "is_coin_count" bv kV5 dc5 pm5 an5 cd5 ct5, f6, fnQ "_law_cell_at" "_law_cell_at" bI kV6 dc6 pm6 an6 cd6 ct6, f7, fnQ "_law_currency_by" "_law_currency_by" aP kV7 dc7 pm7 an7 cd7 ct7, f8, fnQ "_law_newest" "_law_newest" bE kV8 dc8 pm8 an8 cd8 ct8, f9, fnQ "_law_word" "_law_word" b9 kV9 dc9 pm9 an9 cd9 ct9, f10, fnQ "_law_is_whole" "_law_is_whole" bu kV10 dc10 pm10 an10 cd10 ct10, f11, fnQ "_law_is_currency" "_law_is_currency" aM kV11 dc11 pm11 an11 cd11 ct11, f12, fnQ "_law_due" "_law_due" cE kV12 dc12 pm12 an12 cd12 ct12, f13, fnQ "_law_spoilt" "_law_spoilt" aD kV13 dc13 pm13 an13 cd13 ct13, f14, fnQ "_law_told" "_law_told" cv kV14 dc14 pm14 an14 cd14 ct14, f15, fnQ "_law_newest_good" "_law_newest_good" aJ kV15 dc15 pm15 an15 cd15 ct15, f16, fnQ "_law_pair_good" "_law_pair_good" bg kV16 dc16 pm16 an16 cd16 ct16, f17, fnQ "_law_lists" "_law_lists" bS kV17 dc17 pm17 an17 cd17 ct17, f18, fnQ "_law_list" "_law_list" b_ kV18 dc18 pm18 an18 cd18 ct18, f19, fnQ "_law_listed" "_law_listed" bF kV19 dc19 pm19 an19 cd19 ct19, f20, fnQ "_law_all_good" "_law_all_good" aY kV20 dc20 pm20 an20 cd20 ct20, f21, fnQ "_law_end_good" "_law_end_good" bp kV21 dc21 pm21 an21 cd21 ct21, fa, fnQ "law" "law" bX kV22 dc22 pm22 an22 cd22 ct22, f23, fnQ "__init__" "Rates.__init__" bf kV23 dc23 pm23 an23 cd23 ct23, f24, fnQ "quote" "Rates.quote" bD kV24 dc24 pm24 an24 cd24 ct24, f25, fnQ "keep" "Rates.keep" bq kV25 dc25 pm25 an25 cd25 ct25, f26, fnQ "link" "Rates.link" bQ kV26 dc26 pm26 an26 cd26 ct26, f27, fnQ "newest" "Rates.newest" aW kV27 dc27 pm27 an27 cd27 ct27, f28, fnQ "currencies" "Rates.currencies" aO kV28 dc28 pm28 an28 cd28 ct28, f29, fnQ "quotes" "Rates.quotes" bJ kV29 dc29 pm29 an29 cd29 ct29, C0, C1, C2, C3, C4, C5⟩ := ⟨bC (st := cN) l0 c0 k0, mg_of X G a0, bC (st := cO) l1 c1 k1, mg_of X G a1, bC (st := cB) l2 c2 k2, mg_of X G a2, bC (st := dz) l3 c3 k3, mg_of X G a3, bC (st := bG) l4 c4 k4, mg_of X G a4, bC (st := bv) l5 c5 k5, mg_of X G a5, bC (st := bI) l6 c6 k6, mg_of X G a6, bC (st := aP) l7 c7 k7, mg_of X G a7, bC (st := bE) l8 c8 k8, mg_of X G a8, bC (st := b9) l9 c9 k9, mg_of X G a9, bC (st := bu) l10 c10 k10, mg_of X G a10, bC (st := aM) l11 c11 k11, mg_of X G a11, bC (st := cE) l12 c12 k12, mg_of X G a12, bC (st := aD) l13 c13 k13, mg_of X G a13, bC (st := cv) l14 c14 k14, mg_of X G a14, bC (st := aJ) l15 c15 k15, mg_of X G a15, bC (st := bg) l16 c16 k16, mg_of X G a16, bC (st := bS) l17 c17 k17, mg_of X G a17, bC (st := b_) l18 c18 k18, mg_of X G a18, bC (st := bF) l19 c19 k19, mg_of X G a19, bC (st := aY) l20 c20 k20, mg_of X G a20, bC (st := bp) l21 c21 k21, mg_of X G a21, bC (st := bX) l22 c22 k22, mg_of X G a22, bC (st := bf) l23 c23 k23, ⟨a23, i23, k23⟩, bC (st := bD) l24 c24 k24, ⟨a24, i24, k24⟩, bC (st := bq) l25 c25 k25, ⟨a25, i25, k25⟩, bC (st := bQ) l26 c26 k26, ⟨a26, i26, k26⟩, bC (st := aW) l27 c27 k27, ⟨a27, i27, k27⟩, bC (st := aO) l28 c28 k28, ⟨a28, i28, k28⟩, bC (st := bJ) l29 c29 k29, ⟨a29, i29, k29⟩, mg_of X G p0, mg_of X G p1, mg_of X G p2, mg_of X G p3, mg_of X G p4, mg_of X G p5, ⟨pg5, hd5, po5, sa5⟩, na5_0, na5_1, ⟨mk5, a23, i23, kc5⟩, q2, ⟨u2, w2, y2, (by rw [o2]; rfl), g2, b2⟩, i7 o0 r0 b0 s2_0, cr o2 r2 s2_2 s2_2, cr o1 r1 s2_2 s2_1, cr o3 r3 s2_2 s2_3, cr o4 r4 s2_2 s2_4, jm v2, q1, ⟨u1, w1, y1, (by rw [o1]; rfl), g1, b1⟩, i7 o0 r0 b0 s1_0, cr o2 r2 s1_1 s1_2, cr o1 r1 s1_1 s1_1, cr o3 r3 s1_1 s1_3, cr o4 r4 s1_1 s1_4, jm v1, q3, ⟨u3, w3, y3, (by rw [o3]; rfl), g3, b3⟩, i7 o0 r0 b0 s3_0, cr o2 r2 s3_3 s3_2, cr o1 r1 s3_3 s3_1, cr o3 r3 s3_3 s3_3, cr o4 r4 s3_3 s3_4, jm v3, mg_none_of X G z0, mg_none_of X G z1, mg_none_of X G z2, mg_none_of X G z3, mg_none_of X G z4, mg_none_of X G z5, mg_none_of X G z6, mg_none_of X G z7, mg_none_of X G z8, mg_none_of X G z9, mg_none_of X G z10, mg_none_of X G z11, mg_none_of X G z12, mg_none_of X G z13⟩
  exact ⟨fnQ "law" "law" bX kV22 dc22 pm22 an22 cd22 ct22, fun s v => .of_eq rfl, fun base _ _ => zl T⟩
end K9
open PySem PySem.W PyProof.Rows
set_option maxRecDepth 100000 in
set_option maxHeartbeats 0 in
theorem PySem.Challenge.cw_evenhall_k09_quotes_by_plain_rows_holds : PySem.Challenge.rw_evenhall_k09_quotes_by_plain_rows.Holds := by
  w_on; o_law
  refine PySem.W.holds_open (q := K9.vw) (loose := []) (Xt := fun s => PySem.W.xlAt K9.vw [] s && PySem.W.recOk (PySem.W.RowW.records (PySem.W.OpenRow.toRowW (PySem.W.OpenLaw.row PySem.Challenge.rw_evenhall_k09_quotes_by_plain_rows))) s) (XP := PySem.W.XL K9.vw []) (Yf := PySem.W.Hook.obs (PySem.W.kHook K9.frag K9.adrs K9.adrs_eq)) (Ya := PySem.W.Hook.val (PySem.W.kHook K9.frag K9.adrs K9.adrs_eq)) (YP := PySem.W.Hook.says (PySem.W.kHook K9.frag K9.adrs K9.adrs_eq)) (N := 4904) K9.left (PySem.W.Hook.of (PySem.W.kHook K9.frag K9.adrs K9.adrs_eq)) (PySem.W.Hook.keeps (PySem.W.kHook K9.frag K9.adrs K9.adrs_eq))
    (fun s e => PySem.W.xl_of s (Bool.and_eq_true_iff.mp e).1) PySem.W.XL.keeps (by rfl) (by rfl) (by rfl) (fun s e => PySem.W.recFacts_of (Bool.and_eq_true_iff.mp e).2) (by rfl) (by assumption) (by decide +kernel) ⟨rfl, rfl, rfl, rfl, rfl, by decide +kernel⟩ ?hw ?hc
  (case hw => w_witness2)
  k_fill
  refine L2.u8 (l := PySem.Challenge.rw_evenhall_k09_quotes_by_plain_rows) (n := 63) (k := 7) (x := "_law_script") (sp := K9.sp_law) rfl (by decide) rfl ⟨rfl, by decide, by decide⟩ (fun w h Y => PySem.W.kIn_of Y) ?F ?S
  case F =>
    intro w mg fa h KX G hmg
    refine' K9.all_mk KX G hmg ?_ ?_ ?_ ?_ ?_ ?_ ?_ ?_ ?_ ?_ ?_ ?_ ?_ ?_ ?_ ?_ ?_ ?_ ?_ ?_ ?_ ?_ ?_ ?_ ?_ ?_ ?_ ?_ ?_ ?_ ?_ ?_ ?_ ?_ ?_ ?_ ?_ ?_ ?_ ?_ ?_ ?_ ?_ ?_ ?_ ?_ ?_ ?_ ?_ ?_ ?_ ?_ ?_ ?_ ?_ ?_ ?_ ?_ ?_ ?_ ?_ ?_ ?_ ?_ ?_ ?_ ?_ ?_ ?_ ?_ ?_ ?_ ?_ ?_ ?_ ?_ ?_ ?_ ?_ ?_ ?_ ?_ ?_ ?_ ?_ ?_ ?_ ?_ ?_ ?_ ?_ ?_ ?_ ?_ ?_ ?_ ?_ ?_ ?_ ?_ ?_ ?_ ?_ ?_ ?_ ?_ ?_ ?_ ?_ ?_ ?_ ?_ ?_ ?_ ?_ ?_ ?_ ?_ ?_ ?_ ?_ ?_ ?_ ?_ ?_ ?_ ?_ ?_ ?_ ?_ ?_ ?_ ?_ ?_ ?_ ?_ ?_ ?_ ?_ ?_ ?_ ?_ ?_ ?_ ?_ ?_ ?_ ?_ ?_ ?_ ?_ ?_ ?_ ?_ ?_ ?_ ?_ ?_ ?_ ?_ ?_ ?_ ?_ ?_ ?_ ?_ ?_ ?_ ?_ ?_ ?_ ?_ ?_ ?_ ?_ ?_ ?_ ?_ ?_ ?_ ?_ ?_ ?_ ?_ ?_ ?_ ?_ ?_ ?_ ?_ ?_ ?_ ?_ ?_ ?_ ?_ ?_ ?_ ?_ ?_ ?_ ?_ ?_
    all_goals try first | k_is | k_exc
    all_goals try first | k_is | k_exc
  case S => exact fun K H a ns hl hO hS => K9.law_starts hO hS hl