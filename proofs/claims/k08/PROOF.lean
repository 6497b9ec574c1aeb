import PyProof.Rows.All
import KE.KItem
import KE.KTupSum
import KE.KEqDict
import KE.KFromBytes
import KE.KIntText
import KE.KRevIter
import KE.KDictOf
import KE.LcSums
import KE.KDictSum
import KE.KTryMore
import OpenK.KLine
import OpenK.KOwn
import Wide.Line
import Wide.FinOn
import Lean
import PySem.Challenge.RW_evenhall_k08_whole_open_beneath_open
set_option Elab.async false
set_option linter.all false
set_option maxRecDepth 100000
namespace L2
open PySem
def inClass (s : Stmt) (j : Nat) : Stmt := match s with
  | .ClassDef _ _ _ body _ _ _ _ _ _ _ => body.getD j (.Pass ⟨0, 0, 0, 0⟩)
  | _ => .Pass ⟨0, 0, 0, 0⟩
def defArgs (s : Stmt) : Arguments := match s with
  | .FunctionDef _ a _ _ _ _ _ _ _ _ => a
  | _ => { posonlyargs := [], args := [], vararg := none, kwonlyargs := [], kw_defaults := [], kwarg := none, defaults := [] }
def defBody (s : Stmt) : List Stmt := match s with
  | .FunctionDef _ _ b _ _ _ _ _ _ _ => b
  | _ => []
def defScope (s : Stmt) : Scope := match s with
  | .FunctionDef _ _ _ _ _ _ sc _ _ _ => sc
  | _ => { kind := .function, names := [], isGenerator := false, isCoroutine := false }
end L2
namespace K8
open PySem L2
def top (i : Nat) : Stmt := PySem.Challenge.pw_evenhall_k08_whole_open_beneath_open.main.body.getD i (.Pass ⟨0, 0, 0, 0⟩)
abbrev s__wall : Stmt := top 0
abbrev s_is_whole : Stmt := top 13
abbrev s_is_among : Stmt := top 14
abbrev s_signs_lie : Stmt := top 15
abbrev s_is_name : Stmt := top 16
abbrev s_is_day : Stmt := top 18
abbrev s_is_currency : Stmt := top 20
abbrev s_are_names : Stmt := top 22
abbrev s_is_path : Stmt := top 23
abbrev s_names_of : Stmt := top 24
abbrev s_above : Stmt := top 25
abbrev s__law_cell_at : Stmt := top 31
abbrev s__law_name_by : Stmt := top 32
abbrev s__law_went : Stmt := top 33
abbrev s__law_days : Stmt := top 34
abbrev s__law_uppers : Stmt := top 35
abbrev s__law_span_good : Stmt := top 36
abbrev s__law_all_good : Stmt := top 37
abbrev s_law : Stmt := top 38
abbrev s_Account___init__ : Stmt := inClass (top 28) 0
abbrev s_Account_stands_on : Stmt := inClass (top 28) 1
abbrev s_Account_stands_later : Stmt := inClass (top 28) 2
abbrev s_Chart___init__ : Stmt := inClass (top 29) 0
abbrev s_Chart_add_top : Stmt := inClass (top 29) 1
abbrev s_Chart_add : Stmt := inClass (top 29) 2
abbrev s_Chart_shut : Stmt := inClass (top 29) 3
abbrev s_Chart_has : Stmt := inClass (top 29) 4
abbrev s_Chart_account : Stmt := inClass (top 29) 5
abbrev s_Chart_kind_of : Stmt := inClass (top 29) 6
abbrev s_Chart_currency_of : Stmt := inClass (top 29) 7
abbrev s_Chart_span_of : Stmt := inClass (top 29) 8
abbrev s_Chart_is_open : Stmt := inClass (top 29) 9
abbrev s_Chart_beneath : Stmt := inClass (top 29) 10
abbrev s_Chart_accounts : Stmt := inClass (top 29) 11
end K8
set_option Elab.async false
set_option linter.all false
namespace TR
open PySem PySem.W
def go (p : Program) (w : World) (lo : Nat) (an : Option Value) : Nat → SharedT → Thread → Option SharedT
  | 0, _, _ => none
  | k + 1, x, th => match through th with
    | true => some x
    | false => match stepOk lo an th with
      | false => none
      | true => match stepT (denote treeTable) p w x th with
        | none => none
        | some y => go p w lo an k y.1 y.2
theorem go_of {p : Program} {w : World} {lo : Nat} {an : Option Value} (k : Nat) : ∀ {x y : SharedT} {th : Thread}, go p w lo an k x th = some y → topRun treeTable p w lo an k x.abs th = some y.abs := by
  induction k with
  | zero => intro x y th e; cases e
  | succ k ih =>
    intro x y th e
    unfold go at e
    unfold topRun
    revert e
    cases through th with
    | true => intro e; cases e; rfl
    | false =>
      cases stepOk lo an th with
      | false => intro e; cases e
      | true =>
        dsimp only
        cases z : stepT (denote treeTable) p w x th with
        | none => intro e; cases e
        | some v =>
          intro e
          obtain ⟨v1, v2⟩ := v
          rw [stepT_spec z]
          exact ih e
noncomputable def look (p : Program) (P : Params) (s : Shared) : Bool := staticsOk (importedModules p.main.body) (boot_heap P) s.heap && namesBound p s.heap && gensDone s && laidKept (boot_heap P) s.heap
theorem left {p q : Program} {ls : List Str} {Xt : Shared → Bool} {β : Type} {Yf : Shared → β} {Ya : World → β} {N lo : Nat} {an : Option Value} {tr : Params → BT}
    (ho : ∀ w : World, (fencedOpening treeTable p w N).map (fun s => (s.heap, s.gens, s.drawn, s.toks)) = some (boot_heap w.params, Array.mk [], boot_drawn, boot_toks))
    (hz : ∀ P : Params, ((boot_heap P).isNs mainGlobals, (boot_heap P).objs.size, (boot_heap P).nsMap mainGlobals "__annotations__") = (true, lo, an))
    (ht : ∀ P : Params, absHeap (tr P) lo (boot_heap P).life = boot_heap P)
    (hr : ∀ w : World, (fun os => (go p w lo an N ⟨tr w.params, lo, (boot_heap w.params).life, Array.mk [], boot_drawn, boot_toks, os⟩ (topStub p)).map fun x => (look p w.params x.abs, openSeen q ls (importedModules p.main.body) Xt true x.abs, Yf x.abs)) = fun _ => some (true, openGood q ls, Ya w)) :
    LeftO p q ls Xt Yf Ya N := by
  intro w
  obtain ⟨⟨h, g, d, k, os⟩, e1, e2⟩ := Option.map_eq_some_iff.mp (ho w)
  simp only [Prod.mk.injEq] at e2
  obtain ⟨rfl, rfl, rfl, rfl⟩ := e2
  have z := hz w.params
  simp only [Prod.mk.injEq] at z
  obtain ⟨z1, z2, z3⟩ := z
  obtain ⟨x, r1, r2⟩ := Option.map_eq_some_iff.mp (congrFun (hr w) os)
  simp only [Prod.mk.injEq] at r2
  obtain ⟨l1, l2, l3⟩ := r2
  have t := go_of _ r1
  have ab : SharedT.abs ⟨tr w.params, lo, (boot_heap w.params).life, Array.mk [], boot_drawn, boot_toks, os⟩ = ⟨boot_heap w.params, Array.mk [], boot_drawn, boot_toks, os⟩ := by
    show Shared.mk (absHeap (tr w.params) lo (boot_heap w.params).life) _ _ _ _ = _
    rw [ht]
  rw [ab] at t
  have f : topFrom treeTable p w N ⟨boot_heap w.params, Array.mk [], boot_drawn, boot_toks, os⟩ = some x.abs := by
    unfold topFrom
    dsimp only
    rw [z1, z2, z3, t]
    show (match look p w.params x.abs with | true => some x.abs | false => none) = _
    rw [l1]
  unfold openEnds
  rw [e1]
  show (topFrom treeTable p w N _).map _ = _
  rw [f]
  show some (_, _) = _
  rw [l2, l3]
end TR
namespace K8
open PySem L2
abbrev kS (s : String) : Str := Str.ofString s
abbrev kR (a : Addr) : Value := .ref a
abbrev kY (s : String) : Value := .type s
abbrev kB (s : String) : Value := .builtin s
abbrev kZ (s : Str) (t : Tok) : Value := .str s t
abbrev kN : Value := .none
abbrev kD (h : Int) (k v : Value) : DictEntry := ⟨h, k, v⟩
abbrev kO (c : Value) (d : Option Addr) (t : Data) (s : Array (Option Value)) : Obj := ⟨c, d, t, s⟩
abbrev keyHash := PyData.keyHash
set_option maxRecDepth 100000 in
def frag (P : Params) : PySem.W.Frag :=
  (nat_lit 2, (kO kN none (PySem.Data.dict #[] 0) #[]))::
  (nat_lit 3, (kO (kY "dict") none (PySem.Data.dict #[(kD (keyHash P (kS "__name__")) (kZ (kS "__name__") 165) (kZ (kS "law_evenhall_k08_whole_open_beneath_open") 676)), (kD (keyHash P (kS "__doc__")) (kZ (kS "__doc__") 166) kN), (kD (keyHash P (kS "__package__")) (kZ (kS "__package__") 167) kN), (kD (keyHash P (kS "__loader__")) (kZ (kS "__loader__") 168) (kB "__main__.__loader__#opaque")), (kD (keyHash P (kS "__spec__")) (kZ (kS "__spec__") 169) kN), (kD (keyHash P (kS "__annotations__")) (kZ (kS "__annotations__") 170) (kR 6)), (kD (keyHash P (kS "__builtins__")) (kZ (kS "__builtins__") 171) (kR 4)), (kD (keyHash P (kS "__file__")) (kZ (kS "__file__") 173) (kZ (kS "/claim/cut.py") 172)), (kD (keyHash P (kS "__cached__")) (kZ (kS "__cached__") 174) kN), (kD (keyHash P (kS "_wall")) (kZ (kS "_wall") 193) (kR 21)), (kD (keyHash P (kS "HouseError")) (kZ (kS "HouseError") 213) (kR 31)), (kD (keyHash P (kS "BadName")) (kZ (kS "BadName") 236) (kR 51)), (kD (keyHash P (kS "BadDay")) (kZ (kS "BadDay") 259) (kR 70)), (kD (keyHash P (kS "BadCurrency")) (kZ (kS "BadCurrency") 282) (kR 89)), (kD (keyHash P (kS "BadPath")) (kZ (kS "BadPath") 305) (kR 108)), (kD (keyHash P (kS "BadKind")) (kZ (kS "BadKind") 328) (kR 127)), (kD (keyHash P (kS "NoAccount")) (kZ (kS "NoAccount") 351) (kR 146)), (kD (keyHash P (kS "Twice")) (kZ (kS "Twice") 374) (kR 165)), (kD (keyHash P (kS "NotOpen")) (kZ (kS "NotOpen") 397) (kR 184)), (kD (keyHash P (kS "HasBelow")) (kZ (kS "HasBelow") 420) (kR 203)), (kD (keyHash P (kS "is_whole")) (kZ (kS "is_whole") 429) (kR 212)), (kD (keyHash P (kS "is_among")) (kZ (kS "is_among") 438) (kR 219)), (kD (keyHash P (kS "signs_lie")) (kZ (kS "signs_lie") 444) (kR 224)), (kD (keyHash P (kS "is_name")) (kZ (kS "is_name") 451) (kR 231)), (kD (keyHash P (kS "is_day")) (kZ (kS "is_day") 460) (kR 238)), (kD (keyHash P (kS "is_currency")) (kZ (kS "is_currency") 469) (kR 245)), (kD (keyHash P (kS "are_names")) (kZ (kS "are_names") 477) (kR 250)), (kD (keyHash P (kS "is_path")) (kZ (kS "is_path") 484) (kR 257)), (kD (keyHash P (kS "names_of")) (kZ (kS "names_of") 491) (kR 264)), (kD (keyHash P (kS "above")) (kZ (kS "above") 497) (kR 269)), (kD (keyHash P (kS "KINDS")) (kZ (kS "KINDS") 505) (kR 270)), (kD (keyHash P (kS "Account")) (kZ (kS "Account") 556) (kR 301)), (kD (keyHash P (kS "Chart")) (kZ (kS "Chart") 675) (kR 397)), (kD (keyHash P (kS "_law_cell_at")) (kZ (kS "_law_cell_at") 685) (kR 408)), (kD (keyHash P (kS "_law_name_by")) (kZ (kS "_law_name_by") 691) (kR 413)), (kD (keyHash P (kS "_law_went")) (kZ (kS "_law_went") 701) (kR 420)), (kD (keyHash P (kS "_law_days")) (kZ (kS "_law_days") 712) (kR 427)), (kD (keyHash P (kS "_law_uppers")) (kZ (kS "_law_uppers") 718) (kR 432)), (kD (keyHash P (kS "_law_span_good")) (kZ (kS "_law_span_good") 724) (kR 437)), (kD (keyHash P (kS "_law_all_good")) (kZ (kS "_law_all_good") 730) (kR 442)), (kD (keyHash P (kS "law")) (kZ (kS "law") 736) (kR 447))] 41) #[]))::
  (nat_lit 15, (kO (kY "tuple") none (PySem.Data.seq #[] 0) #[]))::
  (nat_lit 17, (kO (kY "tuple") none (PySem.Data.seq #[(kZ (kS "k") 190)] 0) #[]))::
  (nat_lit 18, (kO (kY "tuple") none (PySem.Data.seq #[] 0) #[]))::
  (nat_lit 20, (kO (kY "code") none (PySem.Data.fields #[(kZ (kS "_wall") 187), (kZ (kS "_wall") 188), (kZ (kS "/claim/cut.py") 189), (PySem.Value.int (1 : Int) 0), (PySem.Value.int (1 : Int) 0), (PySem.Value.int (0 : Int) 0), (PySem.Value.int (0 : Int) 0), (PySem.Value.int (3 : Int) 0), (kR 15), (PySem.Value.bool true), (PySem.Value.int (181 : Int) 0), (kR 16), kN, (kR 17), (kR 18), (kR 19), (PySem.Value.int (191 : Int) 0), (PySem.Value.int (1 : Int) 0), (kZ (kS "/claim/cut.py") 192)]) #[]))::
  (nat_lit 21, (kO (kY "function") none (PySem.Data.func (PySem.W.fnOf (kS "_wall") (kS "_wall") (defArgs s__wall) (defBody s__wall) (defScope s__wall) kN kN kN (kZ (kS "__main__") 164) none (kR 20) kN)) #[]))::
  (nat_lit 22, (kO (kY "tuple") none (PySem.Data.seq #[(kY "ValueError")] 0) #[]))::
  (nat_lit 29, (kO (kY "tuple") none (PySem.Data.seq #[] 0) #[]))::
  (nat_lit 30, (kO (kY "dict") none (PySem.Data.dict #[(kD (keyHash P (kS "__module__")) (kZ (kS "__module__") 203) (kZ (kS "evenhall.errors") 194)), (kD (keyHash P (kS "__firstlineno__")) (kZ (kS "__firstlineno__") 207) (PySem.Value.int (5 : Int) 206)), (kD (keyHash P (kS "__static_attributes__")) (kZ (kS "__static_attributes__") 208) (kR 29)), (kD (keyHash P (kS "__weakref__")) (kZ (kS "__weakref__") 210) (kR 32)), (kD (keyHash P (kS "__doc__")) (kZ (kS "__doc__") 211) kN)] 3) #[]))::
  (nat_lit 31, (kO (kY "type") none (PySem.Data.cls (PySem.ClassData.mk (kS "HouseError") [(kY "ValueError")] [(kR 31), (kY "ValueError"), (kY "Exception"), (kY "BaseException"), (kY "object")] 30 (kS "HouseError") true [] [(kR 51), (kR 70), (kR 89), (kR 108), (kR 127), (kR 146), (kR 165), (kR 184), (kR 203)] false none false)) #[(some (kR 22)), none, (some (kZ (kS "HouseError") 196)), (some (kZ (kS "HouseError") 204)), (some (kB "ValueError.__new__")), (some (PySem.Value.bool true))]))::
  (nat_lit 32, (kO (kY "getset_descriptor") none (PySem.Data.fields #[(kZ (kS "__weakref__") 209), (kR 31), (kB "ExceptionGroup.__weakref__"), kN]) #[]))::
  (nat_lit 35, (kO (kY "tuple") none (PySem.Data.seq #[(kR 31)] 0) #[]))::
  (nat_lit 42, (kO (kY "tuple") none (PySem.Data.seq #[] 0) #[]))::
  (nat_lit 44, (kO (kY "tuple") none (PySem.Data.seq #[(kZ (kS "self") 229)] 0) #[]))::
  (nat_lit 45, (kO (kY "tuple") none (PySem.Data.seq #[] 0) #[]))::
  (nat_lit 47, (kO (kY "code") none (PySem.Data.fields #[(kZ (kS "small_words") 226), (kZ (kS "BadName.small_words") 227), (kZ (kS "/claim/cut.py") 228), (PySem.Value.int (9 : Int) 0), (PySem.Value.int (1 : Int) 0), (PySem.Value.int (0 : Int) 0), (PySem.Value.int (0 : Int) 0), (PySem.Value.int (3 : Int) 0), (kR 42), (PySem.Value.bool true), (PySem.Value.int (181 : Int) 0), (kR 43), kN, (kR 44), (kR 45), (kR 46), (PySem.Value.int (230 : Int) 0), (PySem.Value.int (9 : Int) 0), (kZ (kS "/claim/cut.py") 231)]) #[]))::
  (nat_lit 48, (kO (kY "function") none (PySem.Data.func (PySem.FuncData.mk (kS "small_words") (kS "BadName.small_words") (PySem.Arguments.mk [] [(PySem.Arg.mk (kS "self") none (PySem.Pos.mk 9 20 9 24))] none [] [] none []) (PySem.FuncBody.stmts [(PySem.Stmt.Expr (PySem.Expr.Call (PySem.Expr.Name (kS "_wall") (PySem.Pos.mk 10 8 10 13)) [(PySem.Expr.Constant (PySem.Const.int (0 : Int)) 0 (PySem.Pos.mk 10 14 10 15))] [] (PySem.Pos.mk 10 8 10 16)) (PySem.Pos.mk 10 8 10 16))]) (PySem.Scope.mk PySem.ScopeKind.function [((kS "self"), PySem.NameKind.local), ((kS "_wall"), PySem.NameKind.globalImplicit)] false false []) 3 [] kN kN kN (kZ (kS "evenhall.errors") 194) none (kR 47) kN 0)) #[]))::
  (nat_lit 49, (kO (kY "tuple") none (PySem.Data.seq #[] 0) #[]))::
  (nat_lit 50, (kO (kY "dict") none (PySem.Data.dict #[(kD (keyHash P (kS "__module__")) (kZ (kS "__module__") 221) (kZ (kS "evenhall.errors") 194)), (kD (keyHash P (kS "__firstlineno__")) (kZ (kS "__firstlineno__") 225) (PySem.Value.int (7 : Int) 224)), (kD (keyHash P (kS "small_words")) (kZ (kS "small_words") 232) (kR 48)), (kD (keyHash P (kS "__static_attributes__")) (kZ (kS "__static_attributes__") 233) (kR 49)), (kD (keyHash P (kS "__doc__")) (kZ (kS "__doc__") 234) kN)] 2) #[]))::
  (nat_lit 51, (kO (kY "type") none (PySem.Data.cls (PySem.ClassData.mk (kS "BadName") [(kR 31)] [(kR 51), (kR 31), (kY "ValueError"), (kY "Exception"), (kY "BaseException"), (kY "object")] 50 (kS "BadName") true [] [] false none false)) #[(some (kR 35)), none, (some (kZ (kS "BadName") 214)), (some (kZ (kS "BadName") 222)), (some (kB "ValueError.__new__")), (some (PySem.Value.bool true))]))::
  (nat_lit 54, (kO (kY "tuple") none (PySem.Data.seq #[(kR 31)] 0) #[]))::
  (nat_lit 61, (kO (kY "tuple") none (PySem.Data.seq #[] 0) #[]))::
  (nat_lit 63, (kO (kY "tuple") none (PySem.Data.seq #[(kZ (kS "self") 252)] 0) #[]))::
  (nat_lit 64, (kO (kY "tuple") none (PySem.Data.seq #[] 0) #[]))::
  (nat_lit 66, (kO (kY "code") none (PySem.Data.fields #[(kZ (kS "small_words") 249), (kZ (kS "BadDay.small_words") 250), (kZ (kS "/claim/cut.py") 251), (PySem.Value.int (13 : Int) 0), (PySem.Value.int (1 : Int) 0), (PySem.Value.int (0 : Int) 0), (PySem.Value.int (0 : Int) 0), (PySem.Value.int (3 : Int) 0), (kR 61), (PySem.Value.bool true), (PySem.Value.int (181 : Int) 0), (kR 62), kN, (kR 63), (kR 64), (kR 65), (PySem.Value.int (253 : Int) 0), (PySem.Value.int (13 : Int) 0), (kZ (kS "/claim/cut.py") 254)]) #[]))::
  (nat_lit 67, (kO (kY "function") none (PySem.Data.func (PySem.FuncData.mk (kS "small_words") (kS "BadDay.small_words") (PySem.Arguments.mk [] [(PySem.Arg.mk (kS "self") none (PySem.Pos.mk 13 20 13 24))] none [] [] none []) (PySem.FuncBody.stmts [(PySem.Stmt.Expr (PySem.Expr.Call (PySem.Expr.Name (kS "_wall") (PySem.Pos.mk 14 8 14 13)) [(PySem.Expr.Constant (PySem.Const.int (1 : Int)) 0 (PySem.Pos.mk 14 14 14 15))] [] (PySem.Pos.mk 14 8 14 16)) (PySem.Pos.mk 14 8 14 16))]) (PySem.Scope.mk PySem.ScopeKind.function [((kS "self"), PySem.NameKind.local), ((kS "_wall"), PySem.NameKind.globalImplicit)] false false []) 3 [] kN kN kN (kZ (kS "evenhall.errors") 194) none (kR 66) kN 0)) #[]))::
  (nat_lit 68, (kO (kY "tuple") none (PySem.Data.seq #[] 0) #[]))::
  (nat_lit 69, (kO (kY "dict") none (PySem.Data.dict #[(kD (keyHash P (kS "__module__")) (kZ (kS "__module__") 244) (kZ (kS "evenhall.errors") 194)), (kD (keyHash P (kS "__firstlineno__")) (kZ (kS "__firstlineno__") 248) (PySem.Value.int (11 : Int) 247)), (kD (keyHash P (kS "small_words")) (kZ (kS "small_words") 255) (kR 67)), (kD (keyHash P (kS "__static_attributes__")) (kZ (kS "__static_attributes__") 256) (kR 68)), (kD (keyHash P (kS "__doc__")) (kZ (kS "__doc__") 257) kN)] 2) #[]))::
  (nat_lit 70, (kO (kY "type") none (PySem.Data.cls (PySem.ClassData.mk (kS "BadDay") [(kR 31)] [(kR 70), (kR 31), (kY "ValueError"), (kY "Exception"), (kY "BaseException"), (kY "object")] 69 (kS "BadDay") true [] [] false none false)) #[(some (kR 54)), none, (some (kZ (kS "BadDay") 237)), (some (kZ (kS "BadDay") 245)), (some (kB "ValueError.__new__")), (some (PySem.Value.bool true))]))::
  (nat_lit 73, (kO (kY "tuple") none (PySem.Data.seq #[(kR 31)] 0) #[]))::
  (nat_lit 80, (kO (kY "tuple") none (PySem.Data.seq #[] 0) #[]))::
  (nat_lit 82, (kO (kY "tuple") none (PySem.Data.seq #[(kZ (kS "self") 275)] 0) #[]))::
  (nat_lit 83, (kO (kY "tuple") none (PySem.Data.seq #[] 0) #[]))::
  (nat_lit 85, (kO (kY "code") none (PySem.Data.fields #[(kZ (kS "small_words") 272), (kZ (kS "BadCurrency.small_words") 273), (kZ (kS "/claim/cut.py") 274), (PySem.Value.int (17 : Int) 0), (PySem.Value.int (1 : Int) 0), (PySem.Value.int (0 : Int) 0), (PySem.Value.int (0 : Int) 0), (PySem.Value.int (3 : Int) 0), (kR 80), (PySem.Value.bool true), (PySem.Value.int (181 : Int) 0), (kR 81), kN, (kR 82), (kR 83), (kR 84), (PySem.Value.int (276 : Int) 0), (PySem.Value.int (17 : Int) 0), (kZ (kS "/claim/cut.py") 277)]) #[]))::
  (nat_lit 86, (kO (kY "function") none (PySem.Data.func (PySem.FuncData.mk (kS "small_words") (kS "BadCurrency.small_words") (PySem.Arguments.mk [] [(PySem.Arg.mk (kS "self") none (PySem.Pos.mk 17 20 17 24))] none [] [] none []) (PySem.FuncBody.stmts [(PySem.Stmt.Expr (PySem.Expr.Call (PySem.Expr.Name (kS "_wall") (PySem.Pos.mk 18 8 18 13)) [(PySem.Expr.Constant (PySem.Const.int (2 : Int)) 0 (PySem.Pos.mk 18 14 18 15))] [] (PySem.Pos.mk 18 8 18 16)) (PySem.Pos.mk 18 8 18 16))]) (PySem.Scope.mk PySem.ScopeKind.function [((kS "self"), PySem.NameKind.local), ((kS "_wall"), PySem.NameKind.globalImplicit)] false false []) 3 [] kN kN kN (kZ (kS "evenhall.errors") 194) none (kR 85) kN 0)) #[]))::
  (nat_lit 87, (kO (kY "tuple") none (PySem.Data.seq #[] 0) #[]))::
  (nat_lit 88, (kO (kY "dict") none (PySem.Data.dict #[(kD (keyHash P (kS "__module__")) (kZ (kS "__module__") 267) (kZ (kS "evenhall.errors") 194)), (kD (keyHash P (kS "__firstlineno__")) (kZ (kS "__firstlineno__") 271) (PySem.Value.int (15 : Int) 270)), (kD (keyHash P (kS "small_words")) (kZ (kS "small_words") 278) (kR 86)), (kD (keyHash P (kS "__static_attributes__")) (kZ (kS "__static_attributes__") 279) (kR 87)), (kD (keyHash P (kS "__doc__")) (kZ (kS "__doc__") 280) kN)] 2) #[]))::
  (nat_lit 89, (kO (kY "type") none (PySem.Data.cls (PySem.ClassData.mk (kS "BadCurrency") [(kR 31)] [(kR 89), (kR 31), (kY "ValueError"), (kY "Exception"), (kY "BaseException"), (kY "object")] 88 (kS "BadCurrency") true [] [] false none false)) #[(some (kR 73)), none, (some (kZ (kS "BadCurrency") 260)), (some (kZ (kS "BadCurrency") 268)), (some (kB "ValueError.__new__")), (some (PySem.Value.bool true))]))::
  (nat_lit 92, (kO (kY "tuple") none (PySem.Data.seq #[(kR 31)] 0) #[]))::
  (nat_lit 99, (kO (kY "tuple") none (PySem.Data.seq #[] 0) #[]))::
  (nat_lit 101, (kO (kY "tuple") none (PySem.Data.seq #[(kZ (kS "self") 298)] 0) #[]))::
  (nat_lit 102, (kO (kY "tuple") none (PySem.Data.seq #[] 0) #[]))::
  (nat_lit 104, (kO (kY "code") none (PySem.Data.fields #[(kZ (kS "small_words") 295), (kZ (kS "BadPath.small_words") 296), (kZ (kS "/claim/cut.py") 297), (PySem.Value.int (21 : Int) 0), (PySem.Value.int (1 : Int) 0), (PySem.Value.int (0 : Int) 0), (PySem.Value.int (0 : Int) 0), (PySem.Value.int (3 : Int) 0), (kR 99), (PySem.Value.bool true), (PySem.Value.int (181 : Int) 0), (kR 100), kN, (kR 101), (kR 102), (kR 103), (PySem.Value.int (299 : Int) 0), (PySem.Value.int (21 : Int) 0), (kZ (kS "/claim/cut.py") 300)]) #[]))::
  (nat_lit 105, (kO (kY "function") none (PySem.Data.func (PySem.FuncData.mk (kS "small_words") (kS "BadPath.small_words") (PySem.Arguments.mk [] [(PySem.Arg.mk (kS "self") none (PySem.Pos.mk 21 20 21 24))] none [] [] none []) (PySem.FuncBody.stmts [(PySem.Stmt.Expr (PySem.Expr.Call (PySem.Expr.Name (kS "_wall") (PySem.Pos.mk 22 8 22 13)) [(PySem.Expr.Constant (PySem.Const.int (3 : Int)) 0 (PySem.Pos.mk 22 14 22 15))] [] (PySem.Pos.mk 22 8 22 16)) (PySem.Pos.mk 22 8 22 16))]) (PySem.Scope.mk PySem.ScopeKind.function [((kS "self"), PySem.NameKind.local), ((kS "_wall"), PySem.NameKind.globalImplicit)] false false []) 3 [] kN kN kN (kZ (kS "evenhall.errors") 194) none (kR 104) kN 0)) #[]))::
  (nat_lit 106, (kO (kY "tuple") none (PySem.Data.seq #[] 0) #[]))::
  (nat_lit 107, (kO (kY "dict") none (PySem.Data.dict #[(kD (keyHash P (kS "__module__")) (kZ (kS "__module__") 290) (kZ (kS "evenhall.errors") 194)), (kD (keyHash P (kS "__firstlineno__")) (kZ (kS "__firstlineno__") 294) (PySem.Value.int (19 : Int) 293)), (kD (keyHash P (kS "small_words")) (kZ (kS "small_words") 301) (kR 105)), (kD (keyHash P (kS "__static_attributes__")) (kZ (kS "__static_attributes__") 302) (kR 106)), (kD (keyHash P (kS "__doc__")) (kZ (kS "__doc__") 303) kN)] 2) #[]))::
  (nat_lit 108, (kO (kY "type") none (PySem.Data.cls (PySem.ClassData.mk (kS "BadPath") [(kR 31)] [(kR 108), (kR 31), (kY "ValueError"), (kY "Exception"), (kY "BaseException"), (kY "object")] 107 (kS "BadPath") true [] [] false none false)) #[(some (kR 92)), none, (some (kZ (kS "BadPath") 283)), (some (kZ (kS "BadPath") 291)), (some (kB "ValueError.__new__")), (some (PySem.Value.bool true))]))::
  (nat_lit 111, (kO (kY "tuple") none (PySem.Data.seq #[(kR 31)] 0) #[]))::
  (nat_lit 118, (kO (kY "tuple") none (PySem.Data.seq #[] 0) #[]))::
  (nat_lit 120, (kO (kY "tuple") none (PySem.Data.seq #[(kZ (kS "self") 321)] 0) #[]))::
  (nat_lit 121, (kO (kY "tuple") none (PySem.Data.seq #[] 0) #[]))::
  (nat_lit 123, (kO (kY "code") none (PySem.Data.fields #[(kZ (kS "small_words") 318), (kZ (kS "BadKind.small_words") 319), (kZ (kS "/claim/cut.py") 320), (PySem.Value.int (25 : Int) 0), (PySem.Value.int (1 : Int) 0), (PySem.Value.int (0 : Int) 0), (PySem.Value.int (0 : Int) 0), (PySem.Value.int (3 : Int) 0), (kR 118), (PySem.Value.bool true), (PySem.Value.int (181 : Int) 0), (kR 119), kN, (kR 120), (kR 121), (kR 122), (PySem.Value.int (322 : Int) 0), (PySem.Value.int (25 : Int) 0), (kZ (kS "/claim/cut.py") 323)]) #[]))::
  (nat_lit 124, (kO (kY "function") none (PySem.Data.func (PySem.FuncData.mk (kS "small_words") (kS "BadKind.small_words") (PySem.Arguments.mk [] [(PySem.Arg.mk (kS "self") none (PySem.Pos.mk 25 20 25 24))] none [] [] none []) (PySem.FuncBody.stmts [(PySem.Stmt.Expr (PySem.Expr.Call (PySem.Expr.Name (kS "_wall") (PySem.Pos.mk 26 8 26 13)) [(PySem.Expr.Constant (PySem.Const.int (4 : Int)) 0 (PySem.Pos.mk 26 14 26 15))] [] (PySem.Pos.mk 26 8 26 16)) (PySem.Pos.mk 26 8 26 16))]) (PySem.Scope.mk PySem.ScopeKind.function [((kS "self"), PySem.NameKind.local), ((kS "_wall"), PySem.NameKind.globalImplicit)] false false []) 3 [] kN kN kN (kZ (kS "evenhall.errors") 194) none (kR 123) kN 0)) #[]))::
  (nat_lit 125, (kO (kY "tuple") none (PySem.Data.seq #[] 0) #[]))::
  (nat_lit 126, (kO (kY "dict") none (PySem.Data.dict #[(kD (keyHash P (kS "__module__")) (kZ (kS "__module__") 313) (kZ (kS "evenhall.errors") 194)), (kD (keyHash P (kS "__firstlineno__")) (kZ (kS "__firstlineno__") 317) (PySem.Value.int (23 : Int) 316)), (kD (keyHash P (kS "small_words")) (kZ (kS "small_words") 324) (kR 124)), (kD (keyHash P (kS "__static_attributes__")) (kZ (kS "__static_attributes__") 325) (kR 125)), (kD (keyHash P (kS "__doc__")) (kZ (kS "__doc__") 326) kN)] 2) #[]))::
  (nat_lit 127, (kO (kY "type") none (PySem.Data.cls (PySem.ClassData.mk (kS "BadKind") [(kR 31)] [(kR 127), (kR 31), (kY "ValueError"), (kY "Exception"), (kY "BaseException"), (kY "object")] 126 (kS "BadKind") true [] [] false none false)) #[(some (kR 111)), none, (some (kZ (kS "BadKind") 306)), (some (kZ (kS "BadKind") 314)), (some (kB "ValueError.__new__")), (some (PySem.Value.bool true))]))::
  (nat_lit 130, (kO (kY "tuple") none (PySem.Data.seq #[(kR 31)] 0) #[]))::
  (nat_lit 137, (kO (kY "tuple") none (PySem.Data.seq #[] 0) #[]))::
  (nat_lit 139, (kO (kY "tuple") none (PySem.Data.seq #[(kZ (kS "self") 344)] 0) #[]))::
  (nat_lit 140, (kO (kY "tuple") none (PySem.Data.seq #[] 0) #[]))::
  (nat_lit 142, (kO (kY "code") none (PySem.Data.fields #[(kZ (kS "small_words") 341), (kZ (kS "NoAccount.small_words") 342), (kZ (kS "/claim/cut.py") 343), (PySem.Value.int (29 : Int) 0), (PySem.Value.int (1 : Int) 0), (PySem.Value.int (0 : Int) 0), (PySem.Value.int (0 : Int) 0), (PySem.Value.int (3 : Int) 0), (kR 137), (PySem.Value.bool true), (PySem.Value.int (181 : Int) 0), (kR 138), kN, (kR 139), (kR 140), (kR 141), (PySem.Value.int (345 : Int) 0), (PySem.Value.int (29 : Int) 0), (kZ (kS "/claim/cut.py") 346)]) #[]))::
  (nat_lit 143, (kO (kY "function") none (PySem.Data.func (PySem.FuncData.mk (kS "small_words") (kS "NoAccount.small_words") (PySem.Arguments.mk [] [(PySem.Arg.mk (kS "self") none (PySem.Pos.mk 29 20 29 24))] none [] [] none []) (PySem.FuncBody.stmts [(PySem.Stmt.Expr (PySem.Expr.Call (PySem.Expr.Name (kS "_wall") (PySem.Pos.mk 30 8 30 13)) [(PySem.Expr.Constant (PySem.Const.int (5 : Int)) 0 (PySem.Pos.mk 30 14 30 15))] [] (PySem.Pos.mk 30 8 30 16)) (PySem.Pos.mk 30 8 30 16))]) (PySem.Scope.mk PySem.ScopeKind.function [((kS "self"), PySem.NameKind.local), ((kS "_wall"), PySem.NameKind.globalImplicit)] false false []) 3 [] kN kN kN (kZ (kS "evenhall.errors") 194) none (kR 142) kN 0)) #[]))::
  (nat_lit 144, (kO (kY "tuple") none (PySem.Data.seq #[] 0) #[]))::
  (nat_lit 145, (kO (kY "dict") none (PySem.Data.dict #[(kD (keyHash P (kS "__module__")) (kZ (kS "__module__") 336) (kZ (kS "evenhall.errors") 194)), (kD (keyHash P (kS "__firstlineno__")) (kZ (kS "__firstlineno__") 340) (PySem.Value.int (27 : Int) 339)), (kD (keyHash P (kS "small_words")) (kZ (kS "small_words") 347) (kR 143)), (kD (keyHash P (kS "__static_attributes__")) (kZ (kS "__static_attributes__") 348) (kR 144)), (kD (keyHash P (kS "__doc__")) (kZ (kS "__doc__") 349) kN)] 2) #[]))::
  (nat_lit 146, (kO (kY "type") none (PySem.Data.cls (PySem.ClassData.mk (kS "NoAccount") [(kR 31)] [(kR 146), (kR 31), (kY "ValueError"), (kY "Exception"), (kY "BaseException"), (kY "object")] 145 (kS "NoAccount") true [] [] false none false)) #[(some (kR 130)), none, (some (kZ (kS "NoAccount") 329)), (some (kZ (kS "NoAccount") 337)), (some (kB "ValueError.__new__")), (some (PySem.Value.bool true))]))::
  (nat_lit 149, (kO (kY "tuple") none (PySem.Data.seq #[(kR 31)] 0) #[]))::
  (nat_lit 156, (kO (kY "tuple") none (PySem.Data.seq #[] 0) #[]))::
  (nat_lit 158, (kO (kY "tuple") none (PySem.Data.seq #[(kZ (kS "self") 367)] 0) #[]))::
  (nat_lit 159, (kO (kY "tuple") none (PySem.Data.seq #[] 0) #[]))::
  (nat_lit 161, (kO (kY "code") none (PySem.Data.fields #[(kZ (kS "small_words") 364), (kZ (kS "Twice.small_words") 365), (kZ (kS "/claim/cut.py") 366), (PySem.Value.int (33 : Int) 0), (PySem.Value.int (1 : Int) 0), (PySem.Value.int (0 : Int) 0), (PySem.Value.int (0 : Int) 0), (PySem.Value.int (3 : Int) 0), (kR 156), (PySem.Value.bool true), (PySem.Value.int (181 : Int) 0), (kR 157), kN, (kR 158), (kR 159), (kR 160), (PySem.Value.int (368 : Int) 0), (PySem.Value.int (33 : Int) 0), (kZ (kS "/claim/cut.py") 369)]) #[]))::
  (nat_lit 162, (kO (kY "function") none (PySem.Data.func (PySem.FuncData.mk (kS "small_words") (kS "Twice.small_words") (PySem.Arguments.mk [] [(PySem.Arg.mk (kS "self") none (PySem.Pos.mk 33 20 33 24))] none [] [] none []) (PySem.FuncBody.stmts [(PySem.Stmt.Expr (PySem.Expr.Call (PySem.Expr.Name (kS "_wall") (PySem.Pos.mk 34 8 34 13)) [(PySem.Expr.Constant (PySem.Const.int (6 : Int)) 0 (PySem.Pos.mk 34 14 34 15))] [] (PySem.Pos.mk 34 8 34 16)) (PySem.Pos.mk 34 8 34 16))]) (PySem.Scope.mk PySem.ScopeKind.function [((kS "self"), PySem.NameKind.local), ((kS "_wall"), PySem.NameKind.globalImplicit)] false false []) 3 [] kN kN kN (kZ (kS "evenhall.errors") 194) none (kR 161) kN 0)) #[]))::
  (nat_lit 163, (kO (kY "tuple") none (PySem.Data.seq #[] 0) #[]))::
  (nat_lit 164, (kO (kY "dict") none (PySem.Data.dict #[(kD (keyHash P (kS "__module__")) (kZ (kS "__module__") 359) (kZ (kS "evenhall.errors") 194)), (kD (keyHash P (kS "__firstlineno__")) (kZ (kS "__firstlineno__") 363) (PySem.Value.int (31 : Int) 362)), (kD (keyHash P (kS "small_words")) (kZ (kS "small_words") 370) (kR 162)), (kD (keyHash P (kS "__static_attributes__")) (kZ (kS "__static_attributes__") 371) (kR 163)), (kD (keyHash P (kS "__doc__")) (kZ (kS "__doc__") 372) kN)] 2) #[]))::
  (nat_lit 165, (kO (kY "type") none (PySem.Data.cls (PySem.ClassData.mk (kS "Twice") [(kR 31)] [(kR 165), (kR 31), (kY "ValueError"), (kY "Exception"), (kY "BaseException"), (kY "object")] 164 (kS "Twice") true [] [] false none false)) #[(some (kR 149)), none, (some (kZ (kS "Twice") 352)), (some (kZ (kS "Twice") 360)), (some (kB "ValueError.__new__")), (some (PySem.Value.bool true))]))::
  (nat_lit 168, (kO (kY "tuple") none (PySem.Data.seq #[(kR 31)] 0) #[]))::
  (nat_lit 175, (kO (kY "tuple") none (PySem.Data.seq #[] 0) #[]))::
  (nat_lit 177, (kO (kY "tuple") none (PySem.Data.seq #[(kZ (kS "self") 390)] 0) #[]))::
  (nat_lit 178, (kO (kY "tuple") none (PySem.Data.seq #[] 0) #[]))::
  (nat_lit 180, (kO (kY "code") none (PySem.Data.fields #[(kZ (kS "small_words") 387), (kZ (kS "NotOpen.small_words") 388), (kZ (kS "/claim/cut.py") 389), (PySem.Value.int (37 : Int) 0), (PySem.Value.int (1 : Int) 0), (PySem.Value.int (0 : Int) 0), (PySem.Value.int (0 : Int) 0), (PySem.Value.int (3 : Int) 0), (kR 175), (PySem.Value.bool true), (PySem.Value.int (181 : Int) 0), (kR 176), kN, (kR 177), (kR 178), (kR 179), (PySem.Value.int (391 : Int) 0), (PySem.Value.int (37 : Int) 0), (kZ (kS "/claim/cut.py") 392)]) #[]))::
  (nat_lit 181, (kO (kY "function") none (PySem.Data.func (PySem.FuncData.mk (kS "small_words") (kS "NotOpen.small_words") (PySem.Arguments.mk [] [(PySem.Arg.mk (kS "self") none (PySem.Pos.mk 37 20 37 24))] none [] [] none []) (PySem.FuncBody.stmts [(PySem.Stmt.Expr (PySem.Expr.Call (PySem.Expr.Name (kS "_wall") (PySem.Pos.mk 38 8 38 13)) [(PySem.Expr.Constant (PySem.Const.int (7 : Int)) 0 (PySem.Pos.mk 38 14 38 15))] [] (PySem.Pos.mk 38 8 38 16)) (PySem.Pos.mk 38 8 38 16))]) (PySem.Scope.mk PySem.ScopeKind.function [((kS "self"), PySem.NameKind.local), ((kS "_wall"), PySem.NameKind.globalImplicit)] false false []) 3 [] kN kN kN (kZ (kS "evenhall.errors") 194) none (kR 180) kN 0)) #[]))::
  (nat_lit 182, (kO (kY "tuple") none (PySem.Data.seq #[] 0) #[]))::
  (nat_lit 183, (kO (kY "dict") none (PySem.Data.dict #[(kD (keyHash P (kS "__module__")) (kZ (kS "__module__") 382) (kZ (kS "evenhall.errors") 194)), (kD (keyHash P (kS "__firstlineno__")) (kZ (kS "__firstlineno__") 386) (PySem.Value.int (35 : Int) 385)), (kD (keyHash P (kS "small_words")) (kZ (kS "small_words") 393) (kR 181)), (kD (keyHash P (kS "__static_attributes__")) (kZ (kS "__static_attributes__") 394) (kR 182)), (kD (keyHash P (kS "__doc__")) (kZ (kS "__doc__") 395) kN)] 2) #[]))::
  (nat_lit 184, (kO (kY "type") none (PySem.Data.cls (PySem.ClassData.mk (kS "NotOpen") [(kR 31)] [(kR 184), (kR 31), (kY "ValueError"), (kY "Exception"), (kY "BaseException"), (kY "object")] 183 (kS "NotOpen") true [] [] false none false)) #[(some (kR 168)), none, (some (kZ (kS "NotOpen") 375)), (some (kZ (kS "NotOpen") 383)), (some (kB "ValueError.__new__")), (some (PySem.Value.bool true))]))::
  (nat_lit 187, (kO (kY "tuple") none (PySem.Data.seq #[(kR 31)] 0) #[]))::
  (nat_lit 194, (kO (kY "tuple") none (PySem.Data.seq #[] 0) #[]))::
  (nat_lit 196, (kO (kY "tuple") none (PySem.Data.seq #[(kZ (kS "self") 413)] 0) #[]))::
  (nat_lit 197, (kO (kY "tuple") none (PySem.Data.seq #[] 0) #[]))::
  (nat_lit 199, (kO (kY "code") none (PySem.Data.fields #[(kZ (kS "small_words") 410), (kZ (kS "HasBelow.small_words") 411), (kZ (kS "/claim/cut.py") 412), (PySem.Value.int (41 : Int) 0), (PySem.Value.int (1 : Int) 0), (PySem.Value.int (0 : Int) 0), (PySem.Value.int (0 : Int) 0), (PySem.Value.int (3 : Int) 0), (kR 194), (PySem.Value.bool true), (PySem.Value.int (181 : Int) 0), (kR 195), kN, (kR 196), (kR 197), (kR 198), (PySem.Value.int (414 : Int) 0), (PySem.Value.int (41 : Int) 0), (kZ (kS "/claim/cut.py") 415)]) #[]))::
  (nat_lit 200, (kO (kY "function") none (PySem.Data.func (PySem.FuncData.mk (kS "small_words") (kS "HasBelow.small_words") (PySem.Arguments.mk [] [(PySem.Arg.mk (kS "self") none (PySem.Pos.mk 41 20 41 24))] none [] [] none []) (PySem.FuncBody.stmts [(PySem.Stmt.Expr (PySem.Expr.Call (PySem.Expr.Name (kS "_wall") (PySem.Pos.mk 42 8 42 13)) [(PySem.Expr.Constant (PySem.Const.int (8 : Int)) 0 (PySem.Pos.mk 42 14 42 15))] [] (PySem.Pos.mk 42 8 42 16)) (PySem.Pos.mk 42 8 42 16))]) (PySem.Scope.mk PySem.ScopeKind.function [((kS "self"), PySem.NameKind.local), ((kS "_wall"), PySem.NameKind.globalImplicit)] false false []) 3 [] kN kN kN (kZ (kS "evenhall.errors") 194) none (kR 199) kN 0)) #[]))::
  (nat_lit 201, (kO (kY "tuple") none (PySem.Data.seq #[] 0) #[]))::
  (nat_lit 202, (kO (kY "dict") none (PySem.Data.dict #[(kD (keyHash P (kS "__module__")) (kZ (kS "__module__") 405) (kZ (kS "evenhall.errors") 194)), (kD (keyHash P (kS "__firstlineno__")) (kZ (kS "__firstlineno__") 409) (PySem.Value.int (39 : Int) 408)), (kD (keyHash P (kS "small_words")) (kZ (kS "small_words") 416) (kR 200)), (kD (keyHash P (kS "__static_attributes__")) (kZ (kS "__static_attributes__") 417) (kR 201)), (kD (keyHash P (kS "__doc__")) (kZ (kS "__doc__") 418) kN)] 2) #[]))::
  (nat_lit 203, (kO (kY "type") none (PySem.Data.cls (PySem.ClassData.mk (kS "HasBelow") [(kR 31)] [(kR 203), (kR 31), (kY "ValueError"), (kY "Exception"), (kY "BaseException"), (kY "object")] 202 (kS "HasBelow") true [] [] false none false)) #[(some (kR 187)), none, (some (kZ (kS "HasBelow") 398)), (some (kZ (kS "HasBelow") 406)), (some (kB "ValueError.__new__")), (some (PySem.Value.bool true))]))::
  (nat_lit 206, (kO (kY "tuple") none (PySem.Data.seq #[] 0) #[]))::
  (nat_lit 208, (kO (kY "tuple") none (PySem.Data.seq #[(kZ (kS "thing") 426)] 0) #[]))::
  (nat_lit 209, (kO (kY "tuple") none (PySem.Data.seq #[] 0) #[]))::
  (nat_lit 211, (kO (kY "code") none (PySem.Data.fields #[(kZ (kS "is_whole") 423), (kZ (kS "is_whole") 424), (kZ (kS "/claim/cut.py") 425), (PySem.Value.int (44 : Int) 0), (PySem.Value.int (1 : Int) 0), (PySem.Value.int (0 : Int) 0), (PySem.Value.int (0 : Int) 0), (PySem.Value.int (3 : Int) 0), (kR 206), (PySem.Value.bool true), (PySem.Value.int (181 : Int) 0), (kR 207), kN, (kR 208), (kR 209), (kR 210), (PySem.Value.int (427 : Int) 0), (PySem.Value.int (44 : Int) 0), (kZ (kS "/claim/cut.py") 428)]) #[]))::
  (nat_lit 212, (kO (kY "function") none (PySem.Data.func (PySem.W.fnOf (kS "is_whole") (kS "is_whole") (defArgs s_is_whole) (defBody s_is_whole) (defScope s_is_whole) kN kN kN (kZ (kS "evenhall.words") 421) none (kR 211) kN)) #[]))::
  (nat_lit 213, (kO (kY "tuple") none (PySem.Data.seq #[] 0) #[]))::
  (nat_lit 215, (kO (kY "tuple") none (PySem.Data.seq #[(kZ (kS "thing") 433), (kZ (kS "least") 434), (kZ (kS "most") 435)] 0) #[]))::
  (nat_lit 216, (kO (kY "tuple") none (PySem.Data.seq #[] 0) #[]))::
  (nat_lit 218, (kO (kY "code") none (PySem.Data.fields #[(kZ (kS "is_among") 430), (kZ (kS "is_among") 431), (kZ (kS "/claim/cut.py") 432), (PySem.Value.int (46 : Int) 0), (PySem.Value.int (3 : Int) 0), (PySem.Value.int (0 : Int) 0), (PySem.Value.int (0 : Int) 0), (PySem.Value.int (3 : Int) 0), (kR 213), (PySem.Value.bool true), (PySem.Value.int (181 : Int) 0), (kR 214), kN, (kR 215), (kR 216), (kR 217), (PySem.Value.int (436 : Int) 0), (PySem.Value.int (46 : Int) 0), (kZ (kS "/claim/cut.py") 437)]) #[]))::
  (nat_lit 219, (kO (kY "function") none (PySem.Data.func (PySem.W.fnOf (kS "is_among") (kS "is_among") (defArgs s_is_among) (defBody s_is_among) (defScope s_is_among) kN kN kN (kZ (kS "evenhall.words") 421) none (kR 218) kN)) #[]))::
  (nat_lit 220, (kO (kY "tuple") none (PySem.Data.seq #[] 0) #[]))::
  (nat_lit 223, (kO (kY "code") none (PySem.Data.fields #[(kZ (kS "signs_lie") 439), (kZ (kS "signs_lie") 440), (kZ (kS "/claim/cut.py") 441), (PySem.Value.int (48 : Int) 0), (PySem.Value.int (3 : Int) 0), (PySem.Value.int (0 : Int) 0), (PySem.Value.int (0 : Int) 0), (PySem.Value.int (3 : Int) 0), (kR 220), (PySem.Value.bool true), (PySem.Value.int (181 : Int) 0), (kR 221), kN, kN, kN, (kR 222), (PySem.Value.int (442 : Int) 0), (PySem.Value.int (48 : Int) 0), (kZ (kS "/claim/cut.py") 443)]) #[]))::
  (nat_lit 224, (kO (kY "function") none (PySem.Data.func (PySem.W.fnOf (kS "signs_lie") (kS "signs_lie") (defArgs s_signs_lie) (defBody s_signs_lie) (defScope s_signs_lie) kN kN kN (kZ (kS "evenhall.words") 421) none (kR 223) kN)) #[]))::
  (nat_lit 225, (kO (kY "tuple") none (PySem.Data.seq #[] 0) #[]))::
  (nat_lit 227, (kO (kY "tuple") none (PySem.Data.seq #[(kZ (kS "thing") 448)] 0) #[]))::
  (nat_lit 228, (kO (kY "tuple") none (PySem.Data.seq #[] 0) #[]))::
  (nat_lit 230, (kO (kY "code") none (PySem.Data.fields #[(kZ (kS "is_name") 445), (kZ (kS "is_name") 446), (kZ (kS "/claim/cut.py") 447), (PySem.Value.int (50 : Int) 0), (PySem.Value.int (1 : Int) 0), (PySem.Value.int (0 : Int) 0), (PySem.Value.int (0 : Int) 0), (PySem.Value.int (3 : Int) 0), (kR 225), (PySem.Value.bool true), (PySem.Value.int (181 : Int) 0), (kR 226), kN, (kR 227), (kR 228), (kR 229), (PySem.Value.int (449 : Int) 0), (PySem.Value.int (50 : Int) 0), (kZ (kS "/claim/cut.py") 450)]) #[]))::
  (nat_lit 231, (kO (kY "function") none (PySem.Data.func (PySem.W.fnOf (kS "is_name") (kS "is_name") (defArgs s_is_name) (defBody s_is_name) (defScope s_is_name) kN kN kN (kZ (kS "evenhall.words") 421) none (kR 230) kN)) #[]))::
  (nat_lit 232, (kO (kY "tuple") none (PySem.Data.seq #[] 0) #[]))::
  (nat_lit 234, (kO (kY "tuple") none (PySem.Data.seq #[(kZ (kS "thing") 457)] 0) #[]))::
  (nat_lit 235, (kO (kY "tuple") none (PySem.Data.seq #[] 0) #[]))::
  (nat_lit 237, (kO (kY "code") none (PySem.Data.fields #[(kZ (kS "is_day") 454), (kZ (kS "is_day") 455), (kZ (kS "/claim/cut.py") 456), (PySem.Value.int (53 : Int) 0), (PySem.Value.int (1 : Int) 0), (PySem.Value.int (0 : Int) 0), (PySem.Value.int (0 : Int) 0), (PySem.Value.int (3 : Int) 0), (kR 232), (PySem.Value.bool true), (PySem.Value.int (181 : Int) 0), (kR 233), kN, (kR 234), (kR 235), (kR 236), (PySem.Value.int (458 : Int) 0), (PySem.Value.int (53 : Int) 0), (kZ (kS "/claim/cut.py") 459)]) #[]))::
  (nat_lit 238, (kO (kY "function") none (PySem.Data.func (PySem.W.fnOf (kS "is_day") (kS "is_day") (defArgs s_is_day) (defBody s_is_day) (defScope s_is_day) kN kN kN (kZ (kS "evenhall.days") 452) none (kR 237) kN)) #[]))::
  (nat_lit 239, (kO (kY "tuple") none (PySem.Data.seq #[] 0) #[]))::
  (nat_lit 241, (kO (kY "tuple") none (PySem.Data.seq #[(kZ (kS "thing") 466)] 0) #[]))::
  (nat_lit 242, (kO (kY "tuple") none (PySem.Data.seq #[] 0) #[]))::
  (nat_lit 244, (kO (kY "code") none (PySem.Data.fields #[(kZ (kS "is_currency") 463), (kZ (kS "is_currency") 464), (kZ (kS "/claim/cut.py") 465), (PySem.Value.int (56 : Int) 0), (PySem.Value.int (1 : Int) 0), (PySem.Value.int (0 : Int) 0), (PySem.Value.int (0 : Int) 0), (PySem.Value.int (3 : Int) 0), (kR 239), (PySem.Value.bool true), (PySem.Value.int (181 : Int) 0), (kR 240), kN, (kR 241), (kR 242), (kR 243), (PySem.Value.int (467 : Int) 0), (PySem.Value.int (56 : Int) 0), (kZ (kS "/claim/cut.py") 468)]) #[]))::
  (nat_lit 245, (kO (kY "function") none (PySem.Data.func (PySem.W.fnOf (kS "is_currency") (kS "is_currency") (defArgs s_is_currency) (defBody s_is_currency) (defScope s_is_currency) kN kN kN (kZ (kS "evenhall.money") 461) none (kR 244) kN)) #[]))::
  (nat_lit 246, (kO (kY "tuple") none (PySem.Data.seq #[] 0) #[]))::
  (nat_lit 249, (kO (kY "code") none (PySem.Data.fields #[(kZ (kS "are_names") 472), (kZ (kS "are_names") 473), (kZ (kS "/claim/cut.py") 474), (PySem.Value.int (59 : Int) 0), (PySem.Value.int (1 : Int) 0), (PySem.Value.int (0 : Int) 0), (PySem.Value.int (0 : Int) 0), (PySem.Value.int (3 : Int) 0), (kR 246), (PySem.Value.bool true), (PySem.Value.int (181 : Int) 0), (kR 247), kN, kN, kN, (kR 248), (PySem.Value.int (475 : Int) 0), (PySem.Value.int (59 : Int) 0), (kZ (kS "/claim/cut.py") 476)]) #[]))::
  (nat_lit 250, (kO (kY "function") none (PySem.Data.func (PySem.W.fnOf (kS "are_names") (kS "are_names") (defArgs s_are_names) (defBody s_are_names) (defScope s_are_names) kN kN kN (kZ (kS "evenhall.paths") 470) none (kR 249) kN)) #[]))::
  (nat_lit 251, (kO (kY "tuple") none (PySem.Data.seq #[] 0) #[]))::
  (nat_lit 253, (kO (kY "tuple") none (PySem.Data.seq #[(kZ (kS "thing") 481)] 0) #[]))::
  (nat_lit 254, (kO (kY "tuple") none (PySem.Data.seq #[] 0) #[]))::
  (nat_lit 256, (kO (kY "code") none (PySem.Data.fields #[(kZ (kS "is_path") 478), (kZ (kS "is_path") 479), (kZ (kS "/claim/cut.py") 480), (PySem.Value.int (61 : Int) 0), (PySem.Value.int (1 : Int) 0), (PySem.Value.int (0 : Int) 0), (PySem.Value.int (0 : Int) 0), (PySem.Value.int (3 : Int) 0), (kR 251), (PySem.Value.bool true), (PySem.Value.int (181 : Int) 0), (kR 252), kN, (kR 253), (kR 254), (kR 255), (PySem.Value.int (482 : Int) 0), (PySem.Value.int (61 : Int) 0), (kZ (kS "/claim/cut.py") 483)]) #[]))::
  (nat_lit 257, (kO (kY "function") none (PySem.Data.func (PySem.W.fnOf (kS "is_path") (kS "is_path") (defArgs s_is_path) (defBody s_is_path) (defScope s_is_path) kN kN kN (kZ (kS "evenhall.paths") 470) none (kR 256) kN)) #[]))::
  (nat_lit 258, (kO (kY "tuple") none (PySem.Data.seq #[] 0) #[]))::
  (nat_lit 260, (kO (kY "tuple") none (PySem.Data.seq #[(kZ (kS "path") 488)] 0) #[]))::
  (nat_lit 261, (kO (kY "tuple") none (PySem.Data.seq #[] 0) #[]))::
  (nat_lit 263, (kO (kY "code") none (PySem.Data.fields #[(kZ (kS "names_of") 485), (kZ (kS "names_of") 486), (kZ (kS "/claim/cut.py") 487), (PySem.Value.int (63 : Int) 0), (PySem.Value.int (1 : Int) 0), (PySem.Value.int (0 : Int) 0), (PySem.Value.int (0 : Int) 0), (PySem.Value.int (3 : Int) 0), (kR 258), (PySem.Value.bool true), (PySem.Value.int (181 : Int) 0), (kR 259), kN, (kR 260), (kR 261), (kR 262), (PySem.Value.int (489 : Int) 0), (PySem.Value.int (63 : Int) 0), (kZ (kS "/claim/cut.py") 490)]) #[]))::
  (nat_lit 264, (kO (kY "function") none (PySem.Data.func (PySem.W.fnOf (kS "names_of") (kS "names_of") (defArgs s_names_of) (defBody s_names_of) (defScope s_names_of) kN kN kN (kZ (kS "evenhall.paths") 470) none (kR 263) kN)) #[]))::
  (nat_lit 265, (kO (kY "tuple") none (PySem.Data.seq #[] 0) #[]))::
  (nat_lit 268, (kO (kY "code") none (PySem.Data.fields #[(kZ (kS "above") 492), (kZ (kS "above") 493), (kZ (kS "/claim/cut.py") 494), (PySem.Value.int (67 : Int) 0), (PySem.Value.int (1 : Int) 0), (PySem.Value.int (0 : Int) 0), (PySem.Value.int (0 : Int) 0), (PySem.Value.int (3 : Int) 0), (kR 265), (PySem.Value.bool true), (PySem.Value.int (181 : Int) 0), (kR 266), kN, kN, kN, (kR 267), (PySem.Value.int (495 : Int) 0), (PySem.Value.int (67 : Int) 0), (kZ (kS "/claim/cut.py") 496)]) #[]))::
  (nat_lit 269, (kO (kY "function") none (PySem.Data.func (PySem.W.fnOf (kS "above") (kS "above") (defArgs s_above) (defBody s_above) (defScope s_above) kN kN kN (kZ (kS "evenhall.paths") 470) none (kR 268) kN)) #[]))::
  (nat_lit 270, (kO (kY "tuple") none (PySem.Data.seq #[(kZ (kS "have") 500), (kZ (kS "owe") 501), (kZ (kS "own") 502), (kZ (kS "gain") 503), (kZ (kS "cost") 504)] 0) #[]))::
  (nat_lit 278, (kO (kY "tuple") none (PySem.Data.seq #[] 0) #[]))::
  (nat_lit 280, (kO (kY "tuple") none (PySem.Data.seq #[(kZ (kS "self") 521), (kZ (kS "kind") 522), (kZ (kS "currency") 523), (kZ (kS "first") 524)] 0) #[]))::
  (nat_lit 281, (kO (kY "tuple") none (PySem.Data.seq #[] 0) #[]))::
  (nat_lit 283, (kO (kY "code") none (PySem.Data.fields #[(kZ (kS "__init__") 518), (kZ (kS "Account.__init__") 519), (kZ (kS "/claim/cut.py") 520), (PySem.Value.int (74 : Int) 0), (PySem.Value.int (4 : Int) 0), (PySem.Value.int (0 : Int) 0), (PySem.Value.int (0 : Int) 0), (PySem.Value.int (3 : Int) 0), (kR 278), (PySem.Value.bool true), (PySem.Value.int (181 : Int) 0), (kR 279), kN, (kR 280), (kR 281), (kR 282), (PySem.Value.int (525 : Int) 0), (PySem.Value.int (74 : Int) 0), (kZ (kS "/claim/cut.py") 526)]) #[]))::
  (nat_lit 284, (kO (kY "function") none (PySem.Data.func (PySem.W.fnOf (kS "__init__") (kS "Account.__init__") (defArgs s_Account___init__) (defBody s_Account___init__) (defScope s_Account___init__) kN kN kN (kZ (kS "evenhall.chart") 498) none (kR 283) kN)) #[]))::
  (nat_lit 285, (kO (kY "tuple") none (PySem.Data.seq #[] 0) #[]))::
  (nat_lit 287, (kO (kY "tuple") none (PySem.Data.seq #[(kZ (kS "self") 531), (kZ (kS "day") 532)] 0) #[]))::
  (nat_lit 288, (kO (kY "tuple") none (PySem.Data.seq #[] 0) #[]))::
  (nat_lit 290, (kO (kY "code") none (PySem.Data.fields #[(kZ (kS "stands_on") 528), (kZ (kS "Account.stands_on") 529), (kZ (kS "/claim/cut.py") 530), (PySem.Value.int (81 : Int) 0), (PySem.Value.int (2 : Int) 0), (PySem.Value.int (0 : Int) 0), (PySem.Value.int (0 : Int) 0), (PySem.Value.int (3 : Int) 0), (kR 285), (PySem.Value.bool true), (PySem.Value.int (181 : Int) 0), (kR 286), kN, (kR 287), (kR 288), (kR 289), (PySem.Value.int (533 : Int) 0), (PySem.Value.int (81 : Int) 0), (kZ (kS "/claim/cut.py") 534)]) #[]))::
  (nat_lit 291, (kO (kY "function") none (PySem.Data.func (PySem.W.fnOf (kS "stands_on") (kS "Account.stands_on") (defArgs s_Account_stands_on) (defBody s_Account_stands_on) (defScope s_Account_stands_on) kN kN kN (kZ (kS "evenhall.chart") 498) none (kR 290) kN)) #[]))::
  (nat_lit 292, (kO (kY "tuple") none (PySem.Data.seq #[] 0) #[]))::
  (nat_lit 294, (kO (kY "tuple") none (PySem.Data.seq #[(kZ (kS "self") 539), (kZ (kS "day") 540)] 0) #[]))::
  (nat_lit 295, (kO (kY "tuple") none (PySem.Data.seq #[] 0) #[]))::
  (nat_lit 297, (kO (kY "code") none (PySem.Data.fields #[(kZ (kS "stands_later") 536), (kZ (kS "Account.stands_later") 537), (kZ (kS "/claim/cut.py") 538), (PySem.Value.int (84 : Int) 0), (PySem.Value.int (2 : Int) 0), (PySem.Value.int (0 : Int) 0), (PySem.Value.int (0 : Int) 0), (PySem.Value.int (3 : Int) 0), (kR 292), (PySem.Value.bool true), (PySem.Value.int (181 : Int) 0), (kR 293), kN, (kR 294), (kR 295), (kR 296), (PySem.Value.int (541 : Int) 0), (PySem.Value.int (84 : Int) 0), (kZ (kS "/claim/cut.py") 542)]) #[]))::
  (nat_lit 298, (kO (kY "function") none (PySem.Data.func (PySem.W.fnOf (kS "stands_later") (kS "Account.stands_later") (defArgs s_Account_stands_later) (defBody s_Account_stands_later) (defScope s_Account_stands_later) kN kN kN (kZ (kS "evenhall.chart") 498) none (kR 297) kN)) #[]))::
  (nat_lit 299, (kO (kY "tuple") none (PySem.Data.seq #[(kZ (kS "below") 544), (kZ (kS "currency") 545), (kZ (kS "first") 546), (kZ (kS "kind") 547), (kZ (kS "until") 548)] 0) #[]))::
  (nat_lit 300, (kO (kY "dict") none (PySem.Data.dict #[(kD (keyHash P (kS "__module__")) (kZ (kS "__module__") 513) (kZ (kS "evenhall.chart") 498)), (kD (keyHash P (kS "__firstlineno__")) (kZ (kS "__firstlineno__") 517) (PySem.Value.int (72 : Int) 516)), (kD (keyHash P (kS "__init__")) (kZ (kS "__init__") 527) (kR 284)), (kD (keyHash P (kS "stands_on")) (kZ (kS "stands_on") 535) (kR 291)), (kD (keyHash P (kS "stands_later")) (kZ (kS "stands_later") 543) (kR 298)), (kD (keyHash P (kS "__static_attributes__")) (kZ (kS "__static_attributes__") 549) (kR 299)), (kD (keyHash P (kS "__dict__")) (kZ (kS "__dict__") 551) (kR 302)), (kD (keyHash P (kS "__weakref__")) (kZ (kS "__weakref__") 553) (kR 303)), (kD (keyHash P (kS "__doc__")) (kZ (kS "__doc__") 554) kN)] 4) #[]))::
  (nat_lit 301, (kO (kY "type") none (PySem.Data.cls (PySem.ClassData.mk (kS "Account") [(kY "object")] [(kR 301), (kY "object")] 300 (kS "Account") true [] [] false none false)) #[none, none, (some (kZ (kS "Account") 506)), (some (kZ (kS "Account") 514)), (some (kB "object.__new__")), (some (PySem.Value.bool true))]))::
  (nat_lit 302, (kO (kY "getset_descriptor") none (PySem.Data.fields #[(kZ (kS "__dict__") 550), (kR 301), (kB "function.__dict__"), (kB "function.__dict__#set")]) #[]))::
  (nat_lit 303, (kO (kY "getset_descriptor") none (PySem.Data.fields #[(kZ (kS "__weakref__") 552), (kR 301), (kB "ExceptionGroup.__weakref__"), kN]) #[]))::
  (nat_lit 313, (kO (kY "tuple") none (PySem.Data.seq #[] 0) #[]))::
  (nat_lit 315, (kO (kY "tuple") none (PySem.Data.seq #[(kZ (kS "self") 572)] 0) #[]))::
  (nat_lit 316, (kO (kY "tuple") none (PySem.Data.seq #[] 0) #[]))::
  (nat_lit 318, (kO (kY "code") none (PySem.Data.fields #[(kZ (kS "__init__") 569), (kZ (kS "Chart.__init__") 570), (kZ (kS "/claim/cut.py") 571), (PySem.Value.int (88 : Int) 0), (PySem.Value.int (1 : Int) 0), (PySem.Value.int (0 : Int) 0), (PySem.Value.int (0 : Int) 0), (PySem.Value.int (3 : Int) 0), (kR 313), (PySem.Value.bool true), (PySem.Value.int (181 : Int) 0), (kR 314), kN, (kR 315), (kR 316), (kR 317), (PySem.Value.int (573 : Int) 0), (PySem.Value.int (88 : Int) 0), (kZ (kS "/claim/cut.py") 574)]) #[]))::
  (nat_lit 319, (kO (kY "function") none (PySem.Data.func (PySem.W.fnOf (kS "__init__") (kS "Chart.__init__") (defArgs s_Chart___init__) (defBody s_Chart___init__) (defScope s_Chart___init__) kN kN kN (kZ (kS "evenhall.chart") 498) none (kR 318) kN)) #[]))::
  (nat_lit 320, (kO (kY "tuple") none (PySem.Data.seq #[] 0) #[]))::
  (nat_lit 322, (kO (kY "tuple") none (PySem.Data.seq #[(kZ (kS "self") 579), (kZ (kS "name") 580), (kZ (kS "kind") 581)] 0) #[]))::
  (nat_lit 323, (kO (kY "tuple") none (PySem.Data.seq #[] 0) #[]))::
  (nat_lit 325, (kO (kY "code") none (PySem.Data.fields #[(kZ (kS "add_top") 576), (kZ (kS "Chart.add_top") 577), (kZ (kS "/claim/cut.py") 578), (PySem.Value.int (91 : Int) 0), (PySem.Value.int (3 : Int) 0), (PySem.Value.int (0 : Int) 0), (PySem.Value.int (0 : Int) 0), (PySem.Value.int (3 : Int) 0), (kR 320), (PySem.Value.bool true), (PySem.Value.int (181 : Int) 0), (kR 321), kN, (kR 322), (kR 323), (kR 324), (PySem.Value.int (582 : Int) 0), (PySem.Value.int (91 : Int) 0), (kZ (kS "/claim/cut.py") 583)]) #[]))::
  (nat_lit 326, (kO (kY "function") none (PySem.Data.func (PySem.W.fnOf (kS "add_top") (kS "Chart.add_top") (defArgs s_Chart_add_top) (defBody s_Chart_add_top) (defScope s_Chart_add_top) kN kN kN (kZ (kS "evenhall.chart") 498) none (kR 325) kN)) #[]))::
  (nat_lit 327, (kO (kY "tuple") none (PySem.Data.seq #[] 0) #[]))::
  (nat_lit 329, (kO (kY "tuple") none (PySem.Data.seq #[(kZ (kS "self") 588), (kZ (kS "path") 589), (kZ (kS "currency") 590), (kZ (kS "day") 591), (kZ (kS "upper") 592)] 0) #[]))::
  (nat_lit 330, (kO (kY "tuple") none (PySem.Data.seq #[] 0) #[]))::
  (nat_lit 332, (kO (kY "code") none (PySem.Data.fields #[(kZ (kS "add") 585), (kZ (kS "Chart.add") 586), (kZ (kS "/claim/cut.py") 587), (PySem.Value.int (100 : Int) 0), (PySem.Value.int (4 : Int) 0), (PySem.Value.int (0 : Int) 0), (PySem.Value.int (0 : Int) 0), (PySem.Value.int (3 : Int) 0), (kR 327), (PySem.Value.bool true), (PySem.Value.int (181 : Int) 0), (kR 328), kN, (kR 329), (kR 330), (kR 331), (PySem.Value.int (593 : Int) 0), (PySem.Value.int (100 : Int) 0), (kZ (kS "/claim/cut.py") 594)]) #[]))::
  (nat_lit 333, (kO (kY "function") none (PySem.Data.func (PySem.W.fnOf (kS "add") (kS "Chart.add") (defArgs s_Chart_add) (defBody s_Chart_add) (defScope s_Chart_add) kN kN kN (kZ (kS "evenhall.chart") 498) none (kR 332) kN)) #[]))::
  (nat_lit 334, (kO (kY "tuple") none (PySem.Data.seq #[] 0) #[]))::
  (nat_lit 337, (kO (kY "code") none (PySem.Data.fields #[(kZ (kS "shut") 596), (kZ (kS "Chart.shut") 597), (kZ (kS "/claim/cut.py") 598), (PySem.Value.int (115 : Int) 0), (PySem.Value.int (3 : Int) 0), (PySem.Value.int (0 : Int) 0), (PySem.Value.int (0 : Int) 0), (PySem.Value.int (3 : Int) 0), (kR 334), (PySem.Value.bool true), (PySem.Value.int (181 : Int) 0), (kR 335), kN, kN, kN, (kR 336), (PySem.Value.int (599 : Int) 0), (PySem.Value.int (115 : Int) 0), (kZ (kS "/claim/cut.py") 600)]) #[]))::
  (nat_lit 338, (kO (kY "function") none (PySem.Data.func (PySem.W.fnOf (kS "shut") (kS "Chart.shut") (defArgs s_Chart_shut) (defBody s_Chart_shut) (defScope s_Chart_shut) kN kN kN (kZ (kS "evenhall.chart") 498) none (kR 337) kN)) #[]))::
  (nat_lit 339, (kO (kY "tuple") none (PySem.Data.seq #[] 0) #[]))::
  (nat_lit 341, (kO (kY "tuple") none (PySem.Data.seq #[(kZ (kS "self") 605), (kZ (kS "path") 606)] 0) #[]))::
  (nat_lit 342, (kO (kY "tuple") none (PySem.Data.seq #[] 0) #[]))::
  (nat_lit 344, (kO (kY "code") none (PySem.Data.fields #[(kZ (kS "has") 602), (kZ (kS "Chart.has") 603), (kZ (kS "/claim/cut.py") 604), (PySem.Value.int (127 : Int) 0), (PySem.Value.int (2 : Int) 0), (PySem.Value.int (0 : Int) 0), (PySem.Value.int (0 : Int) 0), (PySem.Value.int (3 : Int) 0), (kR 339), (PySem.Value.bool true), (PySem.Value.int (181 : Int) 0), (kR 340), kN, (kR 341), (kR 342), (kR 343), (PySem.Value.int (607 : Int) 0), (PySem.Value.int (127 : Int) 0), (kZ (kS "/claim/cut.py") 608)]) #[]))::
  (nat_lit 345, (kO (kY "function") none (PySem.Data.func (PySem.W.fnOf (kS "has") (kS "Chart.has") (defArgs s_Chart_has) (defBody s_Chart_has) (defScope s_Chart_has) kN kN kN (kZ (kS "evenhall.chart") 498) none (kR 344) kN)) #[]))::
  (nat_lit 346, (kO (kY "tuple") none (PySem.Data.seq #[] 0) #[]))::
  (nat_lit 348, (kO (kY "tuple") none (PySem.Data.seq #[(kZ (kS "self") 613), (kZ (kS "path") 614)] 0) #[]))::
  (nat_lit 349, (kO (kY "tuple") none (PySem.Data.seq #[] 0) #[]))::
  (nat_lit 351, (kO (kY "code") none (PySem.Data.fields #[(kZ (kS "account") 610), (kZ (kS "Chart.account") 611), (kZ (kS "/claim/cut.py") 612), (PySem.Value.int (130 : Int) 0), (PySem.Value.int (2 : Int) 0), (PySem.Value.int (0 : Int) 0), (PySem.Value.int (0 : Int) 0), (PySem.Value.int (3 : Int) 0), (kR 346), (PySem.Value.bool true), (PySem.Value.int (181 : Int) 0), (kR 347), kN, (kR 348), (kR 349), (kR 350), (PySem.Value.int (615 : Int) 0), (PySem.Value.int (130 : Int) 0), (kZ (kS "/claim/cut.py") 616)]) #[]))::
  (nat_lit 352, (kO (kY "function") none (PySem.Data.func (PySem.W.fnOf (kS "account") (kS "Chart.account") (defArgs s_Chart_account) (defBody s_Chart_account) (defScope s_Chart_account) kN kN kN (kZ (kS "evenhall.chart") 498) none (kR 351) kN)) #[]))::
  (nat_lit 353, (kO (kY "tuple") none (PySem.Data.seq #[] 0) #[]))::
  (nat_lit 355, (kO (kY "tuple") none (PySem.Data.seq #[(kZ (kS "self") 621), (kZ (kS "path") 622)] 0) #[]))::
  (nat_lit 356, (kO (kY "tuple") none (PySem.Data.seq #[] 0) #[]))::
  (nat_lit 358, (kO (kY "code") none (PySem.Data.fields #[(kZ (kS "kind_of") 618), (kZ (kS "Chart.kind_of") 619), (kZ (kS "/claim/cut.py") 620), (PySem.Value.int (135 : Int) 0), (PySem.Value.int (2 : Int) 0), (PySem.Value.int (0 : Int) 0), (PySem.Value.int (0 : Int) 0), (PySem.Value.int (3 : Int) 0), (kR 353), (PySem.Value.bool true), (PySem.Value.int (181 : Int) 0), (kR 354), kN, (kR 355), (kR 356), (kR 357), (PySem.Value.int (623 : Int) 0), (PySem.Value.int (135 : Int) 0), (kZ (kS "/claim/cut.py") 624)]) #[]))::
  (nat_lit 359, (kO (kY "function") none (PySem.Data.func (PySem.W.fnOf (kS "kind_of") (kS "Chart.kind_of") (defArgs s_Chart_kind_of) (defBody s_Chart_kind_of) (defScope s_Chart_kind_of) kN kN kN (kZ (kS "evenhall.chart") 498) none (kR 358) kN)) #[]))::
  (nat_lit 360, (kO (kY "tuple") none (PySem.Data.seq #[] 0) #[]))::
  (nat_lit 362, (kO (kY "tuple") none (PySem.Data.seq #[(kZ (kS "self") 629), (kZ (kS "path") 630)] 0) #[]))::
  (nat_lit 363, (kO (kY "tuple") none (PySem.Data.seq #[] 0) #[]))::
  (nat_lit 365, (kO (kY "code") none (PySem.Data.fields #[(kZ (kS "currency_of") 626), (kZ (kS "Chart.currency_of") 627), (kZ (kS "/claim/cut.py") 628), (PySem.Value.int (138 : Int) 0), (PySem.Value.int (2 : Int) 0), (PySem.Value.int (0 : Int) 0), (PySem.Value.int (0 : Int) 0), (PySem.Value.int (3 : Int) 0), (kR 360), (PySem.Value.bool true), (PySem.Value.int (181 : Int) 0), (kR 361), kN, (kR 362), (kR 363), (kR 364), (PySem.Value.int (631 : Int) 0), (PySem.Value.int (138 : Int) 0), (kZ (kS "/claim/cut.py") 632)]) #[]))::
  (nat_lit 366, (kO (kY "function") none (PySem.Data.func (PySem.W.fnOf (kS "currency_of") (kS "Chart.currency_of") (defArgs s_Chart_currency_of) (defBody s_Chart_currency_of) (defScope s_Chart_currency_of) kN kN kN (kZ (kS "evenhall.chart") 498) none (kR 365) kN)) #[]))::
  (nat_lit 367, (kO (kY "tuple") none (PySem.Data.seq #[] 0) #[]))::
  (nat_lit 369, (kO (kY "tuple") none (PySem.Data.seq #[(kZ (kS "self") 637), (kZ (kS "path") 638), (kZ (kS "account") 639)] 0) #[]))::
  (nat_lit 370, (kO (kY "tuple") none (PySem.Data.seq #[] 0) #[]))::
  (nat_lit 372, (kO (kY "code") none (PySem.Data.fields #[(kZ (kS "span_of") 634), (kZ (kS "Chart.span_of") 635), (kZ (kS "/claim/cut.py") 636), (PySem.Value.int (141 : Int) 0), (PySem.Value.int (2 : Int) 0), (PySem.Value.int (0 : Int) 0), (PySem.Value.int (0 : Int) 0), (PySem.Value.int (3 : Int) 0), (kR 367), (PySem.Value.bool true), (PySem.Value.int (181 : Int) 0), (kR 368), kN, (kR 369), (kR 370), (kR 371), (PySem.Value.int (640 : Int) 0), (PySem.Value.int (141 : Int) 0), (kZ (kS "/claim/cut.py") 641)]) #[]))::
  (nat_lit 373, (kO (kY "function") none (PySem.Data.func (PySem.W.fnOf (kS "span_of") (kS "Chart.span_of") (defArgs s_Chart_span_of) (defBody s_Chart_span_of) (defScope s_Chart_span_of) kN kN kN (kZ (kS "evenhall.chart") 498) none (kR 372) kN)) #[]))::
  (nat_lit 374, (kO (kY "tuple") none (PySem.Data.seq #[] 0) #[]))::
  (nat_lit 376, (kO (kY "tuple") none (PySem.Data.seq #[(kZ (kS "self") 646), (kZ (kS "path") 647), (kZ (kS "day") 648)] 0) #[]))::
  (nat_lit 377, (kO (kY "tuple") none (PySem.Data.seq #[] 0) #[]))::
  (nat_lit 379, (kO (kY "code") none (PySem.Data.fields #[(kZ (kS "is_open") 643), (kZ (kS "Chart.is_open") 644), (kZ (kS "/claim/cut.py") 645), (PySem.Value.int (145 : Int) 0), (PySem.Value.int (3 : Int) 0), (PySem.Value.int (0 : Int) 0), (PySem.Value.int (0 : Int) 0), (PySem.Value.int (3 : Int) 0), (kR 374), (PySem.Value.bool true), (PySem.Value.int (181 : Int) 0), (kR 375), kN, (kR 376), (kR 377), (kR 378), (PySem.Value.int (649 : Int) 0), (PySem.Value.int (145 : Int) 0), (kZ (kS "/claim/cut.py") 650)]) #[]))::
  (nat_lit 380, (kO (kY "function") none (PySem.Data.func (PySem.W.fnOf (kS "is_open") (kS "Chart.is_open") (defArgs s_Chart_is_open) (defBody s_Chart_is_open) (defScope s_Chart_is_open) kN kN kN (kZ (kS "evenhall.chart") 498) none (kR 379) kN)) #[]))::
  (nat_lit 381, (kO (kY "tuple") none (PySem.Data.seq #[] 0) #[]))::
  (nat_lit 383, (kO (kY "tuple") none (PySem.Data.seq #[(kZ (kS "self") 655), (kZ (kS "path") 656)] 0) #[]))::
  (nat_lit 384, (kO (kY "tuple") none (PySem.Data.seq #[] 0) #[]))::
  (nat_lit 386, (kO (kY "code") none (PySem.Data.fields #[(kZ (kS "beneath") 652), (kZ (kS "Chart.beneath") 653), (kZ (kS "/claim/cut.py") 654), (PySem.Value.int (148 : Int) 0), (PySem.Value.int (2 : Int) 0), (PySem.Value.int (0 : Int) 0), (PySem.Value.int (0 : Int) 0), (PySem.Value.int (3 : Int) 0), (kR 381), (PySem.Value.bool true), (PySem.Value.int (181 : Int) 0), (kR 382), kN, (kR 383), (kR 384), (kR 385), (PySem.Value.int (657 : Int) 0), (PySem.Value.int (148 : Int) 0), (kZ (kS "/claim/cut.py") 658)]) #[]))::
  (nat_lit 387, (kO (kY "function") none (PySem.Data.func (PySem.W.fnOf (kS "beneath") (kS "Chart.beneath") (defArgs s_Chart_beneath) (defBody s_Chart_beneath) (defScope s_Chart_beneath) kN kN kN (kZ (kS "evenhall.chart") 498) none (kR 386) kN)) #[]))::
  (nat_lit 388, (kO (kY "tuple") none (PySem.Data.seq #[] 0) #[]))::
  (nat_lit 390, (kO (kY "tuple") none (PySem.Data.seq #[(kZ (kS "self") 663)] 0) #[]))::
  (nat_lit 391, (kO (kY "tuple") none (PySem.Data.seq #[] 0) #[]))::
  (nat_lit 393, (kO (kY "code") none (PySem.Data.fields #[(kZ (kS "accounts") 660), (kZ (kS "Chart.accounts") 661), (kZ (kS "/claim/cut.py") 662), (PySem.Value.int (151 : Int) 0), (PySem.Value.int (1 : Int) 0), (PySem.Value.int (0 : Int) 0), (PySem.Value.int (0 : Int) 0), (PySem.Value.int (3 : Int) 0), (kR 388), (PySem.Value.bool true), (PySem.Value.int (181 : Int) 0), (kR 389), kN, (kR 390), (kR 391), (kR 392), (PySem.Value.int (664 : Int) 0), (PySem.Value.int (151 : Int) 0), (kZ (kS "/claim/cut.py") 665)]) #[]))::
  (nat_lit 394, (kO (kY "function") none (PySem.Data.func (PySem.W.fnOf (kS "accounts") (kS "Chart.accounts") (defArgs s_Chart_accounts) (defBody s_Chart_accounts) (defScope s_Chart_accounts) kN kN kN (kZ (kS "evenhall.chart") 498) none (kR 393) kN)) #[]))::
  (nat_lit 395, (kO (kY "tuple") none (PySem.Data.seq #[(kZ (kS "by_path") 667)] 0) #[]))::
  (nat_lit 396, (kO (kY "dict") none (PySem.Data.dict #[(kD (keyHash P (kS "__module__")) (kZ (kS "__module__") 564) (kZ (kS "evenhall.chart") 498)), (kD (keyHash P (kS "__firstlineno__")) (kZ (kS "__firstlineno__") 568) (PySem.Value.int (86 : Int) 567)), (kD (keyHash P (kS "__init__")) (kZ (kS "__init__") 575) (kR 319)), (kD (keyHash P (kS "add_top")) (kZ (kS "add_top") 584) (kR 326)), (kD (keyHash P (kS "add")) (kZ (kS "add") 595) (kR 333)), (kD (keyHash P (kS "shut")) (kZ (kS "shut") 601) (kR 338)), (kD (keyHash P (kS "has")) (kZ (kS "has") 609) (kR 345)), (kD (keyHash P (kS "account")) (kZ (kS "account") 617) (kR 352)), (kD (keyHash P (kS "kind_of")) (kZ (kS "kind_of") 625) (kR 359)), (kD (keyHash P (kS "currency_of")) (kZ (kS "currency_of") 633) (kR 366)), (kD (keyHash P (kS "span_of")) (kZ (kS "span_of") 642) (kR 373)), (kD (keyHash P (kS "is_open")) (kZ (kS "is_open") 651) (kR 380)), (kD (keyHash P (kS "beneath")) (kZ (kS "beneath") 659) (kR 387)), (kD (keyHash P (kS "accounts")) (kZ (kS "accounts") 666) (kR 394)), (kD (keyHash P (kS "__static_attributes__")) (kZ (kS "__static_attributes__") 668) (kR 395)), (kD (keyHash P (kS "__dict__")) (kZ (kS "__dict__") 670) (kR 398)), (kD (keyHash P (kS "__weakref__")) (kZ (kS "__weakref__") 672) (kR 399)), (kD (keyHash P (kS "__doc__")) (kZ (kS "__doc__") 673) kN)] 4) #[]))::
  (nat_lit 397, (kO (kY "type") none (PySem.Data.cls (PySem.ClassData.mk (kS "Chart") [(kY "object")] [(kR 397), (kY "object")] 396 (kS "Chart") true [] [] false none false)) #[none, none, (some (kZ (kS "Chart") 557)), (some (kZ (kS "Chart") 565)), (some (kB "object.__new__")), (some (PySem.Value.bool true))]))::
  (nat_lit 398, (kO (kY "getset_descriptor") none (PySem.Data.fields #[(kZ (kS "__dict__") 669), (kR 397), (kB "function.__dict__"), (kB "function.__dict__#set")]) #[]))::
  (nat_lit 399, (kO (kY "getset_descriptor") none (PySem.Data.fields #[(kZ (kS "__weakref__") 671), (kR 397), (kB "ExceptionGroup.__weakref__"), kN]) #[]))::
  (nat_lit 402, (kO (kY "tuple") none (PySem.Data.seq #[] 0) #[]))::
  (nat_lit 404, (kO (kY "tuple") none (PySem.Data.seq #[(kZ (kS "_law_script") 681), (kZ (kS "_law_k") 682)] 0) #[]))::
  (nat_lit 405, (kO (kY "tuple") none (PySem.Data.seq #[] 0) #[]))::
  (nat_lit 407, (kO (kY "code") none (PySem.Data.fields #[(kZ (kS "_law_cell_at") 678), (kZ (kS "_law_cell_at") 679), (kZ (kS "/claim/cut.py") 680), (PySem.Value.int (154 : Int) 0), (PySem.Value.int (2 : Int) 0), (PySem.Value.int (0 : Int) 0), (PySem.Value.int (0 : Int) 0), (PySem.Value.int (3 : Int) 0), (kR 402), (PySem.Value.bool true), (PySem.Value.int (181 : Int) 0), (kR 403), kN, (kR 404), (kR 405), (kR 406), (PySem.Value.int (683 : Int) 0), (PySem.Value.int (154 : Int) 0), (kZ (kS "/claim/cut.py") 684)]) #[]))::
  (nat_lit 408, (kO (kY "function") none (PySem.Data.func (PySem.W.fnOf (kS "_law_cell_at") (kS "_law_cell_at") (defArgs s__law_cell_at) (defBody s__law_cell_at) (defScope s__law_cell_at) kN kN kN (kZ (kS "law_evenhall_k08_whole_open_beneath_open") 676) none (kR 407) kN)) #[]))::
  (nat_lit 409, (kO (kY "tuple") none (PySem.Data.seq #[] 0) #[]))::
  (nat_lit 412, (kO (kY "code") none (PySem.Data.fields #[(kZ (kS "_law_name_by") 686), (kZ (kS "_law_name_by") 687), (kZ (kS "/claim/cut.py") 688), (PySem.Value.int (158 : Int) 0), (PySem.Value.int (2 : Int) 0), (PySem.Value.int (0 : Int) 0), (PySem.Value.int (0 : Int) 0), (PySem.Value.int (3 : Int) 0), (kR 409), (PySem.Value.bool true), (PySem.Value.int (181 : Int) 0), (kR 410), kN, kN, kN, (kR 411), (PySem.Value.int (689 : Int) 0), (PySem.Value.int (158 : Int) 0), (kZ (kS "/claim/cut.py") 690)]) #[]))::
  (nat_lit 413, (kO (kY "function") none (PySem.Data.func (PySem.W.fnOf (kS "_law_name_by") (kS "_law_name_by") (defArgs s__law_name_by) (defBody s__law_name_by) (defScope s__law_name_by) kN kN kN (kZ (kS "law_evenhall_k08_whole_open_beneath_open") 676) none (kR 412) kN)) #[]))::
  (nat_lit 414, (kO (kY "tuple") none (PySem.Data.seq #[] 0) #[]))::
  (nat_lit 416, (kO (kY "tuple") none (PySem.Data.seq #[(kZ (kS "_law_chart") 695), (kZ (kS "_law_kind") 696), (kZ (kS "_law_path") 697), (kZ (kS "_law_day") 698)] 0) #[]))::
  (nat_lit 417, (kO (kY "tuple") none (PySem.Data.seq #[] 0) #[]))::
  (nat_lit 419, (kO (kY "code") none (PySem.Data.fields #[(kZ (kS "_law_went") 692), (kZ (kS "_law_went") 693), (kZ (kS "/claim/cut.py") 694), (PySem.Value.int (168 : Int) 0), (PySem.Value.int (4 : Int) 0), (PySem.Value.int (0 : Int) 0), (PySem.Value.int (0 : Int) 0), (PySem.Value.int (3 : Int) 0), (kR 414), (PySem.Value.bool true), (PySem.Value.int (181 : Int) 0), (kR 415), kN, (kR 416), (kR 417), (kR 418), (PySem.Value.int (699 : Int) 0), (PySem.Value.int (168 : Int) 0), (kZ (kS "/claim/cut.py") 700)]) #[]))::
  (nat_lit 420, (kO (kY "function") none (PySem.Data.func (PySem.W.fnOf (kS "_law_went") (kS "_law_went") (defArgs s__law_went) (defBody s__law_went) (defScope s__law_went) kN kN kN (kZ (kS "law_evenhall_k08_whole_open_beneath_open") 676) none (kR 419) kN)) #[]))::
  (nat_lit 421, (kO (kY "tuple") none (PySem.Data.seq #[] 0) #[]))::
  (nat_lit 423, (kO (kY "tuple") none (PySem.Data.seq #[(kZ (kS "_law_chart") 705), (kZ (kS "_law_taken") 706), (kZ (kS "_law_found") 707), (kZ (kS "_law_path") 708), (kZ (kS "_law_day") 709)] 0) #[]))::
  (nat_lit 424, (kO (kY "tuple") none (PySem.Data.seq #[] 0) #[]))::
  (nat_lit 426, (kO (kY "code") none (PySem.Data.fields #[(kZ (kS "_law_days") 702), (kZ (kS "_law_days") 703), (kZ (kS "/claim/cut.py") 704), (PySem.Value.int (179 : Int) 0), (PySem.Value.int (2 : Int) 0), (PySem.Value.int (0 : Int) 0), (PySem.Value.int (0 : Int) 0), (PySem.Value.int (3 : Int) 0), (kR 421), (PySem.Value.bool true), (PySem.Value.int (181 : Int) 0), (kR 422), kN, (kR 423), (kR 424), (kR 425), (PySem.Value.int (710 : Int) 0), (PySem.Value.int (179 : Int) 0), (kZ (kS "/claim/cut.py") 711)]) #[]))::
  (nat_lit 427, (kO (kY "function") none (PySem.Data.func (PySem.W.fnOf (kS "_law_days") (kS "_law_days") (defArgs s__law_days) (defBody s__law_days) (defScope s__law_days) kN kN kN (kZ (kS "law_evenhall_k08_whole_open_beneath_open") 676) none (kR 426) kN)) #[]))::
  (nat_lit 428, (kO (kY "tuple") none (PySem.Data.seq #[] 0) #[]))::
  (nat_lit 431, (kO (kY "code") none (PySem.Data.fields #[(kZ (kS "_law_uppers") 713), (kZ (kS "_law_uppers") 714), (kZ (kS "/claim/cut.py") 715), (PySem.Value.int (187 : Int) 0), (PySem.Value.int (1 : Int) 0), (PySem.Value.int (0 : Int) 0), (PySem.Value.int (0 : Int) 0), (PySem.Value.int (3 : Int) 0), (kR 428), (PySem.Value.bool true), (PySem.Value.int (181 : Int) 0), (kR 429), kN, kN, kN, (kR 430), (PySem.Value.int (716 : Int) 0), (PySem.Value.int (187 : Int) 0), (kZ (kS "/claim/cut.py") 717)]) #[]))::
  (nat_lit 432, (kO (kY "function") none (PySem.Data.func (PySem.W.fnOf (kS "_law_uppers") (kS "_law_uppers") (defArgs s__law_uppers) (defBody s__law_uppers) (defScope s__law_uppers) kN kN kN (kZ (kS "law_evenhall_k08_whole_open_beneath_open") 676) none (kR 431) kN)) #[]))::
  (nat_lit 433, (kO (kY "tuple") none (PySem.Data.seq #[] 0) #[]))::
  (nat_lit 436, (kO (kY "code") none (PySem.Data.fields #[(kZ (kS "_law_span_good") 719), (kZ (kS "_law_span_good") 720), (kZ (kS "/claim/cut.py") 721), (PySem.Value.int (190 : Int) 0), (PySem.Value.int (3 : Int) 0), (PySem.Value.int (0 : Int) 0), (PySem.Value.int (0 : Int) 0), (PySem.Value.int (3 : Int) 0), (kR 433), (PySem.Value.bool true), (PySem.Value.int (181 : Int) 0), (kR 434), kN, kN, kN, (kR 435), (PySem.Value.int (722 : Int) 0), (PySem.Value.int (190 : Int) 0), (kZ (kS "/claim/cut.py") 723)]) #[]))::
  (nat_lit 437, (kO (kY "function") none (PySem.Data.func (PySem.W.fnOf (kS "_law_span_good") (kS "_law_span_good") (defArgs s__law_span_good) (defBody s__law_span_good) (defScope s__law_span_good) kN kN kN (kZ (kS "law_evenhall_k08_whole_open_beneath_open") 676) none (kR 436) kN)) #[]))::
  (nat_lit 438, (kO (kY "tuple") none (PySem.Data.seq #[] 0) #[]))::
  (nat_lit 441, (kO (kY "code") none (PySem.Data.fields #[(kZ (kS "_law_all_good") 725), (kZ (kS "_law_all_good") 726), (kZ (kS "/claim/cut.py") 727), (PySem.Value.int (202 : Int) 0), (PySem.Value.int (2 : Int) 0), (PySem.Value.int (0 : Int) 0), (PySem.Value.int (0 : Int) 0), (PySem.Value.int (3 : Int) 0), (kR 438), (PySem.Value.bool true), (PySem.Value.int (181 : Int) 0), (kR 439), kN, kN, kN, (kR 440), (PySem.Value.int (728 : Int) 0), (PySem.Value.int (202 : Int) 0), (kZ (kS "/claim/cut.py") 729)]) #[]))::
  (nat_lit 442, (kO (kY "function") none (PySem.Data.func (PySem.W.fnOf (kS "_law_all_good") (kS "_law_all_good") (defArgs s__law_all_good) (defBody s__law_all_good) (defScope s__law_all_good) kN kN kN (kZ (kS "law_evenhall_k08_whole_open_beneath_open") 676) none (kR 441) kN)) #[]))::
  (nat_lit 443, (kO (kY "tuple") none (PySem.Data.seq #[] 0) #[]))::
  (nat_lit 446, (kO (kY "code") none (PySem.Data.fields #[(kZ (kS "law") 731), (kZ (kS "law") 732), (kZ (kS "/claim/cut.py") 733), (PySem.Value.int (212 : Int) 0), (PySem.Value.int (1 : Int) 0), (PySem.Value.int (0 : Int) 0), (PySem.Value.int (0 : Int) 0), (PySem.Value.int (3 : Int) 0), (kR 443), (PySem.Value.bool true), (PySem.Value.int (181 : Int) 0), (kR 444), kN, kN, kN, (kR 445), (PySem.Value.int (734 : Int) 0), (PySem.Value.int (212 : Int) 0), (kZ (kS "/claim/cut.py") 735)]) #[]))::
  (nat_lit 447, (kO (kY "function") none (PySem.Data.func (PySem.W.fnOf (kS "law") (kS "law") (defArgs s_law) (defBody s_law) (defScope s_law) kN kN kN (kZ (kS "law_evenhall_k08_whole_open_beneath_open") 676) none (kR 446) kN)) #[])) :: []
def adrs : List Addr := [nat_lit 2, nat_lit 3, nat_lit 15, nat_lit 17, nat_lit 18, nat_lit 20, nat_lit 21, nat_lit 22, nat_lit 29, nat_lit 30, nat_lit 31, nat_lit 32, nat_lit 35, nat_lit 42, nat_lit 44, nat_lit 45, nat_lit 47, nat_lit 48, nat_lit 49, nat_lit 50, nat_lit 51, nat_lit 54, nat_lit 61, nat_lit 63, nat_lit 64, nat_lit 66, nat_lit 67, nat_lit 68, nat_lit 69, nat_lit 70, nat_lit 73, nat_lit 80, nat_lit 82, nat_lit 83, nat_lit 85, nat_lit 86, nat_lit 87, nat_lit 88, nat_lit 89, nat_lit 92, nat_lit 99, nat_lit 101, nat_lit 102, nat_lit 104, nat_lit 105, nat_lit 106, nat_lit 107, nat_lit 108, nat_lit 111, nat_lit 118, nat_lit 120, nat_lit 121, nat_lit 123, nat_lit 124, nat_lit 125, nat_lit 126, nat_lit 127, nat_lit 130, nat_lit 137, nat_lit 139, nat_lit 140, nat_lit 142, nat_lit 143, nat_lit 144, nat_lit 145, nat_lit 146, nat_lit 149, nat_lit 156, nat_lit 158, nat_lit 159, nat_lit 161, nat_lit 162, nat_lit 163, nat_lit 164, nat_lit 165, nat_lit 168, nat_lit 175, nat_lit 177, nat_lit 178, nat_lit 180, nat_lit 181, nat_lit 182, nat_lit 183, nat_lit 184, nat_lit 187, nat_lit 194, nat_lit 196, nat_lit 197, nat_lit 199, nat_lit 200, nat_lit 201, nat_lit 202, nat_lit 203, nat_lit 206, nat_lit 208, nat_lit 209, nat_lit 211, nat_lit 212, nat_lit 213, nat_lit 215, nat_lit 216, nat_lit 218, nat_lit 219, nat_lit 220, nat_lit 223, nat_lit 224, nat_lit 225, nat_lit 227, nat_lit 228, nat_lit 230, nat_lit 231, nat_lit 232, nat_lit 234, nat_lit 235, nat_lit 237, nat_lit 238, nat_lit 239, nat_lit 241, nat_lit 242, nat_lit 244, nat_lit 245, nat_lit 246, nat_lit 249, nat_lit 250, nat_lit 251, nat_lit 253, nat_lit 254, nat_lit 256, nat_lit 257, nat_lit 258, nat_lit 260, nat_lit 261, nat_lit 263, nat_lit 264, nat_lit 265, nat_lit 268, nat_lit 269, nat_lit 270, nat_lit 278, nat_lit 280, nat_lit 281, nat_lit 283, nat_lit 284, nat_lit 285, nat_lit 287, nat_lit 288, nat_lit 290, nat_lit 291, nat_lit 292, nat_lit 294, nat_lit 295, nat_lit 297, nat_lit 298, nat_lit 299, nat_lit 300, nat_lit 301, nat_lit 302, nat_lit 303, nat_lit 313, nat_lit 315, nat_lit 316, nat_lit 318, nat_lit 319, nat_lit 320, nat_lit 322, nat_lit 323, nat_lit 325, nat_lit 326, nat_lit 327, nat_lit 329, nat_lit 330, nat_lit 332, nat_lit 333, nat_lit 334, nat_lit 337, nat_lit 338, nat_lit 339, nat_lit 341, nat_lit 342, nat_lit 344, nat_lit 345, nat_lit 346, nat_lit 348, nat_lit 349, nat_lit 351, nat_lit 352, nat_lit 353, nat_lit 355, nat_lit 356, nat_lit 358, nat_lit 359, nat_lit 360, nat_lit 362, nat_lit 363, nat_lit 365, nat_lit 366, nat_lit 367, nat_lit 369, nat_lit 370, nat_lit 372, nat_lit 373, nat_lit 374, nat_lit 376, nat_lit 377, nat_lit 379, nat_lit 380, nat_lit 381, nat_lit 383, nat_lit 384, nat_lit 386, nat_lit 387, nat_lit 388, nat_lit 390, nat_lit 391, nat_lit 393, nat_lit 394, nat_lit 395, nat_lit 396, nat_lit 397, nat_lit 398, nat_lit 399, nat_lit 402, nat_lit 404, nat_lit 405, nat_lit 407, nat_lit 408, nat_lit 409, nat_lit 412, nat_lit 413, nat_lit 414, nat_lit 416, nat_lit 417, nat_lit 419, nat_lit 420, nat_lit 421, nat_lit 423, nat_lit 424, nat_lit 426, nat_lit 427, nat_lit 428, nat_lit 431, nat_lit 432, nat_lit 433, nat_lit 436, nat_lit 437, nat_lit 438, nat_lit 441, nat_lit 442, nat_lit 443, nat_lit 446, nat_lit 447]
theorem adrs_eq (P : Params) : adrs = (frag P).map (·.1) := by kernel_rfl
def vw : Program := PySem.W.view PySem.Challenge.pw_evenhall_k08_whole_open_beneath_open [0, 2, 3, 4, 5, 6, 7, 8, 9, 10, 11, 13, 14, 15, 16, 18, 20, 22, 23, 24, 25, 27, 28, 29, 31, 32, 33, 34, 35, 36, 37, 38]
open PySem.W in
noncomputable def tree0 (P : Params) : BT := (.node (boot_o_0 P) (.node (boot_o_1 P) (.node (boot_o_3 P) (.node (boot_o_7 P) .nil .nil) .nil) (.node (boot_o_5 P) (.node (boot_o_9 P) .nil .nil) .nil)) (.node (boot_o_2 P) (.node (boot_o_4 P) (.node (boot_o_8 P) .nil .nil) .nil) (.node (boot_o_6 P) (.node (boot_o_10 P) .nil .nil) .nil)))
open PySem.W PyProof.Rows in
noncomputable def run (w : World) (os : OsState) := (TR.go PySem.Challenge.pw_evenhall_k08_whole_open_beneath_open w 11 (some (.ref 6)) 7834 ⟨tree0 w.params, 11, (boot_heap w.params).life, Array.mk [], boot_drawn, boot_toks, os⟩ (topStub PySem.Challenge.pw_evenhall_k08_whole_open_beneath_open)).map fun x => (TR.look PySem.Challenge.pw_evenhall_k08_whole_open_beneath_open w.params x.abs, openSeen vw [] (importedModules PySem.Challenge.pw_evenhall_k08_whole_open_beneath_open.main.body) (fun s => PySem.W.xlAt vw [] s && PySem.W.recOk (PySem.W.RowW.records (PySem.W.OpenRow.toRowW (PySem.W.OpenLaw.row PySem.Challenge.rw_evenhall_k08_whole_open_beneath_open))) s) true x.abs, adrs.map x.abs.heap.get?)
noncomputable def good (x : List (Option Obj)) (_ : OsState) := some (true, PySem.W.openGood vw [], x)
set_option maxRecDepth 100000 in
set_option maxHeartbeats 0 in
lay_quick K8.run
set_option maxRecDepth 100000 in
set_option maxHeartbeats 0 in
lay_quick K8.good
set_option maxRecDepth 100000 in
set_option maxHeartbeats 0 in
theorem left : PySem.W.LeftO PySem.Challenge.pw_evenhall_k08_whole_open_beneath_open vw [] (fun s => PySem.W.xlAt vw [] s && PySem.W.recOk (PySem.W.RowW.records (PySem.W.OpenRow.toRowW (PySem.W.OpenLaw.row PySem.Challenge.rw_evenhall_k08_whole_open_beneath_open))) s) (PySem.W.kHook frag adrs adrs_eq).obs (PySem.W.kHook frag adrs adrs_eq).val 7834 :=
  TR.left (lo := 11) (an := some (.ref 6)) (tr := tree0) (PySem.W.boot_open (by kernel_rfl) (by decide) (fun s => by kernel_rfl)) (fun P => by kernel_rfl) (fun P => by kernel_rfl) fun w =>
    (congrFun PySem.W.Fast.te5334270518752585195 w).trans ((show PySem.W.Fast.tw5334270518752585195 w = PySem.W.Fast.tw12710917114425954413 ((frag w.params).map fun p => some p.2) by kernel_rfl).trans (congrFun PySem.W.Fast.te12710917114425954413 _).symm)
end K8
set_option Elab.async false
set_option linter.all false
set_option maxRecDepth 100000
namespace L2
open PySem PySem.Spec PyProof.Rows
abbrev Key := Sum Int Str
def keyIs : Key → Value → Bool
  | .inl k, v => Value.isInt k v
  | .inr x, v => Value.isStrOf x v
def keyH (w : World) : Key → Int
  | .inl k => hashInt k
  | .inr x => hashStr w x
theorem keyIs_shape : ∀ {k : Key} {v : Value}, keyIs k v = true → (∃ i t, k = Sum.inl i ∧ v = Value.int i t) ∨ (∃ x t, k = Sum.inr x ∧ v = Value.str x t)
  | .inl i, v, h => by
    obtain ⟨t, e⟩ := Value.isInt_shape (k := i) (v := v) h
    exact .inl ⟨i, t, rfl, e⟩
  | .inr x, v, h => by
    obtain ⟨t, e⟩ := Value.isStrOf_shape (x := x) (v := v) h
    exact .inr ⟨x, t, rfl, e⟩
theorem keyIs_int (i : Int) (t : Tok) : keyIs (.inl i) (.int i t) = true := by simp [keyIs, Value.isInt]
theorem keyIs_str (x : Str) (t : Tok) : keyIs (.inr x) (.str x t) = true := by simp [keyIs, Value.isStrOf]
theorem key_ll (a b : Int) : decide ((Sum.inl a : Key) = Sum.inl b) = (a == b) := by
  by_cases e : a = b
  · subst e; simp
  · have h : ¬ (Sum.inl a : Key) = Sum.inl b := fun q => e (Sum.inl.inj q)
    rw [decide_eq_false h]
    exact (beq_eq_false_iff_ne.mpr e).symm
theorem key_rr (a b : Str) : decide ((Sum.inr a : Key) = Sum.inr b) = decide (a = b) := by
  by_cases e : a = b
  · subst e; simp
  · have h : ¬ (Sum.inr a : Key) = Sum.inr b := fun q => e (Sum.inr.inj q)
    rw [decide_eq_false h, decide_eq_false e]
theorem key_lr (a : Int) (b : Str) : decide ((Sum.inl a : Key) = Sum.inr b) = false := decide_eq_false (fun q => nomatch q)
theorem key_rl (a : Str) (b : Int) : decide ((Sum.inr a : Key) = Sum.inl b) = false := decide_eq_false (fun q => nomatch q)
def mixKind (prog : Program) (w : World) : PySem.KeyKind prog w Key where
  is := keyIs
  hash := keyH w
  inj := fun v a b ha hb => by
    rcases keyIs_shape ha with ⟨i, t, rfl, rfl⟩ | ⟨x, t, rfl, rfl⟩
    · rcases keyIs_shape hb with ⟨j, u, rfl, e⟩ | ⟨y, u, rfl, e⟩
      · injection e with e1 _; rw [e1]
      · exact nomatch e
    · rcases keyIs_shape hb with ⟨j, u, rfl, e⟩ | ⟨y, u, rfl, e⟩
      · exact nomatch e
      · injection e with e1 _; rw [e1]
  byValue := fun k v h => by
    rcases keyIs_shape h with ⟨i, t, rfl, rfl⟩ | ⟨x, t, rfl, rfl⟩ <;> rfl
  pyHash := fun hv h => by
    rcases keyIs_shape hv with ⟨i, t, rfl, rfl⟩ | ⟨x, t, rfl, rfl⟩
    · exact wpAny_pyHash_int h
    · exact wpAny_pyHash_str h
  eqBool := fun hu hv h => by
    rcases keyIs_shape hu with ⟨i, t, rfl, rfl⟩ | ⟨x, t, rfl, rfl⟩
    · rcases keyIs_shape hv with ⟨j, u, rfl, rfl⟩ | ⟨y, u, rfl, rfl⟩
      · rw [key_ll] at h; exact wpAny_eqBool_int h
      · rw [key_lr] at h; exact SeqAt.EqAt.int_str i t y u _ _ _ _ h
    · rcases keyIs_shape hv with ⟨j, u, rfl, rfl⟩ | ⟨y, u, rfl, rfl⟩
      · rw [key_rl] at h; exact SeqAt.EqAt.str_int x t j u _ _ _ _ h
      · rw [key_rr] at h; exact wpAny_eqBool_str h
  «strs» := fun k x t v h => by
    rcases keyIs_shape h with ⟨i, u, rfl, e⟩ | ⟨y, u, rfl, e⟩
    · exact nomatch e
    · injection e with e1 _
      subst e1
      cases v <;> rfl
theorem mixKind_int (prog : Program) (w : World) (i : Int) (t : Tok) : (mixKind prog w).is (.inl i) (.int i t) = true := keyIs_int i t
theorem mixKind_str (prog : Program) (w : World) (x : Str) (t : Tok) : (mixKind prog w).is (.inr x) (.str x t) = true := keyIs_str x t
end L2
namespace L2
open PySem PySem.Spec PyProof.Rows
inductive V where
  | non | bl (b : Bool) | int (i : Int) | str (x : Str) | byt (b : Array UInt8) | flt (b : UInt64) | ref (a : Addr) | ty (n : String)
  deriving DecidableEq
def RelV : V → Value → Prop
  | .non, u => u = Value.none
  | .bl b, u => u = Value.bool b
  | .int i, u => ∃ t, u = Value.int i t
  | .str x, u => ∃ t, u = Value.str x t
  | .byt b, u => ∃ t, u = Value.bytes b t
  | .flt b, u => ∃ t, u = Value.float b t
  | .ref a, u => u = Value.ref a
  | .ty n, u => u = Value.type n
abbrev Vals : List V → List Value → Prop := Paired RelV
theorem Vals.length {xs : List V} {us : List Value} (r : Vals xs us) : xs.length = us.length := Paired.length r
theorem Vals.get : ∀ {xs : List V} {us : List Value} {i : Nat} {x : V}, Vals xs us → xs[i]? = some x → ∃ u, us[i]? = some u ∧ RelV x u
  | _, _, _, _, .nil, e => by simp at e
  | _, _, 0, _, .cons r _, e => by simp at e; subst e; exact ⟨_, rfl, r⟩
  | _, _, i + 1, x, .cons _ t, e => by
    obtain ⟨u, h1, h2⟩ := Vals.get (i := i) (x := x) t (by simpa using e)
    exact ⟨u, by simpa using h1, h2⟩
theorem Vals.set {x : V} {u : Value} (r : RelV x u) : ∀ {xs : List V} {us : List Value} (i : Nat), Vals xs us → Vals (xs.set i x) (us.set i u)
  | _, _, _, .nil => .nil
  | _, _, 0, .cons _ t => .cons r t
  | _, _, i + 1, .cons q t => .cons q (Vals.set r i t)
theorem Vals.append : ∀ {xs ys : List V} {us ws : List Value}, Vals xs us → Vals ys ws → Vals (xs ++ ys) (us ++ ws)
  | _, _, _, _, .nil, s => s
  | _, _, _, _, .cons r t, s => .cons r (Vals.append t s)
theorem Vals.take : ∀ {xs : List V} {us : List Value} (n : Nat), Vals xs us → Vals (xs.take n) (us.take n)
  | _, _, 0, _ => .nil
  | _, _, _ + 1, .nil => .nil
  | _, _, n + 1, .cons r t => .cons r (Vals.take n t)
theorem Vals.drop : ∀ {xs : List V} {us : List Value} (n : Nat), Vals xs us → Vals (xs.drop n) (us.drop n)
  | _, _, 0, r => r
  | _, _, _ + 1, .nil => .nil
  | _, _, n + 1, .cons _ t => Vals.drop n t
theorem Vals.none_of : ∀ {xs : List V} {us : List Value} {i : Nat}, Vals xs us → xs[i]? = none → us[i]? = none := fun {xs us i} r e => by
  have h1 := r.length
  have h2 : xs.length ≤ i := List.getElem?_eq_none_iff.mp e
  exact List.getElem?_eq_none_iff.mpr (by omega)
def RelO : Option V → Option Value → Prop
  | some v, some u => RelV v u
  | none, none => True
  | _, _ => False
def KV {κ : Type} : List (κ × V) → List (κ × Value) → Prop := Paired fun (p : κ × V) (q : κ × Value) => p.1 = q.1 ∧ RelV p.2 q.2
def kV : Key → V
  | .inl i => .int i
  | .inr x => .str x
inductive HO where
  | lst (xs : List V)
  | tup (xs : List V)
  | dK (kvs : List (Key × V)) | dT (kvs : List (List Key × V))
  | set (S : Int → Bool) (n : Nat)
  | ins (C dx : Addr) (fs : List (Str × V))
  | own (x : Addr)
  | xd (fs : List (Str × V))
  | met (f x : Addr)
  | rng (lo hi : Int)
  | frz (o : Obj) (u : HO)
  | tbl (ps : Array Value)
  | ext (φ : Heap → Prop)
abbrev Hp := Addr → Option HO
def upd (H : Hp) (a : Addr) (o : HO) : Hp := fun b => if b = a then some o else H b
theorem upd_same {H : Hp} {a : Addr} {o : HO} : upd H a o a = some o := by unfold upd; rw [if_pos rfl]
theorem upd_ne {H : Hp} {a b : Addr} {o : HO} (h : b ≠ a) : upd H a o b = H b := by unfold upd; rw [if_neg h]
theorem upd_upd {H : Hp} {a : Addr} {o u : HO} : upd (upd H a o) a u = upd H a u := by
  funext b; unfold upd; split <;> rfl
theorem ne_of {H : Hp} {a b : Addr} {o u : HO} (h : H a = some o) (h' : H b = some u) (d : o ≠ u) : a ≠ b := by
  intro e; subst e; rw [h] at h'; exact d (Option.some.inj h')
theorem ne_of_none {H : Hp} {a b : Addr} {o : HO} (h : H a = some o) (h' : H b = none) : a ≠ b := by
  intro e; subst e; rw [h] at h'; cases h'
section
variable (P : Program) (w : World)
def ObjOk (H : Hp) (h : Heap) (a : Addr) : HO → Prop
  | .lst xs => xs.length ≤ sizeLine ∧ ∃ (its : List Value) (n : Nat), Vals xs its ∧ h.get? a = some { cls := .type "list", data := .seq its.toArray n }
  | .tup xs => xs.length ≤ sizeLine ∧ ∃ its : List Value, Vals xs its ∧ IsTup h a its.toArray
  | .dK kvs => kvs.length ≤ sizeLine ∧ (a == sysModules) = false ∧ ∃ vs, KV kvs vs ∧ h.DictOf (mixKind P w) a vs
  | .dT kvs => kvs.length ≤ sizeLine ∧ (a == sysModules) = false ∧ ∃ xs : List (List Key × Addr × Value),
      Paired (fun (p : List Key × V) (q : List Key × Addr × Value) => p.1 = q.1 ∧ H q.2.1 = some (.tup (p.1.map kV)) ∧ RelV p.2 q.2.2) kvs xs ∧
      ∃ o es ep, h.get? a = some o ∧ o.ExactDict ∧ o.data = .dict es ep ∧ es.toList = xs.map (entryOfKey (tupleKind (mixKind P w))) ∧ (xs.map (·.1)).Nodup
  | .set S n => h.SetOf (intKind P w) a S n
  | .ins C dx fs => H dx = some (.own a) ∧ fs.length ≤ 1000 ∧ dx ≠ a ∧ h.get? a = some (PySem.W.instObj C dx) ∧
      ∃ mA, h.Ns1 dx mA ∧ (∀ f, RelO (fs.lookup f) (mA f)) ∧ PySem.Within mA (fs.map (·.1))
  | .own _ => ∃ o, h.get? a = some o
  | .xd fs => ∃ mA, h.Ns1 a mA ∧ ∀ f, RelO (fs.lookup f) (mA f)
  | .rng lo hi => ∃ t u v, h.get? a = some { cls := .type "range", data := .fields #[.int lo t, .int hi u, .int 1 v] }
  | .frz o u => h.get? a = some o ∧ ObjOk H h a u
  | .tbl ps => h.get? a = some { cls := .none, data := .fields ps }
  | .met f x => h.get? a = some (PySem.W.methodObj (.ref f) (.ref x))
  | .ext φ => φ h ∧ (∃ o, h.get? a = some o) ∧ ∀ h1 h2 : Heap, φ h1 → (∀ o, h1.get? a = some o → h2.get? a = some o) → φ h2
def HOk (H : Hp) (h : Heap) : Prop := ∀ a o, H a = some o → ObjOk P w H h a o
end
section
variable {P : Program} {w : World} {H H' : Hp} {h h' : Heap} {a : Addr} {o : HO}
theorem ObjOk.lt (x : ObjOk P w H h a o) : a < h.objs.size := by
  cases o with
  | lst xs => obtain ⟨_, _, _, _, e⟩ := x; exact Heap.lt_size e
  | tup xs => obtain ⟨_, _, _, p⟩ := x; exact p.lt
  | dK kvs => obtain ⟨_, _, _, _, o, _, _, e, _⟩ := x; exact Heap.lt_size e
  | dT kvs => obtain ⟨_, _, _, _, o, _, _, e, _⟩ := x; exact Heap.lt_size e
  | set S n => obtain ⟨o, _, _, _, e, _⟩ := x; exact Heap.lt_size e
  | ins C dx fs => obtain ⟨_, _, _, e, _⟩ := x; exact Heap.lt_size e
  | own y => obtain ⟨_, e⟩ := x; exact Heap.lt_size e
  | xd fs => obtain ⟨_, ⟨_, _, _, e, _⟩, _⟩ := x; exact Heap.lt_size e
  | rng lo hi => obtain ⟨_, _, _, e⟩ := x; exact Heap.lt_size e
  | frz ob u => obtain ⟨e, _⟩ := x; exact Heap.lt_size e
  | tbl ps => exact Heap.lt_size (show h.get? a = some _ from x)
  | met f y => exact Heap.lt_size (show h.get? a = some _ from x)
  | ext φ => obtain ⟨_, ⟨_, e⟩, _⟩ := x; exact Heap.lt_size e
theorem Paired.mapP {α β : Type} {F G : α → β → Prop} : ∀ {l₁ : List α} {l₂ : List β}, Paired F l₁ l₂ → (∀ a b, F a b → G a b) → Paired G l₁ l₂
  | _, _, .nil, _ => .nil
  | _, _, .cons r t, f => .cons (f _ _ r) (Paired.mapP t f)
theorem ObjOk.stay (x : ObjOk P w H h a o) (k : ∀ b u, (b = a ∨ H b = some (.own a)) → h.get? b = some u → h'.get? b = some u)
    (ho : ∀ b, H b = some (.own a) → H' b = some (.own a)) (ht : ∀ b xs, H b = some (.tup xs) → H' b = some (.tup xs)) : ObjOk P w H' h' a o := by
  induction o with
  | lst xs => obtain ⟨z, its, n, r, e⟩ := x; exact ⟨z, its, n, r, k _ _ (.inl rfl) e⟩
  | tup xs => obtain ⟨z, its, r, ob, e, c⟩ := x; exact ⟨z, its, r, ob, k _ _ (.inl rfl) e, c⟩
  | dK kvs => obtain ⟨z, y, vs, r, ob, es, ep, e, c⟩ := x; exact ⟨z, y, vs, r, ob, es, ep, k _ _ (.inl rfl) e, c⟩
  | dT kvs =>
    obtain ⟨z, y, xs, r, ob, es, ep, e, c⟩ := x
    exact ⟨z, y, xs, Paired.mapP r fun p q z => ⟨z.1, ht _ _ z.2.1, z.2.2⟩, ob, es, ep, k _ _ (.inl rfl) e, c⟩
  | set S n => obtain ⟨ob, es, ep, t, e, c⟩ := x; exact ⟨ob, es, ep, t, k _ _ (.inl rfl) e, c⟩
  | ins C dx fs =>
    obtain ⟨d, z, ne, e, mA, ⟨od, es, ep, e2, c⟩, r⟩ := x
    exact ⟨ho _ d, z, ne, k _ _ (.inl rfl) e, mA, ⟨od, es, ep, k _ _ (.inr d) e2, c⟩, r⟩
  | own y => obtain ⟨ob, e⟩ := x; exact ⟨ob, k _ _ (.inl rfl) e⟩
  | xd fs => obtain ⟨mA, ⟨od, es, ep, e, c⟩, r⟩ := x; exact ⟨mA, ⟨od, es, ep, k _ _ (.inl rfl) e, c⟩, r⟩
  | rng lo hi => obtain ⟨t, u, v, e⟩ := x; exact ⟨t, u, v, k _ _ (.inl rfl) e⟩
  | frz ob u ih => obtain ⟨e, q⟩ := x; exact ⟨k _ _ (.inl rfl) e, ih q⟩
  | tbl ps =>
    have e : h.get? a = some { cls := .none, data := .fields ps } := x
    show h'.get? a = some { cls := .none, data := .fields ps }
    exact k a _ (.inl rfl) e
  | met f y =>
    have e : h.get? a = some (PySem.W.methodObj (.ref f) (.ref y)) := x
    show h'.get? a = some (PySem.W.methodObj (.ref f) (.ref y))
    exact k a _ (.inl rfl) e
  | ext φ => obtain ⟨p, ⟨o, e⟩, st⟩ := x; exact ⟨st _ _ p fun o q => k _ _ (.inl rfl) q, ⟨o, k _ _ (.inl rfl) e⟩, st⟩
theorem HOk.lt (x : HOk P w H h) (e : H a = some o) : a < h.objs.size := (x a o e).lt
theorem HOk.fresh (x : HOk P w H h) (e : h.objs.size ≤ a) : H a = none := by
  cases q : H a with
  | none => rfl
  | some u => exact absurd (Nat.lt_of_lt_of_le (x.lt q) e) (Nat.lt_irrefl _)
theorem HOk.kept (x : HOk P w H h) (k : ∀ b u, h.get? b = some u → h'.get? b = some u) : HOk P w H h' := fun a o e =>
  (x a o e).stay (fun b u _ q => k b u q) (fun _ q => q) fun _ _ q => q
theorem HOk.laid (x : HOk P w H h) (k : ∀ b u, h.get? b = some u → h'.get? b = some u) (hp : h.objs.size ≤ a) (new : ObjOk P w (upd H a o) h' a o) : HOk P w (upd H a o) h' := fun b u e => by
  have hn := x.fresh hp
  by_cases hb : b = a
  · subst hb; rw [upd_same] at e; cases e; exact new
  · rw [upd_ne hb] at e
    exact (x b u e).stay (fun c v _ q => k c v q) (fun c q => by rw [upd_ne (ne_of_none q hn)]; exact q) fun c xs q => by rw [upd_ne (ne_of_none q hn)]; exact q
end
def Rd (H : Hp) (a : Addr) (u : HO) : Prop := H a = some u ∨ ∃ o, H a = some (.frz o u)
theorem Rd.of {H : Hp} {a : Addr} {u : HO} (h : H a = some u) : Rd H a u := .inl h
theorem Rd.ok {P : Program} {w : World} {H : Hp} {h : Heap} {a : Addr} {u : HO} (r : Rd H a u) (x : HOk P w H h) : ObjOk P w H h a u := by
  rcases r with r | ⟨o, r⟩
  · exact x a u r
  · obtain ⟨_, q⟩ := x a _ r
    exact q
def Mut : Option HO → Prop
  | some (.lst _) => True
  | some (.dK _) => True
  | some (.dT _) => True
  | some (.set _ _) => True
  | some (.ins _ _ _) => True
  | some (.ext _) => True
  | _ => False
section
variable {P : Program} {w : World} {H : Hp} {h h' : Heap} {x e : Addr} {o' : HO}
theorem HOk.write (ok : HOk P w H h) (mu : Mut (H x)) (he : e = x ∨ H e = some (.own x)) (k : ∀ b u, b ≠ e → h.get? b = some u → h'.get? b = some u) (heo : ∃ u, h'.get? e = some u)
    (new : ObjOk P w (upd H x o') h' x o') : HOk P w (upd H x o') h' := fun b u q => by
  have nown : ∀ c y, H c = some (.own y) → c ≠ x := fun c y r z => by subst z; rw [r] at mu; exact mu
  have ntup : ∀ c xs, H c = some (.tup xs) → c ≠ x := fun c xs r z => by subst z; rw [r] at mu; exact mu
  by_cases hb : b = x
  · subst hb; rw [upd_same] at q; cases q; exact new
  · rw [upd_ne hb] at q
    by_cases hbe : b = e
    · have q' : H b = some (.own x) := by
        rcases he with z | z
        · exact absurd (hbe.trans z) hb
        · rw [hbe]; exact z
      rw [q] at q'; cases q'
      obtain ⟨v, hv⟩ := heo
      exact ⟨v, by rw [hbe]; exact hv⟩
    · refine (ok b u q).stay (fun c v hc r => k c v ?_ r) (fun c r => by rw [upd_ne (nown c b r)]; exact r) fun c xs r => by rw [upd_ne (ntup c xs r)]; exact r
      rcases hc with rfl | hc
      · exact hbe
      · rintro rfl
        rcases he with z | z
        · exact nown c b hc z
        · rw [hc] at z; cases z; exact hb rfl
end
structure Un (fs ex : List Addr) (H H' : Hp) (h h' : Heap) : Prop where
  keep : ∀ b o, h.get? b = some o → H b = none → b ∉ fs → b ∉ ex → h'.get? b = some o
  slot : ∀ b o, h.get? b = some o → H b = none → b ∈ fs → b ∉ ex → ∃ sl, h'.get? b = some { o with slots := sl }
  free : ∀ b o, h.get? b = some o → H b = none → b ∉ ex → H' b = none
  there : ∀ b o, h.get? b = some o → b ∉ ex → ∃ o', h'.get? b = some o'
  tups : ∀ b xs, H b = some (.tup xs) → H' b = some (.tup xs)
  frzs : ∀ b o u, H b = some (.frz o u) → H' b = some (.frz o u)
  tbls : ∀ b ps, H b = some (.tbl ps) → ∃ more, H' b = some (.tbl (ps ++ more))
section
variable {fs fs' ex ex' : List Addr} {H H1 H2 : Hp} {h h1 h2 h' : Heap} {a x e : Addr} {o : HO}
theorem Un.any (u : Un fs ex H H1 h h1) {b : Addr} {ob : Obj} (q : h.get? b = some ob) (n : H b = none) (hx : b ∉ ex) : ∃ sl, h1.get? b = some { ob with slots := sl } := by
  by_cases hb : b ∈ fs
  · exact u.slot b ob q n hb hx
  · exact ⟨ob.slots, u.keep b ob q n hb hx⟩
theorem Un.trans (a : Un fs ex H H1 h h1) (b : Un fs ex H1 H2 h1 h2) : Un fs ex H H2 h h2 where
  keep := fun c ob q n hc hx => b.keep c ob (a.keep c ob q n hc hx) (a.free c ob q n hx) hc hx
  slot := fun c ob q n hc hx => by
    obtain ⟨sl, e1⟩ := a.slot c ob q n hc hx
    obtain ⟨sl', e2⟩ := b.slot c _ e1 (a.free c ob q n hx) hc hx
    exact ⟨sl', e2⟩
  free := fun c ob q n hx => by
    obtain ⟨o', e1⟩ := a.there c ob q hx
    exact b.free c o' e1 (a.free c ob q n hx) hx
  there := fun c ob q hx => by
    obtain ⟨o', e1⟩ := a.there c ob q hx
    exact b.there c o' e1 hx
  tups := fun c xs q => b.tups c xs (a.tups c xs q)
  frzs := fun c ob xs q => b.frzs c ob xs (a.frzs c ob xs q)
  tbls := fun c ps q => by
    obtain ⟨m1, e1⟩ := a.tbls c ps q
    obtain ⟨m2, e2⟩ := b.tbls c _ e1
    exact ⟨m1 ++ m2, by rw [e2, Array.append_assoc]⟩
theorem Un.kept (k : ∀ b u, h.get? b = some u → h'.get? b = some u) : Un fs ex H H h h' :=
  ⟨fun b ob q _ _ _ => k b ob q, fun b ob q _ _ _ => ⟨ob.slots, k b ob q⟩, fun _ _ _ n _ => n, fun b ob q _ => ⟨ob, k b ob q⟩, fun _ _ q => q, fun _ _ _ q => q, fun _ ps q => ⟨#[], by rw [q]; simp⟩⟩
theorem Un.refl : Un fs ex H H h h := Un.kept fun _ _ q => q
theorem Un.laid (k : ∀ b u, h.get? b = some u → h'.get? b = some u) (hp : h.objs.size ≤ a) (hn : H a = none) : Un fs ex H (upd H a o) h h' where
  keep := fun b u q _ _ _ => k b u q
  slot := fun b u q _ _ _ => ⟨u.slots, k b u q⟩
  free := fun b u q n _ => by rw [upd_ne (Nat.ne_of_lt (Nat.lt_of_lt_of_le (Heap.lt_size q) hp))]; exact n
  there := fun b u q _ => ⟨u, k b u q⟩
  tups := fun b xs q => by rw [upd_ne (ne_of_none q hn)]; exact q
  frzs := fun b u xs q => by rw [upd_ne (ne_of_none q hn)]; exact q
  tbls := fun b ps q => ⟨#[], by rw [upd_ne (ne_of_none q hn), q]; simp⟩
theorem Un.write (mu : Mut (H x)) (he : e = x ∨ H e = some (.own x)) (k : ∀ b u, b ≠ e → h.get? b = some u → h'.get? b = some u) (heo : ∃ u, h'.get? e = some u) : Un fs ex H (upd H x o) h h' := by
  have hx : ∀ b, H b = none → b ≠ x := fun b n z => by subst z; rw [n] at mu; exact mu
  have hb : ∀ b, H b = none → b ≠ e := fun b n z => by
    subst z
    rcases he with r | r
    · exact hx b n r
    · rw [n] at r; cases r
  have hm : ∀ b u, H b = some u → ¬ Mut (some u) → b ≠ x := fun b u q nm z => by subst z; rw [q] at mu; exact nm mu
  refine ⟨fun b u q n _ _ => k b u (hb b n) q, fun b u q n _ _ => ⟨u.slots, k b u (hb b n) q⟩, fun b u q n _ => by rw [upd_ne (hx b n)]; exact n, fun b u q _ => ?_,
    fun b xs q => by rw [upd_ne (hm b _ q fun z => z)]; exact q, fun b u xs q => by rw [upd_ne (hm b _ q fun z => z)]; exact q, fun b ps q => ⟨#[], by rw [upd_ne (hm b _ q fun z => z), q]; simp⟩⟩
  by_cases hbe : b = e
  · subst hbe; exact heo
  · exact ⟨u, k b u hbe q⟩
theorem Un.mono (u : Un fs ex H H1 h h1) (hs : ∀ b ∈ fs, b ∈ fs') (hx : ∀ b ∈ ex, b ∈ ex') : Un fs' ex' H H1 h h1 :=
  ⟨fun b ob q n hb he => u.keep b ob q n (fun z => hb (hs b z)) fun z => he (hx b z), fun _ _ q n _ he => u.any q n fun z => he (hx _ z), fun b ob q n he => u.free b ob q n fun z => he (hx b z), fun b ob q he => u.there b ob q fun z => he (hx b z), u.tups, u.frzs, u.tbls⟩
end
def trk (h : Heap) (H : Hp) : List Addr := (List.range h.objs.size).filter fun a => (H a).isSome
def hidT (h : Heap) (H : Hp) : Heap := PySem.W.hideAll h (trk h H)
theorem hidT_size (h : Heap) (H : Hp) : (hidT h H).objs.size = h.objs.size := PySem.W.hideAll_size _ _
theorem hidT_get {h : Heap} {H : Hp} {b : Addr} {o : Obj} (e : h.get? b = some o) (n : H b = none) : (hidT h H).get? b = some o :=
  PySem.W.hideAll_get _ e fun hm => by
    have q : (H b).isSome = true := (List.mem_filter.mp hm).2
    rw [n] at q; simp at q
theorem of_hidT {h : Heap} {H : Hp} {b : Addr} {o : Obj} (e : (hidT h H).get? b = some o) : h.get? b = some o ∧ H b = none := by
  have e' : h.get? b = some o := PySem.W.of_hideAll (trk h H) e
  refine ⟨e', ?_⟩
  cases q : H b with
  | none => rfl
  | some x =>
    have hm : b ∈ trk h H := List.mem_filter.mpr ⟨List.mem_range.mpr (Heap.lt_size e'), by simp [q]⟩
    have z : (hidT h H).get? b = none := PySem.W.hideAll_none (trk h H) hm
    rw [z] at e; cases e
def allNews (g h : Heap) (L : Addr) : List (Addr × Obj) := (List.range h.objs.size).filterMap fun a => if a = L ∨ (g.get? a).isSome = true then none else (h.get? a).map fun o => (a, o)
def rest (g h : Heap) (L d : Addr) : List (Addr × Obj) := (allNews g h L).filter fun p => decide (p.1 ≠ d)
end L2
namespace L2
open PySem PySem.Spec PyProof.Rows
structure Mod (K : PySem.W.Frag) (mg : Str → Option Value) (base : Heap) : Prop where
  kin : K.In base
  glob : base.Ns mainGlobals mg
  blt : ∃ mb, base.Ns builtinsNs mb ∧ ∀ x : Str, x ≠ "__name__" → mb x = bootBuiltins x
  nolimit : base.NoLimit
structure Cx where
  prog : Program
  w : World
  K : PySem.W.Frag
  mg : Str → Option Value
  base : Heap
  A : Around
  N : List Str
  s₀ : Shared
  H₀ : Hp
  env : Env
  outer : List Env
  stack : List Env
  ex : List Addr
  fn : Str → Bool
  calm : Bool
  pn : List (Addr × Obj)
  xe : Value → Shared → Prop
def frs (l : List Env) : List Addr := l.filterMap (·.frame)
abbrev Cx.fs (X : Cx) : List Addr := frs X.outer
def Vis (sc : Scope) (x : Str) : Prop := sc.names.lookup x = some .local ∨ sc.names.lookup x = some .cell ∨ sc.names.lookup x = some .free
def Loc (sc : Scope) (x : Str) : Prop := sc.names.lookup x = some .local ∨ sc.names.lookup x = some .cell
def Look (env : Env) (h : Heap) (m : Str → Option Value) (x : Str) (u : Value) : Prop :=
  (env.kindOf x = some .local ∧ m x = some u) ∨ ((env.kindOf x = some .cell ∨ env.kindOf x = some .free) ∧ ∃ c, env.cells.lookup x = some c ∧ h.IsCell c (some u))
structure Cx.Ok (X : Cx) : Prop where
  mod : Mod X.K X.mg X.base
  kind : X.env.scope.kind = .function
  glob : X.env.globals = mainGlobals
  blt : X.env.builtins = builtinsNs
  above : X.s₀.heap.objs.size ≤ X.env.locals
  inj : ∀ x y c, X.env.cells.lookup x = some c → X.env.cells.lookup y = some c → x = y
  has : ∀ x, (X.env.kindOf x = some .cell ∨ X.env.kindOf x = some .free) → ∃ c, X.env.cells.lookup x = some c
  cab : ∀ x c, X.fn x = true → X.env.cells.lookup x = some c → X.s₀.heap.objs.size ≤ c
  hd : X.calm = true → X.A.handled = none
  frames : X.A.frames = some X.stack
  stk : X.stack = X.outer ∨ (X.stack = X.env :: X.outer ∧ X.env.frame = some X.env.locals)
  exf : ∀ b ∈ X.ex, b ≠ X.env.locals ∧ ∀ x c, X.env.cells.lookup x = some c → c ≠ b
  bs : ∀ b o, X.base.get? b = some o → X.s₀.heap.get? b = some o ∧ X.H₀ b = none
  bsz : X.base.objs.size ≤ X.s₀.heap.objs.size
  noex : ∀ b o, X.base.get? b = some o → b ∉ X.ex
  exfs : ∀ b ∈ X.ex, b ∉ X.fs
  funs : X.s₀.heap.FunFrames X.base X.outer
  frf : ∀ b ∈ X.fs, X.H₀ b = none
structure Inv (X : Cx) (pins : List (Addr × Obj)) (σ : List (Option V)) (H : Hp) (s : Shared) : Prop where
  ok : X.Ok
  os : s.os = X.s₀.os
  bare : AllBare s.gens
  base : Un X.fs X.ex X.H₀ H X.s₀.heap s.heap
  loc : ∃ m, s.heap.Ns X.env.locals m ∧ ∀ (i : Nat) (x : Str) (v : V), X.N[i]? = some x → σ[i]? = some (some v) → Vis X.env.scope x → ∃ u, RelV v u ∧ Look X.env s.heap m x u
  cell : ∀ x c, X.env.cells.lookup x = some c → ∃ v, s.heap.IsCell c v
  free : H X.env.locals = none
  freeC : ∀ x c, X.env.cells.lookup x = some c → H c = none
  pin : ∀ p ∈ X.pn ++ pins, s.heap.get? p.1 = some p.2 ∧ H p.1 = none ∧ p.1 ≠ X.env.locals ∧ p.1 ∉ X.fs ∧ ∀ v, p.2.data ≠ .cell v
  hok : HOk X.prog X.w H s.heap
  len : σ.length = X.N.length
section
variable {X : Cx} {pins : List (Addr × Obj)} {σ : List (Option V)} {H H' : Hp} {s : Shared} {h' : Heap}
theorem Cx.Ok.nofr (ok : X.Ok) {b : Addr} {o : Obj} (e : X.base.get? b = some o) : b ∉ X.fs := fun hb => by
  have := (ok.funs.mem hb).1
  rw [e] at this; cases this
theorem Inv.bs (I : Inv X pins σ H s) : ∀ b o, X.base.get? b = some o → s.heap.get? b = some o ∧ H b = none := fun b o e =>
  ⟨I.base.keep b o (I.ok.bs b o e).1 (I.ok.bs b o e).2 (I.ok.nofr e) (I.ok.noex b o e), I.base.free b o (I.ok.bs b o e).1 (I.ok.bs b o e).2 (I.ok.noex b o e)⟩
theorem Inv.bk (I : Inv X pins σ H s) : ∀ b o, X.base.get? b = some o → s.heap.get? b = some o := fun b o e => (I.bs b o e).1
theorem Inv.mod (I : Inv X pins σ H s) : Mod X.K X.mg X.base := I.ok.mod
theorem Inv.kIn (I : Inv X pins σ H s) : X.K.In s.heap := I.ok.mod.kin.keeps I.bk
theorem Inv.nolimit (I : Inv X pins σ H s) : s.heap.NoLimit := I.ok.mod.nolimit.keeps I.bk
theorem Inv.fr (I : Inv X pins σ H s) : ∃ m, Fr X.base X.env.locals s.heap m :=
  let ⟨m, hn, _⟩ := I.loc
  ⟨m, hn, I.bk, Nat.le_trans I.ok.bsz I.ok.above⟩
theorem Inv.lt (I : Inv X pins σ H s) : X.env.locals < s.heap.objs.size := let ⟨_, hn, _⟩ := I.loc; hn.lt
theorem Inv.sz (I : Inv X pins σ H s) : X.s₀.heap.objs.size ≤ s.heap.objs.size := Nat.le_trans I.ok.above (Nat.le_of_lt I.lt)
theorem Inv.nofs (I : Inv X pins σ H s) {a : Addr} (h : s.heap.objs.size ≤ a) : a ∉ X.fs := fun hb => by
  obtain ⟨_, o, ho, _⟩ := I.ok.funs.mem hb
  exact absurd (Nat.lt_of_lt_of_le (Heap.lt_size ho) (Nat.le_trans I.sz h)) (Nat.lt_irrefl _)
theorem Inv.cne (I : Inv X pins σ H s) : ∀ x c, X.env.cells.lookup x = some c → c ≠ X.env.locals := fun x c e z => by
  obtain ⟨v, o, ho, hd⟩ := I.cell x c e
  obtain ⟨m, ⟨o', es, ep, ho', hd', _⟩, _⟩ := I.loc
  rw [z, ho'] at ho; cases ho; rw [hd'] at hd; cases hd
theorem Inv.funs (I : Inv X pins σ H s) : s.heap.FunFrames X.base X.outer := by
  have all : ∀ (l : List Env), (∀ b ∈ frs l, b ∈ X.fs) → X.s₀.heap.FunFrames X.base l → s.heap.FunFrames X.base l := by
    intro l
    induction l with
    | nil => intro _ _; trivial
    | cons env r ih =>
      intro hs hl
      obtain ⟨hk, ⟨L, o, hf, hn, ho, hd⟩, hr⟩ := hl
      have hL : L ∈ X.fs := hs L (by unfold frs; rw [List.filterMap_cons, hf]; exact List.mem_cons_self)
      obtain ⟨sl, e⟩ := I.base.slot L o ho (I.ok.frf L hL) hL fun z => I.ok.exfs L z hL
      exact ⟨hk, ⟨L, _, hf, hn, e, hd⟩, ih (fun b hb => hs b (by unfold frs; rw [List.filterMap_cons, hf]; exact List.mem_cons_of_mem _ hb)) hr⟩
  exact all X.outer (fun _ hb => hb) I.ok.funs
theorem Inv.stack (I : Inv X pins σ H s) : s.heap.FunFrames X.base X.stack := by
  rcases I.ok.stk with e | ⟨e, hf⟩
  · rw [e]; exact I.funs
  · rw [e]
    obtain ⟨m, hn, _⟩ := I.loc
    refine .cons (by rw [I.ok.kind]; decide) hf hn ?_ I.funs
    exact Heap.get?_none_of_le (Nat.le_trans I.ok.bsz I.ok.above)
theorem Inv.stkSub (I : Inv X pins σ H s) : ∀ b ∈ frs X.stack, b ∈ X.env.locals :: X.fs := fun b hb => by
  rcases I.ok.stk with e | ⟨e, hf⟩
  · rw [e] at hb; exact List.mem_cons_of_mem _ hb
  · rw [e] at hb
    unfold frs at hb
    rw [List.filterMap_cons, hf] at hb
    exact hb
theorem Inv.stkFree (I : Inv X pins σ H s) : ∀ b ∈ frs X.stack, H b = none := fun b hb => by
  rcases List.mem_cons.mp (I.stkSub b hb) with e | hb
  · rw [e]; exact I.free
  · obtain ⟨_, o, ho, _⟩ := I.ok.funs.mem hb
    exact I.base.free b o ho (I.ok.frf b hb) fun z => I.ok.exfs b z hb
theorem Inv.step {g' : Array GenState} {t' : Nat} {d' : Drawn} {ch : List Addr} (I : Inv X pins σ H s)
    (hch : ∀ b ∈ ch, (b ∈ X.ex ∨ X.s₀.heap.objs.size ≤ b) ∧ b ≠ X.env.locals ∧ (∀ x c, X.env.cells.lookup x = some c → c ≠ b) ∧ ∀ p ∈ X.pn ++ pins, p.1 ≠ b)
    (keep : ∀ b o, b ≠ X.env.locals → b ∉ X.fs → b ∉ ch → s.heap.get? b = some o → H b = none → h'.get? b = some o)
    (slot : ∀ b o, b ≠ X.env.locals → b ∈ X.fs → b ∉ ch → s.heap.get? b = some o → H b = none → ∃ sl, h'.get? b = some { o with slots := sl }) (free : ∀ b o, b ∉ ch → s.heap.get? b = some o → H b = none → H' b = none)
    (there : ∀ b o, b ∉ ch → s.heap.get? b = some o → ∃ o', h'.get? b = some o')
    (tups : ∀ b xs, H b = some (.tup xs) → H' b = some (.tup xs)) (frzs : ∀ b o u, H b = some (.frz o u) → H' b = some (.frz o u)) (tbls : ∀ b ps, H b = some (.tbl ps) → ∃ more, H' b = some (.tbl (ps ++ more)))
    (ns : ∀ m, s.heap.Ns X.env.locals m → h'.Ns X.env.locals m) (hok : HOk X.prog X.w H' h') (hg : AllBare g') :
    Inv X pins σ H' { s with heap := h', gens := g', drawn := d', toks := t' } := by
  have neL : ∀ b o, X.s₀.heap.get? b = some o → b ≠ X.env.locals := fun b o e => Nat.ne_of_lt (Nat.lt_of_lt_of_le (Heap.lt_size e) I.ok.above)
  have neC : ∀ b o, X.s₀.heap.get? b = some o → b ∉ X.ex → b ∉ ch := fun b o e hx hb => by
    rcases (hch b hb).1 with z | z
    · exact hx z
    · exact absurd (Nat.lt_of_lt_of_le (Heap.lt_size e) z) (Nat.lt_irrefl _)
  have cellK : ∀ x c, X.env.cells.lookup x = some c → ∀ v, s.heap.IsCell c v → h'.IsCell c v := fun x c e v ⟨o, ho, hd⟩ => by
    have nch : c ∉ ch := fun z => (hch c z).2.2.1 x c e rfl
    by_cases hc : c ∈ X.fs
    · obtain ⟨sl, q⟩ := slot c o (I.cne x c e) hc nch ho (I.freeC x c e)
      exact ⟨_, q, hd⟩
    · exact ⟨o, keep c o (I.cne x c e) hc nch ho (I.freeC x c e), hd⟩
  refine ⟨I.ok, I.os, hg, ⟨fun b o e n hb hx => ?_, fun b o e n hb hx => ?_, fun b o e n hx => ?_, fun b o e hx => ?_, fun b xs e => tups b xs (I.base.tups b xs e), fun b o xs e => frzs b o xs (I.base.frzs b o xs e), fun b ps e => ?_⟩, ?_, fun x c e => ?_, ?_, fun x c e => ?_, fun p hp => ?_, hok, I.len⟩
  · exact keep b o (neL b o e) hb (neC b o e hx) (I.base.keep b o e n hb hx) (I.base.free b o e n hx)
  · obtain ⟨sl, e1⟩ := I.base.slot b o e n hb hx
    obtain ⟨sl', e2⟩ := slot b _ (neL b o e) hb (neC b o e hx) e1 (I.base.free b o e n hx)
    exact ⟨sl', e2⟩
  · obtain ⟨o', e1⟩ := I.base.there b o e hx
    exact free b o' (neC b o e hx) e1 (I.base.free b o e n hx)
  · obtain ⟨o', e1⟩ := I.base.there b o e hx
    exact there b o' (neC b o e hx) e1
  · obtain ⟨m1, e1⟩ := I.base.tbls b ps e
    obtain ⟨m2, e2⟩ := tbls b _ e1
    exact ⟨m1 ++ m2, by rw [e2, Array.append_assoc]⟩
  · obtain ⟨m, hn, hl⟩ := I.loc
    refine ⟨m, ns m hn, fun i x v e1 e2 e3 => ?_⟩
    obtain ⟨u, r, l⟩ := hl i x v e1 e2 e3
    refine ⟨u, r, ?_⟩
    rcases l with l | ⟨k, c, e, z⟩
    · exact .inl l
    · exact .inr ⟨k, c, e, cellK x c e _ z⟩
  · obtain ⟨v, z⟩ := I.cell x c e
    exact ⟨v, cellK x c e v z⟩
  · obtain ⟨m, ⟨o, _, _, ho, _⟩, _⟩ := I.loc
    exact free _ o (fun z => (hch _ z).2.1 rfl) ho I.free
  · obtain ⟨v, o, ho, hd⟩ := I.cell x c e
    exact free c o (fun z => (hch c z).2.2.1 x c e rfl) ho (I.freeC x c e)
  · obtain ⟨e, n, ne, nf, d⟩ := I.pin p hp
    have nch : p.1 ∉ ch := fun z => (hch p.1 z).2.2.2 p hp rfl
    exact ⟨keep p.1 p.2 ne nf nch e n, free p.1 p.2 nch e n, ne, nf, d⟩
theorem Inv.un {t' : Nat} (I : Inv X pins σ H s) (u : Un X.fs [] H H' s.heap h') (hok : HOk X.prog X.w H' h') : Inv X pins σ H' { s with heap := h', toks := t' } := by
  obtain ⟨m, ⟨o, es, ep, ho, r⟩, _⟩ := id I.loc
  obtain ⟨sl, hL⟩ := u.any ho I.free (by simp)
  exact I.step (g' := s.gens) (d' := s.drawn) (ch := []) (fun _ z => nomatch z) (fun b o _ hb _ e n => u.keep b o e n hb (by simp)) (fun b o _ hb _ e n => u.slot b o e n hb (by simp)) (fun b o _ e n => u.free b o e n (by simp)) (fun b o _ e => u.there b o e (by simp)) u.tups u.frzs u.tbls (fun m' hm => by
    obtain ⟨o', es', ep', ho', r'⟩ := hm
    rw [ho] at ho'; cases ho'
    exact ⟨_, es', ep', hL, r'⟩) hok I.bare
theorem Inv.call {g' : Array GenState} {t' : Nat} {d' : Drawn} {ch : List Addr} (I : Inv X pins σ H s) (u : Un (frs X.stack) ch H H' s.heap h') (hok : HOk X.prog X.w H' h') (hg : AllBare g')
    (hch : ∀ b ∈ ch, (b ∈ X.ex ∨ X.s₀.heap.objs.size ≤ b) ∧ b ≠ X.env.locals ∧ (∀ x c, X.env.cells.lookup x = some c → c ≠ b) ∧ ∀ p ∈ X.pn ++ pins, p.1 ≠ b) :
    Inv X pins σ H' { s with heap := h', gens := g', drawn := d', toks := t' } := by
  obtain ⟨m, ⟨o, es, ep, ho, r⟩, _⟩ := id I.loc
  obtain ⟨sl, hL⟩ := u.any ho I.free fun z => (hch _ z).2.1 rfl
  exact I.step (ch := ch) hch (fun b o hL hb hc e n => u.keep b o e n (fun z => (List.mem_cons.mp (I.stkSub b z)).elim hL hb) hc) (fun b o _ _ hc e n => u.any e n hc) (fun b o hc e n => u.free b o e n hc) (fun b o hc e => u.there b o e hc) u.tups u.frzs u.tbls (fun m' hm => by
    obtain ⟨o', es', ep', ho', r'⟩ := hm
    rw [ho] at ho'; cases ho'
    exact ⟨_, es', ep', hL, r'⟩) hok hg
theorem Inv.turned {t' : Nat} {it : Addr} (I : Inv X pins σ H s) (k : ∀ b o, b ≠ it → s.heap.get? b = some o → h'.get? b = some o) (hn : H it = none) (hL : it ≠ X.env.locals)
    (h1 : it ∈ X.ex ∨ X.s₀.heap.objs.size ≤ it) (h2 : ∀ x c, X.env.cells.lookup x = some c → c ≠ it) (h3 : ∀ p ∈ X.pn ++ pins, p.1 ≠ it) : Inv X pins σ H { s with heap := h', toks := t' } := by
  have nit : ∀ b u, H b = some u → b ≠ it := fun b u e z => by rw [z, hn] at e; cases e
  refine I.step (g' := s.gens) (d' := s.drawn) (ch := [it]) (fun b hb => ?_) (fun b o _ _ hc e _ => k b o (fun z => hc (by simp [z])) e) (fun b o _ _ hc e _ => ⟨o.slots, k b o (fun z => hc (by simp [z])) e⟩) (fun _ _ _ _ n => n)
    (fun b o hc e => ⟨o, k b o (fun z => hc (by simp [z])) e⟩) (fun _ _ e => e) (fun _ _ _ e => e) (fun b ps e => ⟨#[], by rw [e]; simp⟩) (fun m hm => ?_) (fun b u e => ?_) I.bare
  · have e : b = it := by simpa using hb
    subst e
    exact ⟨h1, hL, h2, h3⟩
  · obtain ⟨o, es, ep, ho, r⟩ := hm
    exact ⟨o, es, ep, k _ o (Ne.symm hL) ho, r⟩
  · refine (I.hok b u e).stay (fun c v hc q => k c v ?_ q) (fun _ q => q) fun _ _ q => q
    rcases hc with z | z
    · rw [z]; exact nit b u e
    · exact nit c _ z
theorem Inv.tok (I : Inv X pins σ H s) (t : Nat) : Inv X pins σ H { s with toks := t } := I.un (h' := s.heap) (t' := t) Un.refl I.hok
theorem Inv.kept {t' : Nat} (I : Inv X pins σ H s) (k : ∀ b u, s.heap.get? b = some u → h'.get? b = some u) : Inv X pins σ H { s with heap := h', toks := t' } := I.un (Un.kept k) (I.hok.kept k)
theorem Inv.laid {a : Addr} {o : HO} {t' : Nat} (I : Inv X pins σ H s) (k : ∀ b u, s.heap.get? b = some u → h'.get? b = some u) (hp : s.heap.objs.size ≤ a) (new : ObjOk X.prog X.w (upd H a o) h' a o) :
    Inv X pins σ (upd H a o) { s with heap := h', toks := t' } := I.un (Un.laid k hp (I.hok.fresh hp)) (I.hok.laid k hp new)
theorem Inv.write {x e : Addr} {o : HO} {t' : Nat} (I : Inv X pins σ H s) (mu : Mut (H x)) (he : e = x ∨ H e = some (.own x)) (k : ∀ b u, b ≠ e → s.heap.get? b = some u → h'.get? b = some u) (heo : ∃ u, h'.get? e = some u)
    (new : ObjOk X.prog X.w (upd H x o) h' x o) : Inv X pins σ (upd H x o) { s with heap := h', toks := t' } := I.un (Un.write mu he k heo) (I.hok.write mu he k heo new)
theorem Inv.pins_of {pins' : List (Addr × Obj)} (I : Inv X pins σ H s) (h : ∀ p ∈ pins', s.heap.get? p.1 = some p.2 ∧ H p.1 = none ∧ p.1 ≠ X.env.locals ∧ p.1 ∉ X.fs ∧ ∀ v, p.2.data ≠ .cell v) : Inv X pins' σ H s :=
  ⟨I.ok, I.os, I.bare, I.base, I.loc, I.cell, I.free, I.freeC, fun p hp => (List.mem_append.mp hp).elim (fun z => I.pin p (List.mem_append_left _ z)) (h p), I.hok, I.len⟩
theorem nodup_ix {N : List Str} (hN : N.Nodup) {i j : Nat} {x : Str} (a : N[i]? = some x) (b : N[j]? = some x) : i = j := by
  obtain ⟨h1, e1⟩ := List.getElem?_eq_some_iff.mp a
  obtain ⟨h2, e2⟩ := List.getElem?_eq_some_iff.mp b
  exact (List.getElem_inj hN).mp (e1.trans e2.symm)
theorem store_ok2 {M : Model} {A : Around} {E : Value → Shared → Prop} {i : Nat} {x : Str} {v : V} {u : Value} {Q : Unit → Shared → Prop} (I : Inv X pins σ H s) (hN : X.N.Nodup) (hi : X.N[i]? = some x) (hx : Loc X.env.scope x) (r : RelV v u)
    (h : ∀ s', Inv X pins (σ.set i (some v)) H s' → (∃ a, Heap.SameBut a s.heap s'.heap ∧ (a = X.env.locals ∨ X.env.cells.lookup x = some a)) → Q () s') (hf : X.fn x = true ∨ X.env.scope.names.lookup x = some .local := by first | exact .inl rfl | exact .inr rfl | assumption) : wpAny M A (storeName X.env x u) Q E s := by
  obtain ⟨m, hn, hl⟩ := id I.loc
  have hcls : (X.env.scope.kind == .class || (X.env.scope.kind == .module && X.env.locals != X.env.globals)) = false := by rw [I.ok.kind]; rfl
  have hiσ : i < σ.length := by rw [I.len]; exact (List.getElem?_eq_some_iff.mp hi).1
  have cne := I.cne
  have tracked : ∀ {a : Addr} {h' : Heap}, (∃ o, s.heap.get? a = some o ∧ H a = none) → Heap.SameBut a s.heap h' → HOk X.prog X.w H h' := fun {a h'} ha hs b ob e => by
    obtain ⟨_, _, hfree⟩ := ha
    refine (I.hok b ob e).stay (fun c w' hc q => (hs.2 c ?_).trans q) (fun _ q => q) fun _ _ q => q
    rintro rfl
    rcases hc with rfl | hc
    · rw [hfree] at e; cases e
    · rw [hfree] at hc; cases hc
  rcases hx with hk | hk
  · refine wpAny_storeName_local hk hn (fun h' hn' hs => ?_) hcls
    obtain ⟨oL, _, _, hoL, _⟩ := id hn
    refine h _ ⟨I.ok, I.os, I.bare, ⟨fun b o e n hb hx => ?_, fun b o e n hb hx => ?_, I.base.free, fun b o e hx => ?_, I.base.tups, I.base.frzs, I.base.tbls⟩, ⟨_, hn', fun j y v' e1 e2 e3 => ?_⟩, fun y c e => ?_, I.free, I.freeC, fun p hp => ?_, tracked ⟨oL, hoL, I.free⟩ hs, by simpa using I.len⟩ ⟨_, hs, .inl rfl⟩
    · exact (hs.2 b (Nat.ne_of_lt (Nat.lt_of_lt_of_le (Heap.lt_size e) I.ok.above))).trans (I.base.keep b o e n hb hx)
    · obtain ⟨sl, e1⟩ := I.base.slot b o e n hb hx
      exact ⟨sl, (hs.2 b (Nat.ne_of_lt (Nat.lt_of_lt_of_le (Heap.lt_size e) I.ok.above))).trans e1⟩
    · obtain ⟨o', e1⟩ := I.base.there b o e hx
      exact ⟨o', (hs.2 b (Nat.ne_of_lt (Nat.lt_of_lt_of_le (Heap.lt_size e) I.ok.above))).trans e1⟩
    · by_cases hj : j = i
      · subst hj
        rw [hi] at e1; cases e1
        rw [List.getElem?_set_self hiσ] at e2
        cases e2
        exact ⟨u, r, .inl ⟨hk, by simp⟩⟩
      · rw [List.getElem?_set_ne (Ne.symm hj)] at e2
        obtain ⟨u', r', q⟩ := hl j y v' e1 e2 e3
        refine ⟨u', r', ?_⟩
        rcases q with ⟨k, e⟩ | ⟨k, c, e, z⟩
        · refine .inl ⟨k, ?_⟩
          have : y ≠ x := fun e => hj (nodup_ix hN e1 (e ▸ hi))
          simp [this, e]
        · exact .inr ⟨k, c, e, z.sameBut hs (cne y c e)⟩
    · obtain ⟨w', z⟩ := I.cell y c e
      exact ⟨w', z.sameBut hs (cne y c e)⟩
    · obtain ⟨e, n, ne, nf, d⟩ := I.pin p hp
      exact ⟨(hs.2 p.1 ne).trans e, n, ne, nf, d⟩
  · have hfn : X.fn x = true := by
      rcases hf with z | z
      · exact z
      · rw [z] at hk; cases hk
    obtain ⟨c, hc⟩ := I.ok.has x (.inl hk)
    obtain ⟨w', z⟩ := I.cell x c hc
    refine wpAny_storeName_cell I.ok.kind hk hc z (fun h' hc' hs => ?_)
    obtain ⟨oc, hoc, hocd⟩ := id z
    refine h { s with heap := h' } ⟨I.ok, I.os, I.bare, ⟨fun b o e n hb hx => ?_, fun b o e n hb hx => ?_, I.base.free, fun b o e hx => ?_, I.base.tups, I.base.frzs, I.base.tbls⟩, ⟨m, hn.sameBut hs (Ne.symm (cne x c hc)), fun j y v' e1 e2 e3 => ?_⟩, fun y c' e => ?_, I.free, I.freeC, fun p hp => ?_, tracked ⟨oc, hoc, I.freeC x c hc⟩ hs, by simpa using I.len⟩ ⟨c, hs, .inr hc⟩
    · exact (hs.2 b (Nat.ne_of_lt (Nat.lt_of_lt_of_le (Heap.lt_size e) (I.ok.cab x c hfn hc)))).trans (I.base.keep b o e n hb hx)
    · obtain ⟨sl, e1⟩ := I.base.slot b o e n hb hx
      exact ⟨sl, (hs.2 b (Nat.ne_of_lt (Nat.lt_of_lt_of_le (Heap.lt_size e) (I.ok.cab x c hfn hc)))).trans e1⟩
    · obtain ⟨o', e1⟩ := I.base.there b o e hx
      exact ⟨o', (hs.2 b (Nat.ne_of_lt (Nat.lt_of_lt_of_le (Heap.lt_size e) (I.ok.cab x c hfn hc)))).trans e1⟩
    · by_cases hj : j = i
      · subst hj
        rw [hi] at e1; cases e1
        rw [List.getElem?_set_self hiσ] at e2
        cases e2
        exact ⟨u, r, .inr ⟨.inl hk, c, hc, hc'⟩⟩
      · rw [List.getElem?_set_ne (Ne.symm hj)] at e2
        obtain ⟨u', r', q⟩ := hl j y v' e1 e2 e3
        refine ⟨u', r', ?_⟩
        rcases q with q | ⟨k, c', e, z'⟩
        · exact .inl q
        · refine .inr ⟨k, c', e, z'.sameBut hs ?_⟩
          rintro rfl
          exact hj (nodup_ix hN e1 (I.ok.inj _ _ _ e hc ▸ hi))
    · by_cases hcc : c' = c
      · subst hcc; exact ⟨_, hc'⟩
      · obtain ⟨w2, z2⟩ := I.cell y c' e
        exact ⟨w2, z2.sameBut hs hcc⟩
    · obtain ⟨e, n, ne, nf, d⟩ := I.pin p hp
      refine ⟨(hs.2 p.1 ?_).trans e, n, ne, nf, d⟩
      intro q
      rw [q, hoc] at e
      have q' : oc = p.2 := Option.some.inj e
      exact d w' (by rw [← q']; exact hocd)
theorem store_ok {M : Model} {A : Around} {E : Value → Shared → Prop} {i : Nat} {x : Str} {v : V} {u : Value} {Q : Unit → Shared → Prop} (I : Inv X pins σ H s) (hN : X.N.Nodup) (hi : X.N[i]? = some x) (hx : Loc X.env.scope x) (r : RelV v u)
    (h : ∀ s', Inv X pins (σ.set i (some v)) H s' → Q () s') (hf : X.fn x = true ∨ X.env.scope.names.lookup x = some .local := by first | exact .inl rfl | exact .inr rfl | assumption) : wpAny M A (storeName X.env x u) Q E s :=
  store_ok2 I hN hi hx r (fun s' I' _ => h s' I') hf
theorem Inv.call' {s' : Shared} {ch : List Addr} (I : Inv X pins σ H s) (ho : s'.os = s.os) (u : Un (frs X.stack) ch H H' s.heap s'.heap) (hok : HOk X.prog X.w H' s'.heap) (hg : AllBare s'.gens)
    (hch : ∀ b ∈ ch, (b ∈ X.ex ∨ X.s₀.heap.objs.size ≤ b) ∧ b ≠ X.env.locals ∧ (∀ x c, X.env.cells.lookup x = some c → c ≠ b) ∧ ∀ p ∈ X.pn ++ pins, p.1 ≠ b) : Inv X pins σ H' s' := by
  obtain ⟨h', g', d', t', o'⟩ := s'
  have e : o' = s.os := ho
  subst e
  exact I.call (g' := g') (t' := t') (d' := d') u hok hg hch
end
abbrev XK := Value → Option Addr → Hp → Prop
abbrev St := List (Option V)
abbrev VK := V → Hp → Prop
abbrev TE := St → Hp → VK → Prop
abbrev TT := St → Hp → (Bool → Hp → Prop) → Prop
abbrev TA := St → Hp → (List V → Hp → Prop) → Prop
structure Ends where
  nx : St → Hp → Prop
  rt : VK
  bk : St → Hp → Prop := fun _ _ => False
  ct : St → Hp → Prop := fun _ _ => False
abbrev TS := Ends → St → Hp → Prop
def EP (X : Cx) (pins : List (Addr × Obj)) (σ : St) (Q : VK) (u : Value) (s' : Shared) : Prop := ∃ v H', Inv X pins σ H' s' ∧ RelV v u ∧ Q v H'
def TP (X : Cx) (pins : List (Addr × Obj)) (σ : St) (Q : Bool → Hp → Prop) (b : Bool) (s' : Shared) : Prop := ∃ H', Inv X pins σ H' s' ∧ Q b H'
def AP (X : Cx) (pins : List (Addr × Obj)) (σ : St) (Q : List V → Hp → Prop) (us : List Value) (s' : Shared) : Prop := ∃ vs H', Inv X pins σ H' s' ∧ Vals vs us ∧ Q vs H'
def SP (X : Cx) (pins : List (Addr × Obj)) (D : Ends) (f : Flow) (s' : Shared) : Prop :=
  match f with
  | .next => ∃ σ' H', Inv X pins σ' H' s' ∧ D.nx σ' H'
  | .brk => ∃ σ' H', Inv X pins σ' H' s' ∧ D.bk σ' H'
  | .cont => ∃ σ' H', Inv X pins σ' H' s' ∧ D.ct σ' H'
  | .ret u => ∃ v σ' H', Inv X pins σ' H' s' ∧ RelV v u ∧ D.rt v H'
def PE (X : Cx) (e : Expr) (t : TE) : Prop :=
  ∀ (pins : List (Addr × Obj)) (s : Shared) (σ : St) (H : Hp) (Q : VK), Inv X pins σ H s → t σ H Q → wpAny (model X.prog X.w) X.A (eval e X.env) (EP X pins σ Q) X.xe s
def PT (X : Cx) (e : Expr) (t : TT) : Prop :=
  ∀ (pins : List (Addr × Obj)) (s : Shared) (σ : St) (H : Hp) (Q : Bool → Hp → Prop), Inv X pins σ H s → t σ H Q → wpAny (model X.prog X.w) X.A (isTrue e X.env (eval e X.env)) (TP X pins σ Q) X.xe s
def PW (X : Cx) (e : Expr) (t : TT) : Prop :=
  ∀ (whole : Sem Value) (pins : List (Addr × Obj)) (s : Shared) (σ : St) (H : Hp) (Q : Bool → Hp → Prop), Inv X pins σ H s → t σ H Q → wpAny (model X.prog X.w) X.A (isTrue e X.env whole) (TP X pins σ Q) X.xe s
theorem PW.pt {X : Cx} {e : Expr} {t : TT} (h : PW X e t) : PT X e t := h _
def PA (X : Cx) (es : List Expr) (t : TA) : Prop :=
  ∀ (pos : Pos) (pins : List (Addr × Obj)) (s : Shared) (σ : St) (H : Hp) (Q : List V → Hp → Prop), Inv X pins σ H s → t σ H Q → wpAny (model X.prog X.w) X.A (spliced (backTo pos (starEach es X.env))) (AP X pins σ Q) X.xe s
def PS (X : Cx) (st : Stmt) (t : TS) : Prop :=
  ∀ (pins : List (Addr × Obj)) (s : Shared) (σ : St) (H : Hp) (D : Ends), Inv X pins σ H s → t D σ H → wpAny (model X.prog X.w) X.A (exec st X.env) (SP X pins D) X.xe s
def PSs (X : Cx) (st : List Stmt) (t : TS) : Prop :=
  ∀ (pins : List (Addr × Obj)) (s : Shared) (σ : St) (H : Hp) (D : Ends), Inv X pins σ H s → t D σ H → wpAny (model X.prog X.w) X.A (execs st X.env) (SP X pins D) X.xe s
theorem thn {α : Type} {t : Sem α} {Q Q' : α → Shared → Prop} {M : Model} {A : Around} {E : Value → Shared → Prop} {s : Shared} (h : wpAny M A t Q E s) (hQ : ∀ a s, Q a s → Q' a s) : wpAny M A t Q' E s := wpAny_mono h hQ fun _ _ x => x
end L2
namespace L2
open PySem PySem.Spec PyProof.Rows
section
variable {X : Cx}
theorem bin {a b : Expr} {ta tb : TE} (ha : PE X a ta) (hb : PE X b tb) {pins : List (Addr × Obj)} {s : Shared} {σ : St} {H : Hp} {R : V → V → Hp → Prop} (I : Inv X pins σ H s) (h : ta σ H fun x H1 => tb σ H1 fun y H2 => R x y H2)
    {α : Type} {Q : α → Shared → Prop} {f : Value → Value → Sem α}
    (hf : ∀ v u s2 x y H2, Inv X pins σ H2 s2 → RelV x v → RelV y u → R x y H2 → wpAny (model X.prog X.w) X.A (f v u) Q X.xe s2) :
    wpAny (model X.prog X.w) X.A (eval a X.env) (fun v s₁ => wpAny (model X.prog X.w) X.A (eval b X.env) (fun u s₂ => wpAny (model X.prog X.w) X.A (f v u) Q X.xe s₂) X.xe s₁) X.xe s := by
  refine thn (ha pins s σ H _ I h) fun v s1 ⟨x, H1, I1, r1, q1⟩ => ?_
  refine thn (hb pins s1 σ H1 _ I1 q1) fun u s2 ⟨y, H2, I2, r2, q2⟩ => ?_
  exact hf v u s2 x y H2 I2 r1 r2 q2
def tVar (i : Nat) : TE := fun σ H Q => ∃ v, σ[i]? = some (some v) ∧ Q v H
def tC (v : V) : TE := fun _ H Q => Q v H
theorem pe_var {i : Nat} {x : Str} {pos : Pos} (hN : X.N[i]? = some x) (hv : Vis X.env.scope x) (hd : (x == ("__debug__" : Str)) = false := by decide) (hcd : (x == ("__classdict__" : Str)) = false := by decide) : PE X (.Name x pos) (tVar i) := by
  intro pins s σ H Q I h
  obtain ⟨v, e, h⟩ := h
  obtain ⟨m, hn, hl⟩ := I.loc
  obtain ⟨u, r, l⟩ := hl i x v hN e hv
  have fin : EP X pins σ Q u s := ⟨v, H, I, r, h⟩
  rcases l with ⟨hk, hm⟩ | ⟨hk, c, hc, hcell⟩
  · exact wpAny_Name (wpAny_loadName_local I.ok.kind hk hn hm fin) hd
  · rcases hk with hk | hk
    · exact wpAny_Name (wpAny_loadName_cell I.ok.kind hk hc hcell fin) hd
    · exact wpAny_Name (wpAny_loadName_free I.ok.kind hk hc hcell fin hcd) hd
theorem pe_int {i j pos} : PE X (.Constant (.int i) j pos) (tC (.int i)) := fun _ _ _ H _ I h => wpAny_Constant_int ⟨.int i, H, I.tok _, ⟨_, rfl⟩, h⟩
theorem pe_bl {b j pos} : PE X (.Constant (.bool b) j pos) (tC (.bl b)) := fun _ _ _ H _ I h => Constant_bool ⟨.bl b, H, I, rfl, h⟩
theorem pe_non {j pos} : PE X (.Constant .none j pos) (tC .non) := fun _ _ _ H _ I h => Constant_none ⟨.non, H, I, rfl, h⟩
theorem pe_str {x j pos} : PE X (.Constant (.str x) j pos) (tC (.str x)) := fun _ _ _ H _ I h => Calls.Constant_str ⟨.str x, H, I.tok _, ⟨_, rfl⟩, h⟩
def Gl (X : Cx) (x : Str) : Prop := X.env.kindOf x = some .globalImplicit
theorem ld_glob {E : Value → Shared → Prop} {pins : List (Addr × Obj)} {s : Shared} {σ : St} {H : Hp} {x : Str} {u : Value} {pos : Pos} {Q : Value → Shared → Prop} (I : Inv X pins σ H s) (hg : Gl X x) (hm : X.mg x = some u) (h : Q u s)
    (hd : (x == ("__debug__" : Str)) = false := by decide) : wpAny (model X.prog X.w) X.A (eval (.Name x pos) X.env) Q E s :=
  Calls.Name_function_global I.ok.kind hg (Calls.loadGlobal_global (by rw [I.ok.glob]; exact I.mod.glob.keeps I.bk) hm h) hd
theorem ld_blt {E : Value → Shared → Prop} {pins : List (Addr × Obj)} {s : Shared} {σ : St} {H : Hp} {x : Str} {u : Value} {pos : Pos} {Q : Value → Shared → Prop} (I : Inv X pins σ H s) (hg : Gl X x) (hm : X.mg x = none) (hv : bootBuiltins x = some u) (h : Q u s)
    (hn : x ≠ "__name__" := by decide) (hd : (x == ("__debug__" : Str)) = false := by decide) : wpAny (model X.prog X.w) X.A (eval (.Name x pos) X.env) Q E s := by
  obtain ⟨mb, h1, h2⟩ := I.mod.blt
  exact Calls.Name_function_global I.ok.kind hg (Calls.loadGlobal_builtin (by rw [I.ok.glob]; exact I.mod.glob.keeps I.bk) hm (by rw [I.ok.blt]; exact h1.keeps I.bk) ((h2 x hn).trans hv) h) hd
theorem pe_glob {x : Str} {v : V} {u : Value} {pos : Pos} (hg : Gl X x) (hm : X.mg x = some u) (r : RelV v u) (hd : (x == ("__debug__" : Str)) = false := by decide) : PE X (.Name x pos) (tC v) :=
  fun _ _ _ H _ I h => ld_glob I hg hm ⟨v, H, I, r, h⟩ hd
theorem pe_bltn {x : Str} {v : V} {u : Value} {pos : Pos} (hg : Gl X x) (hm : X.mg x = none) (hv : bootBuiltins x = some u) (r : RelV v u) (hn : x ≠ "__name__" := by decide) (hd : (x == ("__debug__" : Str)) = false := by decide) : PE X (.Name x pos) (tC v) :=
  fun _ _ _ H _ I h => ld_blt I hg hm hv ⟨v, H, I, r, h⟩ hn hd
variable {a b : Expr} {ta tb : TE} {pos : Pos}
def PC (X : Cx) (op : CmpOp) (a b : Expr) (t : TE) : Prop :=
  ∀ (pins : List (Addr × Obj)) (s : Shared) (σ : St) (H : Hp) (Q : VK), Inv X pins σ H s → t σ H Q →
    wpAny (model X.prog X.w) X.A (eval a X.env) (fun v s₁ => wpAny (model X.prog X.w) X.A (eval b X.env) (fun u s₂ => wpAny (model X.prog X.w) X.A (compareOp op v u) (EP X pins σ Q) X.xe s₂) X.xe s₁) X.xe s
theorem nobehind (b : Expr) {op : CmpOp} (h : op ≠ .In) (h2 : op ≠ .NotIn) : behindInMarks op b = false := by
  have e1 : (op == CmpOp.In) = false := by cases op <;> first | rfl | exact absurd rfl h
  have e2 : (op == CmpOp.NotIn) = false := by cases op <;> first | rfl | exact absurd rfl h2
  cases b <;> simp [behindInMarks, e1, e2]
def tIsN (ta : TE) : TE := fun σ H Q => ta σ H fun x H1 => Q (.bl (decide (x = .non))) H1
def tNotN (ta : TE) : TE := fun σ H Q => ta σ H fun x H1 => Q (.bl (!decide (x = .non))) H1
theorem RelV.none_iff {x : V} {v : Value} (r : RelV x v) : (v == Value.none) = decide (x = .non) := by
  cases x with
  | non => cases r; rfl
  | bl _ => cases r; rfl
  | int _ => obtain ⟨t, rfl⟩ := r; rfl
  | str _ => obtain ⟨t, rfl⟩ := r; rfl
  | byt _ => obtain ⟨t, rfl⟩ := r; rfl
  | flt _ => obtain ⟨t, rfl⟩ := r; rfl
  | ref _ => cases r; rfl
  | ty _ => cases r; rfl
theorem pc_isN {j pos'} (ha : PE X a ta) : PC X .Is a (.Constant .none j pos') (tIsN ta) := by
  intro pins s σ H Q I h
  refine thn (ha pins s σ H _ I h) fun v s1 ⟨x, H1, I1, r1, q1⟩ => ?_
  exact Constant_none (is_none_gen ⟨.bl _, H1, I1, by rw [r1.none_iff]; rfl, q1⟩)
theorem pc_notN {j pos'} (ha : PE X a ta) : PC X .IsNot a (.Constant .none j pos') (tNotN ta) := by
  intro pins s σ H Q I h
  refine thn (ha pins s σ H _ I h) fun v s1 ⟨x, H1, I1, r1, q1⟩ => ?_
  exact Constant_none (isnot_none_gen ⟨.bl _, H1, I1, by rw [r1.none_iff]; rfl, q1⟩)
theorem pe_cmp {op : CmpOp} {t : TE} (h : PC X op a b t) (h1 : behindInMarks op b = false := by first | exact nobehind _ (by decide) (by decide) | rfl) : PE X (.Compare a [op] [b] pos) t := fun pins s σ H Q I hw => wpAny_Compare1 (h pins s σ H Q I hw) h1
variable {tA tB' : TT} {rest : List Expr}
def tAnd (t u : TT) : TT := fun σ H Q => t σ H fun c H1 => if c = true then u σ H1 Q else Q false H1
def tOr (t u : TT) : TT := fun σ H Q => t σ H fun c H1 => if c = true then Q true H1 else u σ H1 Q
def tNot (t : TT) : TT := fun σ H Q => t σ H fun c H1 => Q (!c) H1
theorem pw_and1 (ha : PT X a tA) : PW X (.BoolOp .And [a] pos) tA := by
  intro wh pins s σ H Q I h
  refine isTrue_and (thn (ha pins s σ H Q I h) fun c s1 e => ?_)
  cases c with
  | true => exact isTrue_and_nil e
  | false => exact e
theorem pw_or1 (ha : PT X a tA) : PW X (.BoolOp .Or [a] pos) tA := by
  intro wh pins s σ H Q I h
  refine isTrue_or (thn (ha pins s σ H Q I h) fun c s1 e => ?_)
  cases c with
  | false => exact isTrue_or_nil e
  | true => exact e
theorem pw_and (ha : PT X a tA) (hb : PW X (.BoolOp .And (b :: rest) pos) tB') : PW X (.BoolOp .And (a :: b :: rest) pos) (tAnd tA tB') := by
  intro wh pins s σ H Q I h
  refine isTrue_and (thn (ha pins s σ H _ I h) fun c s1 ⟨H1, I1, q1⟩ => ?_)
  cases c with
  | true => exact hb wh pins s1 σ H1 Q I1 q1
  | false => exact ⟨H1, I1, q1⟩
theorem pw_or (ha : PT X a tA) (hb : PW X (.BoolOp .Or (b :: rest) pos) tB') : PW X (.BoolOp .Or (a :: b :: rest) pos) (tOr tA tB') := by
  intro wh pins s σ H Q I h
  refine isTrue_or (thn (ha pins s σ H _ I h) fun c s1 ⟨H1, I1, q1⟩ => ?_)
  cases c with
  | true => exact ⟨H1, I1, q1⟩
  | false => exact hb wh pins s1 σ H1 Q I1 q1
theorem pt_not (ha : PT X a tA) : PT X (.UnaryOp .Not a pos) (tNot tA) := by
  intro pins s σ H Q I h
  exact isTrue_not (ha pins s σ H (fun c H1 => Q (!c) H1) I h)
theorem pe_one {op} {t : TE} (h : PE X a t) : PE X (.BoolOp op [a] pos) t := fun pins s σ H Q I hw => BoolOp_one (h pins s σ H Q I hw)
end
end L2
namespace L2
open PySem PySem.Spec PyProof.Rows
def SqL (K : PySem.W.Frag) (H : Hp) (a : Addr) (xs : List V) : Prop :=
  Rd H a (.lst xs) ∨
    ∃ (o : Obj) (its : Array Value) (n : Nat), K.lookup a = some o ∧ o.cls = .type "list" ∧ o.dict = none ∧ o.data = .seq its n ∧ its.size ≤ sizeLine ∧ Vals xs its.toList
def SqT (K : PySem.W.Frag) (H : Hp) (a : Addr) (xs : List V) : Prop :=
  Rd H a (.tup xs) ∨
    ∃ (o : Obj) (its : Array Value) (n : Nat), K.lookup a = some o ∧ o.cls = .type "tuple" ∧ o.data = .seq its n ∧ its.size ≤ sizeLine ∧ Vals xs its.toList
def absV : Value → Option V
  | .none => some .non
  | .bool b => some (.bl b)
  | .int i _ => some (.int i)
  | .str x _ => some (.str x)
  | .bytes b _ => some (.byt b)
  | .float b _ => some (.flt b)
  | .ref a => some (.ref a)
  | .type n => some (.ty n)
  | _ => none
theorem RelV.abs {x : V} {u : Value} (r : RelV x u) : absV u = some x := by
  cases x with
  | non => cases r; rfl
  | bl _ => cases r; rfl
  | int _ => obtain ⟨t, rfl⟩ := r; rfl
  | str _ => obtain ⟨t, rfl⟩ := r; rfl
  | byt _ => obtain ⟨t, rfl⟩ := r; rfl
  | flt _ => obtain ⟨t, rfl⟩ := r; rfl
  | ref _ => cases r; rfl
  | ty _ => cases r; rfl
theorem RelV.inj {x y : V} {u : Value} (r : RelV x u) (q : RelV y u) : x = y := Option.some.inj (r.abs.symm.trans q.abs)
theorem Vals.inj : ∀ {xs ys : List V} {us : List Value}, Vals xs us → Vals ys us → xs = ys
  | _, _, _, .nil, .nil => rfl
  | _, _, _, .cons r t, .cons r' t' => by rw [r.inj r', Vals.inj t t']
section
variable {X : Cx} {pins : List (Addr × Obj)} {σ : St} {H : Hp} {s : Shared} {a : Addr} {xs ys : List V}
theorem SqL.of {K : PySem.W.Frag} (h : H a = some (.lst xs)) : SqL K H a xs := .inl (.inl h)
theorem SqT.of {K : PySem.W.Frag} (h : H a = some (.tup xs)) : SqT K H a xs := .inl (.inl h)
theorem Inv.list (I : Inv X pins σ H s) (h : SqL X.K H a xs) : ∃ its : List Value, Vals xs its ∧ PlainL s.heap a its.toArray ∧ xs.length ≤ sizeLine := by
  rcases h with h | ⟨o, its, n, hk, hc, hd, hs, hz, r⟩
  · obtain ⟨z, its, n, r, e⟩ := h.ok I.hok
    exact ⟨its, r, ⟨_, n, e, rfl, rfl, rfl⟩, z⟩
  · refine ⟨its.toList, r, ⟨o, n, I.kIn a o hk, hc, hd, by simpa using hs⟩, ?_⟩
    have e := r.length
    simp only [Array.length_toList] at e
    omega
theorem Inv.tuple (I : Inv X pins σ H s) (h : SqT X.K H a xs) : ∃ its : List Value, Vals xs its ∧ IsTup s.heap a its.toArray ∧ xs.length ≤ sizeLine := by
  rcases h with h | ⟨o, its, n, hk, hc, hs, hz, r⟩
  · obtain ⟨z, its, r, p⟩ := h.ok I.hok
    exact ⟨its, r, p, z⟩
  · refine ⟨its.toList, r, ⟨o, I.kIn a o hk, hc, n, by simpa using hs⟩, ?_⟩
    have e := r.length
    simp only [Array.length_toList] at e
    omega
theorem Inv.list_inj (I : Inv X pins σ H s) (h : SqL X.K H a xs) (h' : SqL X.K H a ys) : xs = ys := by
  obtain ⟨its, r, ⟨o, n, e, _, _, d⟩, _⟩ := I.list h
  obtain ⟨its', r', ⟨o', n', e', _, _, d'⟩, _⟩ := I.list h'
  rw [e] at e'; cases e'
  rw [d] at d'
  injection d' with d1 _
  have : its = its' := by simpa using congrArg Array.toList d1
  subst this
  exact r.inj r'
theorem Inv.tuple_inj (I : Inv X pins σ H s) (h : SqT X.K H a xs) (h' : SqT X.K H a ys) : xs = ys := by
  obtain ⟨its, r, ⟨o, e, _, n, d⟩, _⟩ := I.tuple h
  obtain ⟨its', r', ⟨o', e', _, n', d'⟩, _⟩ := I.tuple h'
  rw [e] at e'; cases e'
  rw [d] at d'
  injection d' with d1 _
  have : its = its' := by simpa using congrArg Array.toList d1
  subst this
  exact r.inj r'
end
abbrev Cx.wish (X : Cx) (E : Value → Shared → Prop) : Cx := { X with xe := E }
abbrev Cx.nox (X : Cx) : Cx := X.wish fun _ _ => False
theorem Cx.Ok.wish {X : Cx} (ok : X.Ok) (E : Value → Shared → Prop) : (X.wish E).Ok :=
  ⟨ok.mod, ok.kind, ok.glob, ok.blt, ok.above, ok.inj, ok.has, ok.cab, ok.hd, ok.frames, ok.stk, ok.exf, ok.bs, ok.bsz, ok.noex, ok.exfs, ok.funs, ok.frf⟩
theorem Cx.Ok.unwish {X : Cx} {E : Value → Shared → Prop} (ok : (X.wish E).Ok) : X.Ok :=
  ⟨ok.mod, ok.kind, ok.glob, ok.blt, ok.above, ok.inj, ok.has, ok.cab, ok.hd, ok.frames, ok.stk, ok.exf, ok.bs, ok.bsz, ok.noex, ok.exfs, ok.funs, ok.frf⟩
section
variable {X : Cx} {pins : List (Addr × Obj)} {σ : St} {H : Hp} {s : Shared} {E : Value → Shared → Prop}
theorem Inv.wish (I : Inv X pins σ H s) (E : Value → Shared → Prop) : Inv (X.wish E) pins σ H s := ⟨I.ok.wish E, I.os, I.bare, I.base, I.loc, I.cell, I.free, I.freeC, I.pin, I.hok, I.len⟩
theorem Inv.unwish (I : Inv (X.wish E) pins σ H s) : Inv X pins σ H s := ⟨I.ok.unwish, I.os, I.bare, I.base, I.loc, I.cell, I.free, I.freeC, I.pin, I.hok, I.len⟩
theorem SP.unwish {D : Ends} {f : Flow} {s' : Shared} (h : SP (X.wish E) pins D f s') : SP X pins D f s' := by
  cases f with
  | next => obtain ⟨σ', H', I, q⟩ := h; exact ⟨σ', H', I.unwish, q⟩
  | brk => obtain ⟨σ', H', I, q⟩ := h; exact ⟨σ', H', I.unwish, q⟩
  | cont => obtain ⟨σ', H', I, q⟩ := h; exact ⟨σ', H', I.unwish, q⟩
  | ret u => obtain ⟨v, σ', H', I, r, q⟩ := h; exact ⟨v, σ', H', I.unwish, r, q⟩
theorem PE.nox {e : Expr} {t : TE} (h : PE X.nox e t) : PE X e t := fun pins s σ H Q I hw =>
  wpAny_mono (h pins s σ H Q (I.wish _) hw) (fun _ _ ⟨v, H', I', r, q⟩ => ⟨v, H', I'.unwish, r, q⟩) fun _ _ z => False.elim z
theorem PT.nox {e : Expr} {t : TT} (h : PT X.nox e t) : PT X e t := fun pins s σ H Q I hw =>
  wpAny_mono (h pins s σ H Q (I.wish _) hw) (fun _ _ ⟨H', I', q⟩ => ⟨H', I'.unwish, q⟩) fun _ _ z => False.elim z
theorem PSs.nox {st : List Stmt} {t : TS} (h : PSs X.nox st t) : PSs X st t := fun pins s σ H D I hw =>
  wpAny_mono (h pins s σ H D (I.wish _) hw) (fun _ _ q => q.unwish) fun _ _ z => False.elim z
end
section
variable {X : Cx} {st : Stmt} {rest : List Stmt} {t u : TS} {e : Expr} {te : TE} {pos : Pos}
def tNext : TS := fun D σ H => D.nx σ H
def tSeq (t u : TS) : TS := fun D σ H => t { D with nx := u D } σ H
theorem pss_nil : PSs X [] tNext := fun _ _ σ H _ I h => wpAny_execs_nil ⟨σ, H, I, h⟩
theorem pss_cons (h1 : PS X st t) (h2 : PSs X rest u) : PSs X (st :: rest) (tSeq t u) := by
  intro pins s σ H D I h
  refine wpAny_execs_cons (thn (h1 pins s σ H { D with nx := u D } I h) fun f s1 q => ?_)
  cases f with
  | next =>
    obtain ⟨σ', H', I', q⟩ := q
    exact h2 pins s1 σ' H' D I' q
  | ret v => exact q
  | brk => exact q
  | cont => exact q
theorem pss_one (h1 : PS X st t) : PSs X [st] t := by
  intro pins s σ H D I h
  refine wpAny_execs_cons (thn (h1 pins s σ H D I h) fun f s1 q => ?_)
  cases f with
  | next => exact wpAny_execs_nil q
  | ret v => exact q
  | brk => exact q
  | cont => exact q
theorem Inv.quiet {pins : List (Addr × Obj)} {σ : St} {H : Hp} {s : Shared} (I : Inv X pins σ H s) : interactive X.env = false := by simp [interactive, I.ok.kind]
def tDrop (te : TE) : TS := fun D σ H => te σ H fun _ H1 => D.nx σ H1
theorem ps_expr (he : PE X e te) (hs : swapsWith e none pos.line X.env = pure false := by rfl) : PS X (.Expr e pos) (tDrop te) := by
  intro pins s σ H D I h
  exact wpAny_Expr_any (thn (he pins s σ H _ I h) fun v s1 ⟨x, H1, I1, r1, q1⟩ => ⟨σ, H1, I1, q1⟩) I.quiet hs
def tRet (te : TE) : TS := fun D σ H => te σ H D.rt
theorem ps_ret (he : PE X e te) : PS X (.Return (some e) pos) (tRet te) := by
  intro pins s σ H D I h
  exact wpAny_Return_some (thn (he pins s σ H _ I h) fun v s1 ⟨x, H1, I1, r1, q1⟩ => ⟨x, σ, H1, I1, r1, q1⟩)
def tIfS (c : TT) (t u : TS) : TS := fun D σ H => c σ H fun b H1 => if b = true then t D σ H1 else u D σ H1
theorem ps_if {c : Expr} {a b : List Stmt} {tc : TT} (hc : PT X c tc) (ha : PSs X a t) (hb : PSs X b u) : PS X (.If c a b pos) (tIfS tc t u) := by
  intro pins s σ H D I h
  refine wpAny_If (thn (hc pins s σ H _ I h) fun d s1 ⟨H1, I1, q1⟩ => ?_)
  cases d with
  | true => exact ha pins s1 σ H1 D I1 q1
  | false => exact hb pins s1 σ H1 D I1 q1
end
abbrev TG := V → St → Hp → (St → Hp → Prop) → Prop
abbrev TGs := List V → St → Hp → (St → Hp → Prop) → Prop
def PG (X : Cx) (target : Expr) (t : TG) : Prop :=
  ∀ (pins : List (Addr × Obj)) (s : Shared) (σ : St) (H : Hp) (v : V) (u : Value) (Q : St → Hp → Prop), Inv X pins σ H s → RelV v u → t v σ H Q →
    wpAny (model X.prog X.w) X.A (assign target X.env u) (fun _ s' => ∃ σ' H', Inv X pins σ' H' s' ∧ Q σ' H') X.xe s
def PGs (X : Cx) (ts : List Expr) (t : TGs) : Prop :=
  ∀ (pins : List (Addr × Obj)) (s : Shared) (σ : St) (H : Hp) (vs : List V) (us : List Value) (Q : St → Hp → Prop), Inv X pins σ H s → Vals vs us → t vs σ H Q →
    wpAny (model X.prog X.w) X.A (assignInOrder ((assignEach ts X.env).map (·.2)) us) (fun _ s' => ∃ σ' H', Inv X pins σ' H' s' ∧ Q σ' H') X.xe s
abbrev TSet := V → V → V → Hp → (Hp → Prop) → Prop
def PSet (X : Cx) (t : TSet) : Prop :=
  ∀ (pins : List (Addr × Obj)) (s : Shared) (σ : St) (H : Hp) (o i v : V) (ov iv u : Value) (Q : Hp → Prop), Inv X pins σ H s → RelV o ov → RelV i iv → RelV v u → t o i v H Q →
    wpAny (model X.prog X.w) X.A (setItem ov iv u) (fun _ s' => ∃ H', Inv X pins σ H' s' ∧ Q H') X.xe s
section
variable {X : Cx} {pos : Pos}
def gName (i : Nat) : TG := fun v σ H Q => Q (σ.set i (some v)) H
theorem pg_name {i : Nat} {x : Str} (hN : X.N.Nodup) (hi : X.N[i]? = some x) (hx : Loc X.env.scope x) (hf : X.fn x = true ∨ X.env.scope.names.lookup x = some .local := by first | exact .inl rfl | exact .inr rfl | assumption) : PG X (.Name x pos) (gName i) := by
  intro pins s σ H v u Q I r h
  exact wpAny_assign_Name (store_ok I hN hi hx r (fun s' I' => ⟨_, H, I', h⟩) hf)
def gNil : TGs := fun vs σ H Q => vs = [] ∧ Q σ H
def gCons (t : TG) (u : TGs) : TGs := fun vs σ H Q => ∃ v r, vs = v :: r ∧ t v σ H fun σ' H' => u r σ' H' Q
theorem pgs_nil : PGs X [] gNil := by
  intro pins s σ H vs us Q I r h
  obtain ⟨e, h⟩ := h
  subst e
  cases r
  exact assignInOrder_nil ⟨σ, H, I, h⟩
theorem pgs_cons {e : Expr} {es : List Expr} {t : TG} {u : TGs} (h1 : PG X e t) (h2 : PGs X es u)
    (hs : (assignEach (e :: es) X.env).map (·.2) = assign e X.env :: (assignEach es X.env).map (·.2) := by rfl) : PGs X (e :: es) (gCons t u) := by
  intro pins s σ H vs us Q I r h
  obtain ⟨v, vr, e1, h⟩ := h
  subst e1
  cases r with
  | cons r rr =>
    rw [hs]
    refine assignInOrder_cons (thn (h1 pins s σ H _ _ _ I r h) fun _ s1 ⟨σ1, H1, I1, q1⟩ => ?_)
    exact h2 pins s1 σ1 H1 _ _ Q I1 rr q1
def gTup (K : PySem.W.Frag) (n : Nat) (t : TGs) : TG := fun v σ H Q => ∃ a xs, v = .ref a ∧ SqT K H a xs ∧ xs.length = n ∧ t xs σ H Q
theorem pg_tup {es : List Expr} {k : Nat} {t : TGs} {n : Nat} (hc : X.calm = true) (h : PGs X es t)
    (hn : (assignEach es X.env).length = n := by rfl) (hst : (assignEach es X.env).findIdx? (·.1) = none := by rfl) : PG X (.Tuple es k pos) (gTup X.K n t) := by
  intro pins s σ H v u Q I r hw
  obtain ⟨a, xs, e1, hq, hl, hw⟩ := hw
  subst e1
  cases r
  obtain ⟨its, rv, ht, hz⟩ := I.tuple hq
  refine assign_Tuple_tuple (I.ok.hd hc) ht (by simp [hn, ← hl, rv.length]) hst fun h' hx => ?_
  have I1 : Inv X pins σ H { s with heap := h' } := I.kept (t' := s.toks) fun b o e => hx b o (Nat.ne_of_lt (Heap.lt_size e)) e
  exact h pins _ σ H xs _ Q I1 (by simpa using rv) hw
def gSub (to ti : TE) (t : TSet) : TG := fun v σ H Q => to σ H fun o H1 => ti σ H1 fun i H2 => t o i v H2 fun H3 => Q σ H3
theorem pg_sub {o i : Expr} {to ti : TE} {t : TSet} (ho : PE X o to) (hi : PE X i ti) (hs : PSet X t)
    (ha : ∀ v, assign (.Subscript o i pos) X.env v = (do
      let ov ← holding [v] (eval o X.env)
      let iv ← holding [v, ov] (eval i X.env)
      standAt pos
      holding [v, ov, iv] (setItem ov iv v)
      release [v, ov, iv] []) := by intro _; rfl) : PG X (.Subscript o i pos) (gSub to ti t) := by
  intro pins s σ H v u Q I r h
  rw [ha]
  refine wpAny_bind (wpAny_holding (thn (ho pins s σ H _ I h) fun ov s1 ⟨x, H1, I1, r1, q1⟩ => ?_))
  refine wpAny_bind (wpAny_holding (thn (hi pins s1 σ H1 _ I1 q1) fun iv s2 ⟨y, H2, I2, r2, q2⟩ => ?_))
  refine wpAny_bind (wpAny_standAt (wpAny_bind (wpAny_holding (thn (hs pins s2 σ H2 x y v ov iv u _ I2 r1 r2 r q2) fun _ s3 ⟨H3, I3, q3⟩ => ?_))))
  exact wpAny_release ⟨σ, H3, I3, q3⟩
def tAsg (te : TE) (g : TG) : TS := fun D σ H => te σ H fun x H1 => g x σ H1 D.nx
theorem ps_asg {tg e : Expr} {te : TE} {g : TG} (he : PE X e te) (hg : PG X tg g) (hs : swapsWithSole [tg] e pos.line X.env = pure false := by rfl) (hw : swappedStores [tg] e X.env = pure none := by rfl)
    (h1 : (assignEach [tg] X.env).map (·.2) = [assign tg X.env] := by rfl) : PS X (.Assign [tg] e pos) (tAsg te g) := by
  intro pins s σ H D I h
  refine wpAny_Assign_stores (thn (he pins s σ H _ I h) fun v s1 ⟨x, H1, I1, r1, q1⟩ => ?_) hs hw
  rw [h1]
  exact thn (hg pins s1 σ H1 x v _ I1 r1 q1) fun _ s2 q => q
theorem ps_set {i : Nat} {x : Str} {e : Expr} {te : TE} {pos' : Pos} (hN : X.N.Nodup) (hi : X.N[i]? = some x) (hx : Loc X.env.scope x) (he : PE X e te) (hs : swapsWith e (some (.Name x pos')) pos.line X.env = pure false := by rfl) (hf : X.fn x = true ∨ X.env.scope.names.lookup x = some .local := by first | exact .inl rfl | exact .inr rfl | assumption) :
    PS X (.Assign [.Name x pos'] e pos) (tAsg te (gName i)) := by
  intro pins s σ H D I h
  refine wpAny_Assign_Name (thn (he pins s σ H _ I h) fun v s1 ⟨y, H1, I1, r1, q1⟩ => ?_) hs
  exact store_ok I1 hN hi hx r1 (fun s2 I2 => ⟨_, H1, I2, q1⟩) hf
end
section
variable {X : Cx} {pos : Pos}
end
structure It where
  go : Nat → Hp → Prop
  yld : Nat → Hp → V → Hp → Prop
  stop : Nat → Hp → Prop
def FpOk (X : Cx) (pins : List (Addr × Obj)) (H : Hp) (b : Addr) : Prop :=
  H b = none ∧ b ≠ X.env.locals ∧ b ∉ X.fs ∧ (b ∈ X.ex ∨ X.s₀.heap.objs.size ≤ b) ∧ (∀ x c, X.env.cells.lookup x = some c → c ≠ b) ∧ ∀ p ∈ X.pn ++ pins, p.1 ≠ b
theorem Inv.fpOk {X : Cx} {pins : List (Addr × Obj)} {σ : St} {H H' : Hp} {s : Shared} {b : Addr} (I : Inv X pins σ H s) (hb : s.heap.objs.size ≤ b) (hn : H' b = none) : FpOk X pins H' b := by
  refine ⟨hn, Nat.ne_of_gt (Nat.lt_of_lt_of_le I.lt hb), I.nofs hb, .inr (Nat.le_trans I.sz hb), fun x c e z => ?_, fun p hp z => ?_⟩
  · obtain ⟨v, q⟩ := I.cell x c e
    exact absurd (Nat.lt_of_lt_of_le q.lt (by rw [z]; exact hb)) (Nat.lt_irrefl _)
  · exact absurd (Nat.lt_of_lt_of_le (Heap.lt_size (I.pin p hp).1) (by rw [z]; exact hb)) (Nat.lt_irrefl _)
structure Turn (P : Program) (w : World) (K : PySem.W.Frag) (tg : Expr) (J : It) (fp : List Addr) (it : Addr) (tn : Nat → Heap → Prop) : Prop where
  mem : it ∈ fp
  obj : ∀ i h, tn i h → ∀ b ∈ fp, ∃ o, h.get? b = some o ∧ ∀ v, o.data ≠ .cell v
  keep : ∀ i h h', tn i h → (∀ b ∈ fp, ∀ o, h.get? b = some o → h'.get? b = some o) → tn i h'
  item : ∀ (X : Cx), X.prog = P → X.w = w → X.K = K → X.calm = true → ∀ (i : Nat) (pins : List (Addr × Obj)) (s : Shared) (σ : St) (H : Hp) (E : Value → Shared → Prop), Inv X pins σ H s → (∀ b ∈ fp, FpOk X pins H b) → tn i s.heap → J.go i H →
    wpAny (model P w) X.A (pyNext (.ref it)) (fun r s1 => ∃ u, r = some u ∧
      wpAny (model P w) X.A (letOwnedTupleGo tg (.ref it) u) (fun _ s2 => ∃ x H', Inv X pins σ H' s2 ∧ RelV x u ∧ J.yld i H x H' ∧ tn (i + 1) s2.heap ∧ ∀ b ∈ fp, H' b = none) E s1) E s
  done : ∀ (X : Cx), X.prog = P → X.w = w → X.K = K → X.calm = true → ∀ (i : Nat) (pins : List (Addr × Obj)) (s : Shared) (σ : St) (H : Hp) (E : Value → Shared → Prop), Inv X pins σ H s → (∀ b ∈ fp, FpOk X pins H b) → tn i s.heap → J.stop i H →
    wpAny (model P w) X.A (pyNext (.ref it)) (fun r s1 => r = none ∧ Inv X pins σ H s1) E s
  self : ∀ (A : Around) (i : Nat) (s : Shared) (Q : Value → Shared → Prop) (E : Value → Shared → Prop), tn i s.heap → Q (.ref it) s → wpAny (model P w) A (pyIter (.ref it)) Q E s
abbrev TI := St → Hp → (It → Hp → Prop) → Prop
def PIE (X : Cx) (pins : List (Addr × Obj)) (σ : St) (tg : Expr) (R : It → Hp → Prop) (itv : Value) (s2 : Shared) : Prop :=
  ∃ (it : Addr) (fp : List Addr) (tn : Nat → Heap → Prop) (J : It) (H' : Hp), itv = .ref it ∧ Inv X pins σ H' s2 ∧ Turn X.prog X.w X.K tg J fp it tn ∧ tn 0 s2.heap ∧ (∀ b ∈ fp, FpOk X pins H' b) ∧ R J H'
def PI (X : Cx) (tg iter : Expr) (wi : TI) : Prop :=
  ∀ (pins : List (Addr × Obj)) (s : Shared) (σ : St) (H : Hp) (R : It → Hp → Prop), Inv X pins σ H s → wi σ H R →
    wpAny (model X.prog X.w) X.A (eval iter X.env) (fun v s1 => wpAny (model X.prog X.w) X.A (pyIter v) (PIE X pins σ tg R) X.xe s1) X.xe s
theorem go_of {M : Model} {A : Around} {E : Value → Shared → Prop} {s : Shared} {tg : Expr} {it : Addr} {u : Value} {o : Obj} {n : String} {vs : Array Value} {Q : Unit → Shared → Prop} (ho : s.heap.get? it = some o) (hc : o.cls = .type n) (hd : o.data = .fields vs)
    (hn : ["enumerate", "zip", "dict_itemiterator", "dict_reverseitemiterator", "odict_iterator", "itertools.zip_longest", "itertools.pairwise"].contains n = false) (hQ : Q () s) : wpAny M A (letOwnedTupleGo tg (.ref it) u) Q E s := by
  unfold letOwnedTupleGo
  cases tg <;> first
    | exact wpAny_pure hQ
    | (cases u <;> first
        | exact wpAny_pure hQ
        | (refine wpAny_bind (wpAny_load ho ?_)
           rw [hc, hd]
           show wpAny M A (if (["enumerate", "zip", "dict_itemiterator", "dict_reverseitemiterator", "odict_iterator", "itertools.zip_longest", "itertools.pairwise"].contains n && vs[0]? == some (rawInt _)) = true then _ else _) Q E s
           rw [if_neg (by intro h; rw [hn, Bool.false_and] at h; cases h)]
           exact wpAny_pure hQ))
def Itl (K : PySem.W.Frag) (a : Addr) : It :=
  ⟨fun i H => ∃ xs x, SqL K H a xs ∧ xs[i]? = some x, fun i H x H' => H' = H ∧ ∀ xs, SqL K H a xs → xs[i]? = some x, fun i H => ∃ xs, SqL K H a xs ∧ xs.length ≤ i⟩
def Itt (K : PySem.W.Frag) (a : Addr) : It :=
  ⟨fun i H => ∃ xs x, SqT K H a xs ∧ xs[i]? = some x, fun i H x H' => H' = H ∧ ∀ xs, SqT K H a xs → xs[i]? = some x, fun i H => ∃ xs, SqT K H a xs ∧ xs.length ≤ i⟩
def Itr (lo : Int) (n : Nat) : It := ⟨fun i _ => i < n, fun i H x H' => H' = H ∧ x = .int (lo + i), fun i _ => n ≤ i⟩
theorem turn_list {P : Program} {w : World} {K : PySem.W.Frag} {tg : Expr} (a it : Addr) : Turn P w K tg (Itl K a) [it] it (fun i h => h.IsListIter it a i) where
  mem := by simp
  obj := fun i h st b hb => by
    have e : b = it := by simpa using hb
    subst e
    obtain ⟨o, e, c, d⟩ := st
    exact ⟨o, e, fun v z => by rw [d] at z; cases z⟩
  keep := fun i h h' st k => st.at fun o e => k it (by simp) o e
  item := by
    intro X hP hw hK hc i pins s σ H E I hf st hg
    subst hP hw hK
    obtain ⟨xs, x, hq, hx⟩ := hg
    obtain ⟨its, rv, p, hz⟩ := I.list hq
    obtain ⟨u, hu, ru⟩ := rv.get hx
    obtain ⟨f0, f1, f2, f3, f4, f5⟩ := hf it (by simp)
    refine wpAny_pyNext_list_item st p.isList (x := u) (by simpa using hu) fun h' st' sb => ?_
    have I1 : Inv X pins σ H { s with heap := h' } := I.turned (t' := s.toks) (fun b o hb e => (sb.2 b hb).trans e) f0 f1 f3 f4 f5
    obtain ⟨o, e, c, d⟩ := id st'
    exact ⟨u, rfl, go_of (s := { s with heap := h' }) e c d (by decide) ⟨x, H, I1, ru, ⟨rfl, fun ys hy => by rw [I.list_inj hy hq]; exact hx⟩, st', fun b hb => (hf b hb).1⟩⟩
  done := by
    intro X hP hw hK hc i pins s σ H E I hf st hg
    subst hP hw hK
    obtain ⟨xs, hq, hx⟩ := hg
    obtain ⟨its, rv, p, hz⟩ := I.list hq
    obtain ⟨f0, f1, f2, f3, f4, f5⟩ := hf it (by simp)
    have hl := rv.length
    exact wpAny_pyNext_list_end (I.ok.hd hc) st p.isList (by simp; omega) fun h' eb => ⟨rfl, I.turned (t' := s.toks) (fun b o hb e => eb b o hb e) f0 f1 f3 f4 f5⟩
  self := fun _ _ _ _ _ st h => wpAny_pyIter_listiter st h
theorem turn_tuple {P : Program} {w : World} {K : PySem.W.Frag} {tg : Expr} (a it : Addr) : Turn P w K tg (Itt K a) [it] it (fun i h => h.IsTupleIter it a i) where
  mem := by simp
  obj := fun i h st b hb => by
    have e : b = it := by simpa using hb
    subst e
    obtain ⟨o, e, c, d⟩ := st
    exact ⟨o, e, fun v z => by rw [d] at z; cases z⟩
  keep := fun i h h' st k => st.at fun o e => k it (by simp) o e
  item := by
    intro X hP hw hK hc i pins s σ H E I hf st hg
    subst hP hw hK
    obtain ⟨xs, x, hq, hx⟩ := hg
    obtain ⟨its, rv, p, hz⟩ := I.tuple hq
    obtain ⟨u, hu, ru⟩ := rv.get hx
    obtain ⟨f0, f1, f2, f3, f4, f5⟩ := hf it (by simp)
    refine wpAny_pyNext_tuple_item st (show s.heap.IsTuple a its.toArray from p) (x := u) (by simpa using hu) fun h' st' sb => ?_
    have I1 : Inv X pins σ H { s with heap := h' } := I.turned (t' := s.toks) (fun b o hb e => (sb.2 b hb).trans e) f0 f1 f3 f4 f5
    obtain ⟨o, e, c, d⟩ := id st'
    exact ⟨u, rfl, go_of (s := { s with heap := h' }) e c d (by decide) ⟨x, H, I1, ru, ⟨rfl, fun ys hy => by rw [I.tuple_inj hy hq]; exact hx⟩, st', fun b hb => (hf b hb).1⟩⟩
  done := by
    intro X hP hw hK hc i pins s σ H E I hf st hg
    subst hP hw hK
    obtain ⟨xs, hq, hx⟩ := hg
    obtain ⟨its, rv, p, hz⟩ := I.tuple hq
    obtain ⟨f0, f1, f2, f3, f4, f5⟩ := hf it (by simp)
    have hl := rv.length
    exact wpAny_pyNext_tuple_end (I.ok.hd hc) st (show s.heap.IsTuple a its.toArray from p) (by simp; omega) fun h' eb => ⟨rfl, I.turned (t' := s.toks) (fun b o hb e => eb b o hb e) f0 f1 f3 f4 f5⟩
  self := fun _ _ _ _ _ st h => wpAny_pyIter_tupleiter st h
theorem turn_range {P : Program} {w : World} {K : PySem.W.Frag} {tg : Expr} (it : Addr) (lo : Int) (n : Nat) : Turn P w K tg (Itr lo n) [it] it (fun i h => IsRangeIter h it (lo + (i : Nat) * 1) ((n : Int) - (i : Nat)) 1) where
  mem := by simp
  obj := fun i h st b hb => by
    have e : b = it := by simpa using hb
    subst e
    exact ⟨_, st, fun v z => by
      have z' : Data.fields _ = Data.cell v := z
      cases z'⟩
  keep := fun i h h' st k => k it (by simp) _ st
  item := by
    intro X hP hw hK hc i pins s σ H E I hf st hg
    subst hP hw hK
    obtain ⟨f0, f1, f2, f3, f4, f5⟩ := hf it (by simp)
    have W := Walks.range (prog := X.prog) (w := X.w) (I.ok.hd hc) it lo 1 n
    refine W.item i s _ _ hg st fun v h' tk hv st' kk => ?_
    obtain ⟨t, rfl⟩ := hv
    have I1 : Inv X pins σ H { s with heap := h', toks := tk } := I.turned (fun b o hb e => kk b o (by simpa using hb) e) f0 f1 f3 f4 f5
    refine ⟨_, rfl, go_of (s := { s with heap := h', toks := tk }) (n := "range_iterator") st' rfl rfl (by decide) ⟨.int (lo + i), H, I1, ⟨t, ?_⟩, ⟨rfl, rfl⟩, st', fun b hb => (hf b hb).1⟩⟩
    rw [Int.mul_one]
  done := by
    intro X hP hw hK hc i pins s σ H E I hf st hg
    subst hP hw hK
    obtain ⟨f0, f1, f2, f3, f4, f5⟩ := hf it (by simp)
    exact wpAny_pyNext_range_end (I.ok.hd hc) st (by have : n ≤ i := hg; omega) fun h' eb => ⟨rfl, I.turned (t' := s.toks) (fun b o hb e => eb b o hb e) f0 f1 f3 f4 f5⟩
  self := fun _ _ _ _ _ st h => wpAny_pyIter_rangeiter st h
end L2
namespace L2
open PySem PySem.Spec PyProof.Rows
section
variable {X : Cx} {tg : Expr}
def iList (K : PySem.W.Frag) (tl : TE) : TI := fun σ H R => tl σ H fun x H1 => ∃ a, x = .ref a ∧ (∃ xs, SqL K H1 a xs) ∧ R (Itl K a) H1
def iTup (K : PySem.W.Frag) (tl : TE) : TI := fun σ H R => tl σ H fun x H1 => ∃ a, x = .ref a ∧ (∃ xs, SqT K H1 a xs) ∧ R (Itt K a) H1
theorem pi_list {l : Expr} {tl : TE} (hl : PE X l tl) : PI X tg l (iList X.K tl) := by
  intro pins s σ H R I h
  refine thn (hl pins s σ H _ I h) fun v s1 ⟨x, H1, I1, r1, q1⟩ => ?_
  obtain ⟨a, e, ⟨xs, hq⟩, q⟩ := q1
  subst e
  cases r1
  obtain ⟨its, rv, p, hz⟩ := I1.list hq
  refine wpAny_pyIter_list p.isList ?_
  refine ⟨s1.heap.objs.size, [s1.heap.objs.size], _, _, H1, rfl, I1.kept (t' := s1.toks) fun b o e => Heap.get?_push_of_some _ e, turn_list a _, ⟨_, Heap.get?_push_size _ rfl, rfl, rfl⟩, fun b hb => ?_, q⟩
  have e : b = s1.heap.objs.size := by simpa using hb
  subst e
  exact I1.fpOk (Nat.le_refl _) (I1.hok.fresh (Nat.le_refl _))
theorem pi_tup {l : Expr} {tl : TE} (hl : PE X l tl) : PI X tg l (iTup X.K tl) := by
  intro pins s σ H R I h
  refine thn (hl pins s σ H _ I h) fun v s1 ⟨x, H1, I1, r1, q1⟩ => ?_
  obtain ⟨a, e, ⟨xs, hq⟩, q⟩ := q1
  subst e
  cases r1
  obtain ⟨its, rv, p, hz⟩ := I1.tuple hq
  refine wpAny_pyIter_tuple (show s1.heap.IsTuple a its.toArray from p) ?_
  refine ⟨s1.heap.objs.size, [s1.heap.objs.size], _, _, H1, rfl, I1.kept (t' := s1.toks) fun b o e => Heap.get?_push_of_some _ e, turn_tuple a _, ⟨_, Heap.get?_push_size _ rfl, rfl, rfl⟩, fun b hb => ?_, q⟩
  have e : b = s1.heap.objs.size := by simpa using hb
  subst e
  exact I1.fpOk (Nat.le_refl _) (I1.hok.fresh (Nat.le_refl _))
theorem range_it {pins : List (Addr × Obj)} {σ : St} {H : Hp} {s : Shared} {R : It → Hp → Prop} {E : Value → Shared → Prop} {lo hi : Int} {t u v : Tok} {tk : Nat} (I : Inv X pins σ H s) (h1 : -(2 ^ 62) ≤ lo) (h2 : lo < 2 ^ 62) (h3 : -(2 ^ 62) ≤ hi) (h4 : hi < 2 ^ 62)
    (q : R (Itr lo (hi - lo).toNat) H) : wpAny (model X.prog X.w) X.A (pyIter (.ref s.heap.objs.size)) (PIE X pins σ tg R) E { s with heap := s.heap.push { cls := .type "range", data := .fields #[.int lo t, .int hi u, .int 1 v] }, toks := tk } := by
  refine wpAny_pyIter_range (IsRange.new ..) (small_one h1 h2 h3 h4) ?_
  have I1 : Inv X pins σ H { s with heap := s.heap.push { cls := .type "range", data := .fields #[.int lo t, .int hi u, .int 1 v] }, toks := tk } := I.kept fun b o e => Heap.get?_push_of_some _ e
  refine ⟨(s.heap.push { cls := .type "range", data := .fields #[.int lo t, .int hi u, .int 1 v] }).objs.size, [(s.heap.push { cls := .type "range", data := .fields #[.int lo t, .int hi u, .int 1 v] }).objs.size], _, _, H, rfl,
    I1.kept (t' := tk) fun b o e => Heap.get?_push_of_some _ e, turn_range _ lo (hi - lo).toNat, ?_, fun b hb => ?_, q⟩
  · have e1 : lo + ((0 : Nat) : Int) * 1 = lo := by simp
    have e2 : (((hi - lo).toNat : Nat) : Int) - ((0 : Nat) : Int) = Builtin.Range.rangeSize lo hi 1 := by rw [rangeSize_one]; split <;> omega
    show IsRangeIter _ _ (lo + ((0 : Nat) : Int) * 1) ((((hi - lo).toNat : Nat) : Int) - ((0 : Nat) : Int)) 1
    rw [e1, e2]
    exact Heap.get?_push_size _ rfl
  · have e : b = (s.heap.push { cls := .type "range", data := .fields #[.int lo t, .int hi u, .int 1 v] }).objs.size := by simpa using hb
    subst e
    exact I1.fpOk (Nat.le_refl _) (I1.hok.fresh (Nat.le_refl _))
def iRng1 (ta : TA) : TI := fun σ H R => ta σ H fun vs H1 => ∃ j : Int, vs = [.int j] ∧ -(2 ^ 62) ≤ j ∧ j < 2 ^ 62 ∧ R (Itr 0 j.toNat) H1
def iRng2 (ta : TA) : TI := fun σ H R => ta σ H fun vs H1 => ∃ i j : Int, vs = [.int i, .int j] ∧ (-(2 ^ 62) ≤ i ∧ i < 2 ^ 62 ∧ -(2 ^ 62) ≤ j ∧ j < 2 ^ 62) ∧ R (Itr i (j - i).toNat) H1
theorem pi_range1 {a : Expr} {ta : TA} {p pos : Pos} (hg : Gl X "range") (hm : X.mg "range" = none) (ha : PA X [a] ta) (hs : starEach [a] X.env = [(false, eval a X.env)] := by rfl) : PI X tg (.Call (.Name "range" p) [a] [] pos) (iRng1 ta) := by
  intro pins s σ H R I h
  refine Call_ (ld_blt I hg hm boot_range (PyProof.Rows.callWith_type1 (thn (ha pos pins s σ H _ I h) fun us s1 ⟨vs, H1, I1, r1, q1⟩ => ?_) hs rfl))
  obtain ⟨j, e, q1, q2, q⟩ := q1
  subst e
  cases r1 with
  | cons r rr =>
    cases rr
    obtain ⟨t, rfl⟩ := r
    exact call_range_1 (range_it I1 (by omega) (by omega) q1 q2 (by simpa using q))
theorem pi_range2 {a b : Expr} {ta : TA} {p pos : Pos} (hg : Gl X "range") (hm : X.mg "range" = none) (ha : PA X [a, b] ta) (hs : starEach [a, b] X.env = [(false, eval a X.env), (false, eval b X.env)] := by rfl) (hs2 : starEach [b] X.env = [(false, eval b X.env)] := by rfl) :
    PI X tg (.Call (.Name "range" p) [a, b] [] pos) (iRng2 ta) := by
  intro pins s σ H R I h
  refine Call_ (ld_blt I hg hm boot_range (PyProof.Rows.callWith_type1 (thn (ha pos pins s σ H _ I h) fun us s1 ⟨vs, H1, I1, r1, q1⟩ => ?_) (by rw [hs, hs2]) (by rw [hs2]; rfl)))
  obtain ⟨i, j, e, ⟨q1, q2, q3, q4⟩, q⟩ := q1
  subst e
  cases r1 with
  | cons r rr =>
    cases rr with
    | cons r' rr =>
      cases rr
      obtain ⟨t, rfl⟩ := r
      obtain ⟨t', rfl⟩ := r'
      exact call_range_2 (range_it I1 q1 q2 q3 q4 q)
def tFor (wi : TI) (g : TG) (tb : TS) : TS := fun D σ H => wi σ H fun J H1 => ∃ W : Nat → Nat → St → Hp → Prop, (∃ m, W 0 m σ H1) ∧ ∀ i m σ H, W i m σ H →
  (J.stop i H ∧ D.nx σ H) ∨ (J.go i H ∧ ∃ N : St → Hp → Prop, (∀ σ' H', N σ' H' → ∃ m', m' < m ∧ W (i + 1) m' σ' H') ∧ ∀ x H', J.yld i H x H' → g x σ H' fun σ2 H2 => tb { D with nx := N, ct := N, bk := D.nx } σ2 H2)
def pinsAt (fp : List Addr) (h : Heap) : List (Addr × Obj) := fp.filterMap fun b => (h.get? b).map fun o => (b, o)
theorem mem_pinsAt {fp : List Addr} {h : Heap} {b : Addr} {o : Obj} (hb : b ∈ fp) (e : h.get? b = some o) : (b, o) ∈ pinsAt fp h := List.mem_filterMap.mpr ⟨b, hb, by rw [e]; rfl⟩
theorem of_pinsAt {fp : List Addr} {h : Heap} {p : Addr × Obj} (hp : p ∈ pinsAt fp h) : p.1 ∈ fp ∧ h.get? p.1 = some p.2 := by
  obtain ⟨b, hb, e⟩ := List.mem_filterMap.mp hp
  cases q : h.get? b with
  | none => rw [q] at e; cases e
  | some o =>
    rw [q] at e
    have e' : (b, o) = p := Option.some.inj e
    subst e'
    exact ⟨hb, q⟩
theorem Inv.pinned {pins : List (Addr × Obj)} {σ : St} {H : Hp} {s : Shared} {fp : List Addr} (I : Inv X pins σ H s) (hf : ∀ b ∈ fp, FpOk X pins H b) (ho : ∀ b ∈ fp, ∃ o, s.heap.get? b = some o ∧ ∀ v, o.data ≠ .cell v) : Inv X (pins ++ pinsAt fp s.heap) σ H s :=
  I.pins_of fun p hp => (List.mem_append.mp hp).elim (fun z => I.pin p (List.mem_append_right _ z)) fun z => by
    obtain ⟨hb, e⟩ := of_pinsAt z
    obtain ⟨f0, f1, f2, _⟩ := hf p.1 hb
    obtain ⟨o, e', d⟩ := ho p.1 hb
    rw [e] at e'; cases e'
    exact ⟨e, f0, f1, f2, d⟩
theorem Inv.unpinned {pins pl : List (Addr × Obj)} {σ : St} {H : Hp} {s : Shared} (I : Inv X (pins ++ pl) σ H s) : Inv X pins σ H s := I.pins_of fun p hp => I.pin p (List.mem_append_right _ (List.mem_append_left _ hp))
theorem ps_for {iter : Expr} {body : List Stmt} {wi : TI} {g : TG} {tb : TS} {pos : Pos} (hp : PassesOwn (model X.prog X.w) X.A X.env X.xe) (hc : X.calm = true) (hi : PI X tg iter wi) (hg : PG X tg g) (hb : PSs X body tb)
    (hs : ∀ x, foldedSetIterable iter X.env x = pure x := by intro _; rfl) : PS X (.For tg iter body [] pos) (tFor wi g tb) := by
  intro pins s σ H D I h
  refine wpAny_For (thn (hi pins s σ H _ I h) fun v s1 h1 => thn h1 fun itv s2 h2 => ?_) hs
  obtain ⟨it, fp, tn, J, H2, e, I2, T, st2, f2, W, ⟨m0, w0⟩, turn⟩ := h2
  subst e
  have stat : ∀ {H' : Hp}, (∀ b ∈ fp, H' b = none) → ∀ b ∈ fp, FpOk X pins H' b := fun hn b hb => ⟨hn b hb, (f2 b hb).2⟩
  refine codeAny_forLoop_any (fun n s' => ∃ i σ' H', Inv X pins σ' H' s' ∧ tn i s'.heap ∧ (∀ b ∈ fp, H' b = none) ∧ W i n σ' H') ?_ m0 ⟨0, σ, H2, I2, st2, fun b hb => (f2 b hb).1, w0⟩
  rintro n s3 ⟨i, σ3, H3, I3, st3, fr3, w3⟩
  rcases turn i n σ3 H3 w3 with ⟨stop, qn⟩ | ⟨go, N, hN, step⟩
  · refine wpAny_passesOwn hp (thn (T.done X rfl rfl rfl hc i pins s3 σ3 H3 X.xe I3 (stat fr3) st3 stop) fun r s4 ⟨hr, I4⟩ => ?_)
    subst hr
    exact wpAny_execs_nil ⟨σ3, H3, I4, qn⟩
  · refine wpAny_passesOwn hp (thn (T.item X rfl rfl rfl hc i pins s3 σ3 H3 X.xe I3 (stat fr3) st3 go) fun r s4 ⟨u, hr, h4⟩ => ?_)
    subst hr
    refine wpAny_passesOwn hp (thn h4 fun _ s5 ⟨x, H5, I5, r5, y5, st5, fr5⟩ => ?_)
    have I5' := I5.pinned (stat fr5) (T.obj _ _ st5)
    refine wpAny_passesOwn hp (thn (hg _ s5 σ3 H5 x u _ I5' r5 (step x H5 y5)) fun _ s6 ⟨σ6, H6, I6, q6⟩ => ?_)
    refine wpAny_passesOwn hp (thn (hb _ s6 σ6 H6 _ I6 q6) fun f s7 q7 => ?_)
    have again : ∀ {σ7 : St} {H7 : Hp}, Inv X (pins ++ pinsAt fp s5.heap) σ7 H7 s7 → N σ7 H7 → ∃ m, m < n ∧ ∃ i σ' H', Inv X pins σ' H' s7 ∧ tn i s7.heap ∧ (∀ b ∈ fp, H' b = none) ∧ W i m σ' H' := fun {σ7 H7} I7 n7 => by
      obtain ⟨m', hm, w7⟩ := hN σ7 H7 n7
      refine ⟨m', hm, i + 1, σ7, H7, I7.unpinned, T.keep _ _ _ st5 fun b hb o e => (I7.pin (b, o) (List.mem_append_right _ (List.mem_append_right _ (mem_pinsAt hb e)))).1, fun b hb => ?_, w7⟩
      obtain ⟨o, e, d⟩ := T.obj _ _ st5 b hb
      exact (I7.pin (b, o) (List.mem_append_right _ (List.mem_append_right _ (mem_pinsAt hb e)))).2.1
    cases f with
    | next => obtain ⟨σ7, H7, I7, n7⟩ := q7; exact again I7 n7
    | cont => obtain ⟨σ7, H7, I7, n7⟩ := q7; exact again I7 n7
    | brk => obtain ⟨σ7, H7, I7, q7⟩ := q7; exact ⟨σ7, H7, I7.unpinned, q7⟩
    | ret v => obtain ⟨x7, σ7, H7, I7, r7, q7⟩ := q7; exact ⟨x7, σ7, H7, I7.unpinned, r7, q7⟩
end
theorem for_list {K : PySem.W.Frag} {a : Addr} {xs : List V} {g : TG} {tb : TS} {D : Ends} {σ : St} {H : Hp} (Pv : Nat → St → Hp → Prop) (h0 : Pv 0 σ H) (hl : ∀ i σ H, i ≤ xs.length → Pv i σ H → SqL K H a xs)
    (hs : ∀ i x σ H, xs[i]? = some x → Pv i σ H → g x σ H fun σ2 H2 => tb { D with nx := Pv (i + 1), ct := Pv (i + 1), bk := D.nx } σ2 H2) (hd : ∀ σ H, Pv xs.length σ H → D.nx σ H) :
    ∃ W : Nat → Nat → St → Hp → Prop, (∃ m, W 0 m σ H) ∧ ∀ i m σ H, W i m σ H →
      ((Itl K a).stop i H ∧ D.nx σ H) ∨ ((Itl K a).go i H ∧ ∃ N : St → Hp → Prop, (∀ σ' H', N σ' H' → ∃ m', m' < m ∧ W (i + 1) m' σ' H') ∧ ∀ x H', (Itl K a).yld i H x H' → g x σ H' fun σ2 H2 => tb { D with nx := N, ct := N, bk := D.nx } σ2 H2) := by
  refine ⟨fun i m σ H => m = xs.length - i ∧ i ≤ xs.length ∧ Pv i σ H, ⟨xs.length, by simp, Nat.zero_le _, h0⟩, ?_⟩
  rintro i m σ H ⟨rfl, hi, p⟩
  have q := hl i σ H hi p
  by_cases hlt : i < xs.length
  · refine .inr ⟨⟨xs, xs[i], q, by simp [hlt]⟩, Pv (i + 1), fun σ' H' p' => ⟨xs.length - (i + 1), by omega, rfl, hlt, p'⟩, fun x H' y => ?_⟩
    obtain ⟨e, y⟩ := y
    subst e
    exact hs i x σ _ (y xs q) p
  · have e : i = xs.length := by omega
    subst e
    exact .inl ⟨⟨xs, q, Nat.le_refl _⟩, hd σ H p⟩
theorem for_tup {K : PySem.W.Frag} {a : Addr} {xs : List V} {g : TG} {tb : TS} {D : Ends} {σ : St} {H : Hp} (Pv : Nat → St → Hp → Prop) (h0 : Pv 0 σ H) (hl : ∀ i σ H, i ≤ xs.length → Pv i σ H → SqT K H a xs)
    (hs : ∀ i x σ H, xs[i]? = some x → Pv i σ H → g x σ H fun σ2 H2 => tb { D with nx := Pv (i + 1), ct := Pv (i + 1), bk := D.nx } σ2 H2) (hd : ∀ σ H, Pv xs.length σ H → D.nx σ H) :
    ∃ W : Nat → Nat → St → Hp → Prop, (∃ m, W 0 m σ H) ∧ ∀ i m σ H, W i m σ H →
      ((Itt K a).stop i H ∧ D.nx σ H) ∨ ((Itt K a).go i H ∧ ∃ N : St → Hp → Prop, (∀ σ' H', N σ' H' → ∃ m', m' < m ∧ W (i + 1) m' σ' H') ∧ ∀ x H', (Itt K a).yld i H x H' → g x σ H' fun σ2 H2 => tb { D with nx := N, ct := N, bk := D.nx } σ2 H2) := by
  refine ⟨fun i m σ H => m = xs.length - i ∧ i ≤ xs.length ∧ Pv i σ H, ⟨xs.length, by simp, Nat.zero_le _, h0⟩, ?_⟩
  rintro i m σ H ⟨rfl, hi, p⟩
  have q := hl i σ H hi p
  by_cases hlt : i < xs.length
  · refine .inr ⟨⟨xs, xs[i], q, by simp [hlt]⟩, Pv (i + 1), fun σ' H' p' => ⟨xs.length - (i + 1), by omega, rfl, hlt, p'⟩, fun x H' y => ?_⟩
    obtain ⟨e, y⟩ := y
    subst e
    exact hs i x σ _ (y xs q) p
  · have e : i = xs.length := by omega
    subst e
    exact .inl ⟨⟨xs, q, Nat.le_refl _⟩, hd σ H p⟩
end L2
namespace L2
open PySem PySem.Spec PyProof.Rows
abbrev R2 := V → V → Hp → VK → Prop
def OpR (X : Cx) (f : Value → Value → Sem Value) (r : R2) : Prop :=
  ∀ (pins : List (Addr × Obj)) (s : Shared) (σ : St) (H : Hp) (x y : V) (v u : Value) (Q : VK), Inv X pins σ H s → RelV x v → RelV y u → r x y H Q →
    wpAny (model X.prog X.w) X.A (f v u) (EP X pins σ Q) X.xe s
def UnR (X : Cx) (f : Value → Sem Value) (r : V → Hp → VK → Prop) : Prop :=
  ∀ (pins : List (Addr × Obj)) (s : Shared) (σ : St) (H : Hp) (x : V) (v : Value) (Q : VK), Inv X pins σ H s → RelV x v → r x H Q →
    wpAny (model X.prog X.w) X.A (f v) (EP X pins σ Q) X.xe s
def CallR (X : Cx) (f : Value) (r : List V → Hp → VK → Prop) : Prop :=
  ∀ (pins : List (Addr × Obj)) (s : Shared) (σ : St) (H : Hp) (xs : List V) (us : List Value) (Q : VK), Inv X pins σ H s → Vals xs us → r xs H Q →
    wpAny (model X.prog X.w) X.A (call f us) (EP X pins σ Q) X.xe s
def TruR (X : Cx) (r : V → Hp → (Bool → Hp → Prop) → Prop) : Prop :=
  ∀ (pins : List (Addr × Obj)) (s : Shared) (σ : St) (H : Hp) (x : V) (v : Value) (Q : Bool → Hp → Prop), Inv X pins σ H s → RelV x v → r x H Q →
    wpAny (model X.prog X.w) X.A (truthy v) (TP X pins σ Q) X.xe s
def tOp (r : R2) (ta tb : TE) : TE := fun σ H Q => ta σ H fun x H1 => tb σ H1 fun y H2 => r x y H2 Q
def tUn (r : V → Hp → VK → Prop) (ta : TE) : TE := fun σ H Q => ta σ H fun x H1 => r x H1 Q
def rI (C : Int → Int → Prop) (g : Int → Int → V) : R2 := fun x y H Q => ∃ i j, x = .int i ∧ y = .int j ∧ C i j ∧ Q (g i j) H
def rI0 (g : Int → Int → V) : R2 := fun x y H Q => ∃ i j, x = .int i ∧ y = .int j ∧ Q (g i j) H
def rU (g : Int → V) : V → Hp → VK → Prop := fun x H Q => ∃ i, x = .int i ∧ Q (g i) H
section
variable {X : Cx} {a b c : Expr} {ta tb tc : TE} {pos : Pos}
theorem binT (ha : PE X a ta) (hb : PE X b tb) {pins : List (Addr × Obj)} {s : Shared} {σ : St} {H : Hp} {R : V → V → Hp → Prop} (I : Inv X pins σ H s)
    (h : ta σ H fun x H1 => tb σ H1 fun y H2 => R x y H2) {Q : Value → Shared → Prop} {f : Value → Value → Sem Value}
    (hf : ∀ v u s2 x y H2, Inv X pins σ H2 s2 → RelV x v → RelV y u → R x y H2 → wpAny (model X.prog X.w) X.A (f v u) Q X.xe s2) :
    wpAny (model X.prog X.w) X.A (eval a X.env) (fun v s₁ => wpAny (model X.prog X.w) X.A (eval b X.env) (fun u s₂ => wpAny (model X.prog X.w) X.A (f v u) Q X.xe s₂) X.xe s₁) X.xe s := by
  refine thn (ha pins s σ H _ I h) fun v s1 ⟨x, H1, I1, r1, q1⟩ => ?_
  refine thn (hb pins s1 σ H1 _ I1 q1) fun u s2 ⟨y, H2, I2, r2, q2⟩ => ?_
  exact hf v u s2 x y H2 I2 r1 r2 q2
theorem pe_op {op : Operator} {r : R2} (ho : OpR X (binaryOp op) r) (ha : PE X a ta) (hb : PE X b tb) : PE X (.BinOp a op b pos) (tOp r ta tb) := by
  intro pins s σ H Q I h
  exact wpAny_BinOp (binT ha hb I h fun v u s2 x y H2 I2 rx ry q => ho pins s2 σ H2 x y v u Q I2 rx ry q)
theorem pe_un {op : UnaryOp} {r : V → Hp → VK → Prop} (ho : UnR X (unaryOp op) r) (ha : PE X a ta) : PE X (.UnaryOp op a pos) (tUn r ta) := by
  intro pins s σ H Q I h
  exact UnaryOp_ (thn (ha pins s σ H _ I h) fun v s1 ⟨x, H1, I1, r1, q1⟩ => ho pins s1 σ H1 x v Q I1 r1 q1)
theorem opI {f : Value → Value → Sem Value} {C : Int → Int → Prop} {g : Int → Int → Int}
    (rule : ∀ (i j : Int) (t u : Tok) (s : Shared) (Q : Value → Shared → Prop) (E : Value → Shared → Prop), C i j → Q (.int (g i j) s.toks) { s with toks := s.toks + 1 } → wpAny (model X.prog X.w) X.A (f (.int i t) (.int j u)) Q E s) :
    OpR X f (rI C fun i j => .int (g i j)) := by
  intro pins s σ H x y v u Q I rx ry h
  obtain ⟨i, j, rfl, rfl, hc, q⟩ := h
  obtain ⟨t, rfl⟩ := rx
  obtain ⟨t', rfl⟩ := ry
  exact rule i j t t' s _ _ hc ⟨.int (g i j), H, I.tok _, ⟨_, rfl⟩, q⟩
theorem opI0 {f : Value → Value → Sem Value} {g : Int → Int → Int}
    (rule : ∀ (i j : Int) (t u : Tok) (s : Shared) (Q : Value → Shared → Prop) (E : Value → Shared → Prop), Q (.int (g i j) s.toks) { s with toks := s.toks + 1 } → wpAny (model X.prog X.w) X.A (f (.int i t) (.int j u)) Q E s) :
    OpR X f (rI0 fun i j => .int (g i j)) := by
  intro pins s σ H x y v u Q I rx ry h
  obtain ⟨i, j, rfl, rfl, q⟩ := h
  obtain ⟨t, rfl⟩ := rx
  obtain ⟨t', rfl⟩ := ry
  exact rule i j t t' s _ _ ⟨.int (g i j), H, I.tok _, ⟨_, rfl⟩, q⟩
theorem opB0 {f : Value → Value → Sem Value} {g : Int → Int → Bool}
    (rule : ∀ (i j : Int) (t u : Tok) (s : Shared) (Q : Value → Shared → Prop) (E : Value → Shared → Prop), Q (.bool (g i j)) s → wpAny (model X.prog X.w) X.A (f (.int i t) (.int j u)) Q E s) :
    OpR X f (rI0 fun i j => .bl (g i j)) := by
  intro pins s σ H x y v u Q I rx ry h
  obtain ⟨i, j, rfl, rfl, q⟩ := h
  obtain ⟨t, rfl⟩ := rx
  obtain ⟨t', rfl⟩ := ry
  exact rule i j t t' s _ _ ⟨.bl (g i j), H, I, rfl, q⟩
def CDiv (i j : Int) : Prop := 0 < j ∧ j < 1073741824
def CMul (i j : Int) : Prop := (-(2 ^ 64) < i ∧ i < 2 ^ 64) ∨ (-(2 ^ 64) < j ∧ j < 2 ^ 64)
theorem CMul.ok {i j : Int} (h : CMul i j) : IntMulOk i j := by
  rcases h with ⟨h1, h2⟩ | ⟨h1, h2⟩
  · exact .of_left (intBits_le_64 h1 h2)
  · exact .of_right (intBits_le_64 h1 h2)
theorem op_add : OpR X (binaryOp .Add) (rI0 fun i j => .int (i + j)) := opI0 fun _ _ _ _ _ _ _ q => add_int q
theorem op_sub : OpR X (binaryOp .Sub) (rI0 fun i j => .int (i - j)) := opI0 fun _ _ _ _ _ _ _ q => sub_int q
theorem op_mul : OpR X (binaryOp .Mult) (rI CMul fun i j => .int (i * j)) := opI fun _ _ _ _ _ _ _ hc q => mul_int q hc.ok
theorem op_fdiv : OpR X (binaryOp .FloorDiv) (rI CDiv fun i j => .int (i / j)) := opI fun i j _ _ _ _ _ hc q => by
  have h1 : (0 : Int) < j := hc.1
  have h2 : j < 1073741824 := hc.2
  exact floordiv_int (by omega) (by rw [Int.fdiv_eq_ediv_of_nonneg i (by omega)]; exact q) (.inl (PyProof.noPylong_small (by omega)))
theorem op_mod : OpR X (binaryOp .Mod) (rI (fun _ j => 0 < j) fun i j => .int (i % j)) := opI fun i j _ _ _ _ _ hc q => by
  have h1 : (0 : Int) < j := hc
  exact mod_int' (by omega) (by rw [Int.fmod_eq_emod_of_nonneg i (by omega)]; exact q)
theorem unI {f : Value → Sem Value} {g : Int → Int}
    (rule : ∀ (i : Int) (t : Tok) (s : Shared) (Q : Value → Shared → Prop) (E : Value → Shared → Prop), Q (.int (g i) s.toks) { s with toks := s.toks + 1 } → wpAny (model X.prog X.w) X.A (f (.int i t)) Q E s) :
    UnR X f (rU fun i => .int (g i)) := by
  intro pins s σ H x v Q I rx h
  obtain ⟨i, rfl, q⟩ := h
  obtain ⟨t, rfl⟩ := rx
  exact rule i t s _ _ ⟨.int (g i), H, I.tok _, ⟨_, rfl⟩, q⟩
theorem un_neg : UnR X (unaryOp .USub) (rU fun i => .int (-i)) := unI fun _ _ _ _ _ q => neg_int q
end
def scal : V → V → Bool
  | .non, .non => true | .non, .int _ => true | .int _, .non => true | .non, .bl _ => true | .bl _, .non => true | .non, .str _ => true | .str _, .non => true
  | .int _, .int _ => true | .bl _, .bl _ => true | .str _, .str _ => true | .byt _, .byt _ => true
  | .int _, .str _ => true | .str _, .int _ => true | .bl _, .str _ => true | .str _, .bl _ => true
  | _, _ => false
def rEq : R2 := fun x y H Q => scal x y = true ∧ Q (.bl (decide (x = y))) H
def rNe : R2 := fun x y H Q => scal x y = true ∧ Q (.bl (!decide (x = y))) H
theorem dec_int {i j : Int} : decide (V.int i = V.int j) = (i == j) := by
  rw [Bool.eq_iff_iff]
  simp
theorem dec_bl {i j : Bool} : decide (V.bl i = V.bl j) = (i == j) := by
  rw [Bool.eq_iff_iff]
  simp
theorem dec_str {i j : Str} : decide (V.str i = V.str j) = (i == j) := by
  rw [Bool.eq_iff_iff]
  simp
theorem dec_byt {i j : Array UInt8} : decide (V.byt i = V.byt j) = (i.toList == j.toList) := by
  rw [Bool.eq_iff_iff]
  cases i
  cases j
  simp
section
variable {X : Cx} {a b c : Expr} {ta tb tc : TE} {pos : Pos}
theorem fin_bl {pins : List (Addr × Obj)} {σ : St} {H : Hp} {s : Shared} {Q : VK} {k k' : Bool} (I : Inv X pins σ H s) (q : Q (.bl k) H) (e : k = k') : EP X pins σ Q (.bool k') s := by
  subst e
  exact ⟨.bl k, H, I, rfl, q⟩
theorem op_eq : OpR X (compareOp .Eq) rEq := by
  intro pins s σ H x y v u Q I rx ry h
  obtain ⟨hs, q⟩ := h
  cases x with
  | non =>
    cases rx
    cases y with
    | non => cases ry; exact PySem.EqNone.eq_none_none (fin_bl I q (by simp))
    | bl j => cases ry; exact PySem.EqNone.eq_none_bool (fin_bl I q (by simp))
    | int j => obtain ⟨t', rfl⟩ := ry; exact PySem.EqNone.eq_none_int (fin_bl I q (by simp))
    | str j => obtain ⟨t', rfl⟩ := ry; exact PySem.EqNone.eq_none_str (fin_bl I q (by simp))
    | _ => exact absurd (show false = true from hs) Bool.false_ne_true
  | bl i =>
    cases rx
    cases y with
    | non => cases ry; exact PySem.EqNone.eq_bool_none (fin_bl I q (by simp))
    | bl j => cases ry; exact eq_bool (fin_bl I q dec_bl)
    | str j => obtain ⟨t', rfl⟩ := ry; exact PySem.EqMixed.eq_bool_str (fin_bl I q (by simp))
    | _ => exact absurd (show false = true from hs) Bool.false_ne_true
  | int i =>
    obtain ⟨t, rfl⟩ := rx
    cases y with
    | non => cases ry; exact PySem.EqNone.eq_int_none (fin_bl I q (by simp))
    | int j => obtain ⟨t', rfl⟩ := ry; exact eq_int (fin_bl I q dec_int)
    | str j => obtain ⟨t', rfl⟩ := ry; exact PySem.EqMixed.eq_int_str (fin_bl I q (by simp))
    | _ => exact absurd (show false = true from hs) Bool.false_ne_true
  | str i =>
    obtain ⟨t, rfl⟩ := rx
    cases y with
    | non => cases ry; exact PySem.EqNone.eq_str_none (fin_bl I q (by simp))
    | bl j => cases ry; exact PySem.EqMixed.eq_str_bool (fin_bl I q (by simp))
    | int j => obtain ⟨t', rfl⟩ := ry; exact PySem.EqMixed.eq_str_int (fin_bl I q (by simp))
    | str j => obtain ⟨t', rfl⟩ := ry; exact eq_str (fin_bl I q dec_str)
    | _ => exact absurd (show false = true from hs) Bool.false_ne_true
  | byt i =>
    obtain ⟨t, rfl⟩ := rx
    cases y with
    | byt j => obtain ⟨t', rfl⟩ := ry; exact PySem.W.eq_bytes (fin_bl I q dec_byt)
    | _ => exact absurd (show false = true from hs) Bool.false_ne_true
  | _ => cases y <;> exact absurd (show false = true from hs) Bool.false_ne_true
theorem op_ne : OpR X (compareOp .NotEq) rNe := by
  intro pins s σ H x y v u Q I rx ry h
  obtain ⟨hs, q⟩ := h
  cases x with
  | non =>
    cases rx
    cases y with
    | non => cases ry; exact PySem.EqNone.ne_none_none (fin_bl I q (by simp))
    | bl j => cases ry; exact PySem.EqNone.ne_none_bool (fin_bl I q (by simp))
    | int j => obtain ⟨t', rfl⟩ := ry; exact PySem.EqNone.ne_none_int (fin_bl I q (by simp))
    | str j => obtain ⟨t', rfl⟩ := ry; exact PySem.EqNone.ne_none_str (fin_bl I q (by simp))
    | _ => exact absurd (show false = true from hs) Bool.false_ne_true
  | bl i =>
    cases rx
    cases y with
    | non => cases ry; exact PySem.EqNone.ne_bool_none (fin_bl I q (by simp))
    | bl j => cases ry; exact ne_bool (fin_bl I q (congrArg not dec_bl))
    | str j => obtain ⟨t', rfl⟩ := ry; exact PySem.EqMixed.ne_bool_str (fin_bl I q (by simp))
    | _ => exact absurd (show false = true from hs) Bool.false_ne_true
  | int i =>
    obtain ⟨t, rfl⟩ := rx
    cases y with
    | non => cases ry; exact PySem.EqNone.ne_int_none (fin_bl I q (by simp))
    | int j => obtain ⟨t', rfl⟩ := ry; exact ne_int (fin_bl I q (congrArg not dec_int))
    | str j => obtain ⟨t', rfl⟩ := ry; exact PySem.EqMixed.ne_int_str (fin_bl I q (by simp))
    | _ => exact absurd (show false = true from hs) Bool.false_ne_true
  | str i =>
    obtain ⟨t, rfl⟩ := rx
    cases y with
    | non => cases ry; exact PySem.EqNone.ne_str_none (fin_bl I q (by simp))
    | bl j => cases ry; exact PySem.EqMixed.ne_str_bool (fin_bl I q (by simp))
    | int j => obtain ⟨t', rfl⟩ := ry; exact PySem.EqMixed.ne_str_int (fin_bl I q (by simp))
    | str j => obtain ⟨t', rfl⟩ := ry; exact ne_str (fin_bl I q (congrArg not dec_str))
    | _ => exact absurd (show false = true from hs) Bool.false_ne_true
  | byt i =>
    obtain ⟨t, rfl⟩ := rx
    cases y with
    | byt j => obtain ⟨t', rfl⟩ := ry; exact PySem.W.ne_bytes (fin_bl I q (congrArg not dec_byt))
    | _ => exact absurd (show false = true from hs) Bool.false_ne_true
  | _ => cases y <;> exact absurd (show false = true from hs) Bool.false_ne_true
theorem op_lt : OpR X (compareOp .Lt) (rI0 fun i j => .bl (decide (i < j))) := opB0 fun _ _ _ _ _ _ _ q => lt_int q
theorem op_le : OpR X (compareOp .LtE) (rI0 fun i j => .bl (decide (i ≤ j))) := opB0 fun _ _ _ _ _ _ _ q => le_int q
theorem op_lt_str : OpR X (compareOp .Lt) (fun x y H Q => ∃ i j, x = .str i ∧ y = .str j ∧ Q (.bl (decide (i.cps.toList < j.cps.toList))) H) := by
  intro pins s σ H x y v u Q I rx ry h
  obtain ⟨i, j, rfl, rfl, q⟩ := h
  obtain ⟨t, rfl⟩ := rx
  obtain ⟨t', rfl⟩ := ry
  exact lt_str (fin_bl I q rfl)
theorem op_notin_str : OpR X (compareOp .NotIn) (fun x y H Q => ∃ i j, x = .str i ∧ y = .str j ∧ Q (.bl (!(!(Builtin.Str.occurrences j i 0 j.length 1).isEmpty))) H) := by
  intro pins s σ H x y v u Q I rx ry h
  obtain ⟨i, j, rfl, rfl, q⟩ := h
  obtain ⟨t, rfl⟩ := rx
  obtain ⟨t', rfl⟩ := ry
  exact notIn_str (fin_bl I q rfl)
theorem OpR.or {f : Value → Value → Sem Value} {r r' : R2} (h : OpR X f r) (h' : OpR X f r') : OpR X f (fun x y H Q => r x y H Q ∨ r' x y H Q) := by
  intro pins s σ H x y v u Q I rx ry q
  rcases q with q | q
  · exact h pins s σ H x y v u Q I rx ry q
  · exact h' pins s σ H x y v u Q I rx ry q
theorem nomark (b : Expr) {op : CmpOp} (h : op ≠ .In := by decide) (h2 : op ≠ .NotIn := by decide) : behindInMarks op b = false := by
  have e1 : (op == CmpOp.In) = false := by cases op <;> first | rfl | exact absurd rfl h
  have e2 : (op == CmpOp.NotIn) = false := by cases op <;> first | rfl | exact absurd rfl h2
  cases b <;> simp [behindInMarks, e1, e2]
theorem pe_cmpR {op : CmpOp} {r : R2} (ho : OpR X (compareOp op) r) (ha : PE X a ta) (hb : PE X b tb) (hm : behindInMarks op b = false) : PE X (.Compare a [op] [b] pos) (tOp r ta tb) := by
  intro pins s σ H Q I h
  exact wpAny_Compare1 (binT ha hb I h fun v u s2 x y H2 I2 rx ry q => ho pins s2 σ H2 x y v u Q I2 rx ry q) hm
def TruV (K : PySem.W.Frag) (x : V) (H : Hp) (k : Bool) : Prop :=
  match x with
  | .non => k = false
  | .bl b => k = b
  | .int i => k = (i != 0)
  | .str y => y.length ≤ sizeLine ∧ k = ((y.length : Int) != 0)
  | .byt y => y.size ≤ sizeLine ∧ k = ((y.size : Int) != 0)
  | .ref p => (∃ xs, SqL K H p xs ∧ k = !xs.isEmpty) ∨ (∃ xs, SqT K H p xs ∧ k = !xs.isEmpty) ∨ ∃ kvs, H p = some (.dK kvs) ∧ k = !kvs.isEmpty
  | _ => False
theorem isEmpty_kv {κ : Type} {kvs : List (κ × V)} {vs : List (κ × Value)} (r : KV kvs vs) : (!vs.isEmpty) = !kvs.isEmpty := by
  cases r <;> rfl
theorem isEmpty_of {xs : List V} {its : List Value} (r : Vals xs its) : (!its.toArray.isEmpty) = !xs.isEmpty := by
  cases r <;> simp
theorem line63 : (sizeLine : Nat) < 2 ^ 63 := by rw [sizeLine_eq]; decide
theorem tru_ok : TruR X (fun x H Q => ∃ k, TruV X.K x H k ∧ Q k H) := by
  intro pins s σ H x v Q I rx h
  obtain ⟨k, e, q⟩ := h
  have hl := line63
  have hs : sizeLine = 16777216 := sizeLine_eq
  cases x with
  | non =>
    cases rx
    have e' : k = false := e
    subst e'
    exact truthy_none ⟨H, I, q⟩
  | bl b =>
    cases rx
    have e' : k = b := e
    subst e'
    exact wpAny_truthy_bool ⟨H, I, q⟩
  | int i =>
    obtain ⟨t, rfl⟩ := rx
    have e' : k = (i != 0) := e
    subst e'
    exact PySem.P.truthy_int ⟨H, I, q⟩
  | str y =>
    obtain ⟨t, rfl⟩ := rx
    obtain ⟨hy, e'⟩ : y.length ≤ sizeLine ∧ k = ((y.length : Int) != 0) := e
    subst e'
    exact PySem.P.truthy_str (by omega) ⟨H, I.tok _, q⟩
  | byt y =>
    obtain ⟨t, rfl⟩ := rx
    obtain ⟨hy, e'⟩ : y.size ≤ sizeLine ∧ k = ((y.size : Int) != 0) := e
    subst e'
    exact PySem.W.truthy_bytes (by omega) ⟨H, I.tok _, q⟩
  | ref p =>
    cases rx
    have e' : (∃ xs, SqL X.K H p xs ∧ k = !xs.isEmpty) ∨ (∃ xs, SqT X.K H p xs ∧ k = !xs.isEmpty) ∨ ∃ kvs, H p = some (.dK kvs) ∧ k = !kvs.isEmpty := e
    rcases e' with ⟨xs, hx, e'⟩ | ⟨xs, hx, e'⟩ | ⟨kvs, hx, e'⟩
    · subst e'
      obtain ⟨its, r, pl, hz⟩ := I.list hx
      have hlen := r.length
      exact wpAny_truthy_list pl.isList (by simp only [List.size_toArray]; omega) ⟨H, I.tok _, by rw [isEmpty_of r]; exact q⟩
    · subst e'
      obtain ⟨its, r, pl, hz⟩ := I.tuple hx
      have hlen := r.length
      exact truthy_tuple pl (by simp only [List.size_toArray]; omega) ⟨H, I.tok _, by rw [isEmpty_of r]; exact q⟩
    · subst e'
      obtain ⟨hz, hS, vs, r, m⟩ : kvs.length ≤ sizeLine ∧ (p == sysModules) = false ∧ ∃ vs, KV kvs vs ∧ s.heap.DictOf (mixKind X.prog X.w) p vs := I.hok p _ hx
      have hlen : kvs.length = vs.length := Paired.length r
      exact wpAny_truthy_dict hS m (by omega) ⟨H, I.tok _, by rw [isEmpty_kv r]; exact q⟩
  | _ => exact (show False from e).elim
theorem op_add_str : OpR X (binaryOp .Add) (fun x y H Q => ∃ i j, x = .str i ∧ y = .str j ∧ i.length + j.length ≤ sizeLine ∧ Q (.str (i ++ j)) H) := by
  intro pins s σ H x y v u Q I rx ry h
  obtain ⟨i, j, rfl, rfl, hz, q⟩ := h
  obtain ⟨t, rfl⟩ := rx
  obtain ⟨t', rfl⟩ := ry
  exact add_str (fun t' tk => ⟨.str (i ++ j), H, I.tok _, ⟨_, rfl⟩, q⟩) hz
theorem vals1 {x : V} {us : List Value} (r : Vals [x] us) : ∃ u, us = [u] ∧ RelV x u := by
  cases r with
  | cons r1 r2 => cases r2; exact ⟨_, rfl, r1⟩
theorem vals2 {x y : V} {us : List Value} (r : Vals [x, y] us) : ∃ u w', us = [u, w'] ∧ RelV x u ∧ RelV y w' := by
  cases r with
  | cons r1 r2 =>
    cases r2 with
    | cons r3 r4 => cases r4; exact ⟨_, _, rfl, r1, r3⟩
theorem call_max2 (hc : X.calm = true) : CallR X (.builtin "max") (fun xs H Q => ∃ i j, xs = [.int i, .int j] ∧ Q (.int (if j > i then j else i)) H) := by
  intro pins s σ H xs us Q I r h
  obtain ⟨i, j, rfl, q⟩ := h
  obtain ⟨u, w', rfl, ⟨t, rfl⟩, ⟨t', rfl⟩⟩ := vals2 r
  refine max_two_ints (I.ok.hd hc) fun h' tk k => ⟨_, H, I.kept k, ?_, q⟩
  by_cases hj : j > i
  · rw [if_pos hj, if_pos hj]; exact ⟨_, rfl⟩
  · rw [if_neg hj, if_neg hj]; exact ⟨_, rfl⟩
theorem call_min2 (hc : X.calm = true) : CallR X (.builtin "min") (fun xs H Q => ∃ i j, xs = [.int i, .int j] ∧ Q (.int (if j < i then j else i)) H) := by
  intro pins s σ H xs us Q I r h
  obtain ⟨i, j, rfl, q⟩ := h
  obtain ⟨u, w', rfl, ⟨t, rfl⟩, ⟨t', rfl⟩⟩ := vals2 r
  refine min_two_ints (I.ok.hd hc) fun h' tk k => ⟨_, H, I.kept k, ?_, q⟩
  by_cases hj : j < i
  · rw [if_pos hj, if_pos hj]; exact ⟨_, rfl⟩
  · rw [if_neg hj, if_neg hj]; exact ⟨_, rfl⟩
def LenV (K : PySem.W.Frag) (x : V) (H : Hp) (n : Nat) : Prop :=
  match x with
  | .str y => y.length ≤ sizeLine ∧ n = y.length
  | .byt y => y.size ≤ sizeLine ∧ n = y.size
  | .ref p => (∃ xs, SqL K H p xs ∧ n = xs.length) ∨ ∃ xs, SqT K H p xs ∧ n = xs.length
  | _ => False
theorem call_len : CallR X (.builtin "len") (fun xs H Q => ∃ x n, xs = [x] ∧ LenV X.K x H n ∧ Q (.int n) H) := by
  intro pins s σ H xs us Q I r h
  obtain ⟨x, n, rfl, e, q⟩ := h
  obtain ⟨u, rfl, rx⟩ := vals1 r
  have hl := line63
  have hs : sizeLine = 16777216 := sizeLine_eq
  cases x with
  | str y =>
    obtain ⟨t, rfl⟩ := rx
    obtain ⟨hy, e'⟩ : y.length ≤ sizeLine ∧ n = y.length := e
    subst e'
    exact len_str (by omega) ⟨.int _, H, I.tok _, ⟨_, rfl⟩, q⟩
  | byt y =>
    obtain ⟨t, rfl⟩ := rx
    obtain ⟨hy, e'⟩ : y.size ≤ sizeLine ∧ n = y.size := e
    subst e'
    exact PySem.W.len_bytes (by omega) ⟨.int _, H, I.tok _, ⟨_, rfl⟩, q⟩
  | ref p =>
    cases rx
    have e' : (∃ xs, SqL X.K H p xs ∧ n = xs.length) ∨ ∃ xs, SqT X.K H p xs ∧ n = xs.length := e
    rcases e' with ⟨xs, hx, e'⟩ | ⟨xs, hx, e'⟩
    · subst e'
      obtain ⟨its, r', pl, hz⟩ := I.list hx
      have hlen := r'.length
      exact Calls.call_len_list pl.isList (by simp only [List.size_toArray]; omega) ⟨.int xs.length, H, I.tok _, ⟨_, by simp only [List.size_toArray]; rw [hlen]⟩, q⟩
    · subst e'
      obtain ⟨its, r', pl, hz⟩ := I.tuple hx
      have hlen := r'.length
      exact len_tuple pl (by simp only [List.size_toArray]; omega) ⟨.int xs.length, H, I.tok _, ⟨_, by simp only [List.size_toArray]; rw [hlen]⟩, q⟩
  | _ => exact (show False from e).elim
end
end L2
namespace L2
open PySem PySem.Spec PyProof.Rows
structure ObjM (h : Heap) (x dx C : Addr) (mA : Str → Option Value) : Prop where
  obj : h.get? x = some (PySem.W.instObj C dx)
  ns : h.Ns1 dx mA
  ne : dx ≠ x
theorem lookIn_ns {h : Heap} {dx : Addr} {mA : Str → Option Value} (n : h.Ns1 dx mA) : ∃ od, h.get? dx = some od ∧ ∀ name, PySem.W.lookIn name od = some (mA name) := by
  obtain ⟨o, es, ep, ho, hd, hk, _, hm⟩ := n
  refine ⟨o, ho, fun name => ?_⟩
  have e := hm name
  unfold nsFind findBy at e
  rw [← Array.find?_toList] at e
  unfold PySem.W.lookIn
  rw [hd]
  dsimp only
  split
  · rename_i y q
    rw [q] at e
    exact congrArg some e
  · rename_i q
    rw [q] at e
    have a : es.toList.any (·.refKey) = false := by
      rw [List.any_eq_false]
      intro y hy
      obtain ⟨z, t, hkey⟩ := hk y (Array.mem_toList_iff.mp hy)
      simp [DictEntry.refKey, hkey]
    have a' : ¬ es.toList.any (·.refKey) = true := by rw [a]; exact Bool.false_ne_true
    rw [if_neg a']
    exact congrArg some e
theorem ObjM.look {h : Heap} {x dx C : Addr} {mA : Str → Option Value} (I : ObjM h x dx C mA) : ∃ od, PySem.W.InstAt h x (PySem.W.instObj C dx) C (some od) ∧ ∀ name, PySem.W.lookIn name od = some (mA name) :=
  let ⟨od, ho, hl⟩ := lookIn_ns I.ns
  ⟨od, ⟨I.obj, rfl, rfl, ho⟩, hl⟩
section
variable {prog : Program} {w : World} {A : Around} {E : Value → Shared → Prop} {s : Shared} {K : PySem.W.Frag} {x dx C f : Addr} {mA : Str → Option Value} {name : Str} {v : Value}
theorem get_map {expr : Bool} {Q : Value → Shared → Prop} (X : K.In s.heap) (I : ObjM s.heap x dx C mA) (hg : PySem.W.plainGet K C name = true) (hh : PySem.W.hasDictIn K C = true)
    (ha : PySem.W.findIn K (.ref C) name = some none) (hv : mA name = some v) (hv' : PySem.W.handedIn v = true) (h : Q v { s with toks := s.toks + 1 }) :
    wpAny (model prog w) A (getAttr (.ref x) name expr) Q E s := by
  obtain ⟨od, J, hl⟩ := I.look
  exact PySem.W.get_value X J (PySem.W.plainGet_of hg).1 (PySem.W.findObj_own hh ha rfl (by rw [hl, hv])) hv' h
theorem get_meth {pl : Sem Bool} {Q : Value × List Value → Shared → Prop} (X : K.In s.heap) (I : ObjM s.heap x dx C mA) (hg : PySem.W.plainGet K C name = true)
    (hf : PySem.W.findIn K (.ref C) name = some (some (.ref f))) (ht : PySem.W.isFn K (.ref f) = true) (hv : mA name = none) (h : Q (.ref f, [.ref x]) s) :
    wpAny (model prog w) A (getMethod (.ref x) name pl) Q E s := by
  obtain ⟨od, J, hl⟩ := I.look
  exact PySem.W.method_fn X J (PySem.W.plainGet_of hg).1 (PySem.W.plainGet_of hg).2 hf (beq_iff_eq.mp ht) (by show (PySem.W.lookIn name od).map (·.isSome) = some false; rw [hl, hv]; rfl) h
theorem set_map {ns : List Str} {Q : Unit → Shared → Prop} (X : K.In s.heap) (I : ObjM s.heap x dx C mA)
    (hs : PySem.W.findIn K (.ref C) "__setattr__" = some (some (.builtin "object.__setattr__"))) (hp : PySem.W.plainOver K C = true) (ht : PySem.W.takerIn K C name = some none) (hh : PySem.W.hasDictIn K C = true)
    (hw : PySem.Within mA ns) (hsz : ns.length ≤ sizeLine)
    (h : ∀ h', ObjM h' x dx C (fun y => if y = name then some v else mA y) → Heap.SameBut dx s.heap h' → Q () { s with heap := h', toks := s.toks + 2 }) :
    wpAny (model prog w) A (setAttr (.ref x) name v) Q E s := by
  obtain ⟨od, J, hl⟩ := I.look
  refine PySem.W.set_plain X J hs (PySem.W.osa_open (s := { s with toks := s.toks + 1 }) (r := none) X J hp ht fun b => ?_)
  obtain ⟨cd, hc, hd'⟩ := PySem.W.any_some hh
  have hx : s.heap.get? x = some ⟨.ref C, some dx, .plain, #[]⟩ := I.obj
  refine wpAny_bind (wpAny_pure (wpAny_bind (wpAny_bind (wpAny_loadPart hx (wpAny_bind (PySem.W.Looks.here (s := { s with toks := s.toks + 1 }) (PySem.W.looks_clsIn X hc) ?_))))))
  rw [hd']
  refine wpAny_pure (a := some dx) (wpAny_bind (wpAny_pure (wpAny_bind ?_)))
  refine wpAny_nsSet1 (s := { s with toks := s.toks + 1 }) I.ns fun h' hn2 hs2 => ?_
  obtain ⟨oD, esD, epD, hoD, hdD, hcD⟩ := hn2.count (PySem.Within.cons name v hw)
  refine wpAny_bind (wpAny_lookBehind hoD (by rw [hdD]; exact pastItsLine_dict (Nat.le_trans hcD (by rw [List.length_cons]; omega))) ?_)
  exact wpAny_pure (h _ ⟨(hs2.2 _ (Ne.symm I.ne)).trans I.obj, hn2, I.ne⟩ hs2)
theorem make_map {R : Result → Shared → Prop} {vs : List Value} {kw : List (Str × Value)} (X : K.In s.heap) (hm : PySem.W.makesIn K C = true)
    (hi : PySem.W.findIn K (.ref C) "__init__" = some (some (.ref f))) (hf : PySem.W.typeIn K (.ref f) = some (.type "function"))
    (h : codeAny (model prog w) (A.under (.builtin "type.__call__" ⟨.ref C :: vs, kw⟩)) (.call (.ref f) ⟨.ref (s.heap.objs.size + 1) :: vs, kw⟩) (PySem.W.InitBack (s.heap.objs.size + 1) R)
      { s with heap := (s.heap.push PySem.W.emptyDict).push (PySem.W.instObj C s.heap.objs.size) }) :
    codeAny (model prog w) A (.call (.ref C) ⟨vs, kw⟩) R s := by
  obtain ⟨hh, g, d, t, os⟩ := s
  exact PySem.W.make_core (PySem.W.makes_of X hm) (PySem.W.looks_findIn X hi) (fun self => PySem.W.bind_fn X self hf) (.inl rfl) h
end
def putF (f : Str) (v : V) : List (Str × V) → List (Str × V)
  | [] => [(f, v)]
  | (g, x) :: r => if g = f then (g, v) :: r else (g, x) :: putF f v r
theorem lookup_putF (f g : Str) (v : V) : ∀ fs : List (Str × V), (putF f v fs).lookup g = if g = f then some v else fs.lookup g
  | [] => by
    show List.lookup g [(f, v)] = _
    by_cases h : g = f
    · have hb : (g == f) = true := beq_iff_eq.mpr h
      simp only [List.lookup, hb, if_pos h]
    · have hb : (g == f) = false := beq_eq_false_iff_ne.mpr h
      simp only [List.lookup, hb, if_neg h]
  | (k, x) :: r => by
    have ih := lookup_putF f g v r
    rw [show putF f v ((k, x) :: r) = (if k = f then (k, v) :: r else (k, x) :: putF f v r) from rfl]
    by_cases hk : k = f
    · rw [if_pos hk]
      by_cases h : g = k
      · have hb : (g == k) = true := beq_iff_eq.mpr h
        simp only [List.lookup, hb, if_pos (h.trans hk)]
      · have hb : (g == k) = false := beq_eq_false_iff_ne.mpr h
        simp only [List.lookup, hb, if_neg (fun e : g = f => h (e.trans hk.symm))]
    · rw [if_neg hk]
      by_cases h : g = k
      · have hb : (g == k) = true := beq_iff_eq.mpr h
        simp only [List.lookup, hb, if_neg (fun e : g = f => hk (h.symm.trans e))]
      · have hb : (g == k) = false := beq_eq_false_iff_ne.mpr h
        simp only [List.lookup, hb]
        exact ih
theorem keys_putF (f : Str) (v : V) : ∀ fs : List (Str × V), f ∈ (putF f v fs).map (·.1) ∧ ∀ g, g ∈ fs.map (·.1) → g ∈ (putF f v fs).map (·.1)
  | [] => ⟨by simp [putF], fun g h => by simp at h⟩
  | (k, x) :: r => by
    obtain ⟨i1, i2⟩ := keys_putF f v r
    rw [show putF f v ((k, x) :: r) = (if k = f then (k, v) :: r else (k, x) :: putF f v r) from rfl]
    by_cases hk : k = f
    · rw [if_pos hk]
      subst hk
      exact ⟨by simp, fun g h => by simpa using h⟩
    · rw [if_neg hk]
      refine ⟨?_, fun g h => ?_⟩
      · rw [List.map_cons]
        exact List.mem_cons_of_mem _ i1
      · rw [List.map_cons] at h ⊢
        rcases List.mem_cons.mp h with e | e
        · exact List.mem_cons.mpr (.inl e)
        · exact List.mem_cons_of_mem _ (i2 g e)
theorem length_putF (f : Str) (v : V) : ∀ fs : List (Str × V), (putF f v fs).length ≤ fs.length + 1
  | [] => by simp [putF]
  | (k, x) :: r => by
    have ih := length_putF f v r
    rw [show putF f v ((k, x) :: r) = (if k = f then (k, v) :: r else (k, x) :: putF f v r) from rfl]
    by_cases hk : k = f
    · rw [if_pos hk, List.length_cons, List.length_cons]; omega
    · rw [if_neg hk, List.length_cons, List.length_cons]; omega
theorem RelO.some_of {v : V} {o : Option Value} (r : RelO (some v) o) : ∃ u, o = some u ∧ RelV v u := by
  cases o with
  | none => exact (show False from r).elim
  | some u => exact ⟨u, rfl, r⟩
theorem RelO.none_of {o : Option Value} (r : RelO none o) : o = none := by
  cases o with
  | none => rfl
  | some u => exact (show False from r).elim
theorem handed_of {v : V} {u : Value} (r : RelV v u) : PySem.W.handedIn u = true := by
  cases v with
  | non => cases (show u = Value.none from r); rfl
  | bl b => cases (show u = Value.bool b from r); rfl
  | int i => obtain ⟨t, e⟩ := (show ∃ t, u = Value.int i t from r); cases e; rfl
  | str x => obtain ⟨t, e⟩ := (show ∃ t, u = Value.str x t from r); cases e; rfl
  | byt b => obtain ⟨t, e⟩ := (show ∃ t, u = Value.bytes b t from r); cases e; rfl
  | flt b => obtain ⟨t, e⟩ := (show ∃ t, u = Value.float b t from r); cases e; rfl
  | ref a => cases (show u = Value.ref a from r); rfl
  | ty n => cases (show u = Value.type n from r); rfl
section
variable {P : Program} {w : World} {H H' : Hp} {h h' : Heap} {a C dx : Addr} {fs fs' : List (Str × V)}
theorem ins_get (hok : HOk P w H h) (e : H a = some (.ins C dx fs)) : ∃ mA, ObjM h a dx C mA ∧ (∀ f, RelO (fs.lookup f) (mA f)) ∧ PySem.Within mA (fs.map (·.1)) ∧ fs.length ≤ 1000 ∧ H dx = some (.own a) := by
  obtain ⟨d, z, ne, ob, mA, n, r, q⟩ := (show ObjOk P w H h a (.ins C dx fs) from hok a _ e)
  exact ⟨mA, ⟨ob, n, ne⟩, r, q, z, d⟩
end
structure Cls (K : PySem.W.Frag) (C : Addr) : Prop where
  pg : PySem.W.plainGet K C Str.empty = true
  hd : PySem.W.hasDictIn K C = true
  po : PySem.W.plainOver K C = true
  sa : PySem.W.findIn K (.ref C) "__setattr__" = some (some (.builtin "object.__setattr__"))
theorem Cls.get {K : PySem.W.Frag} {C : Addr} (c : Cls K C) (f : Str) : PySem.W.plainGet K C f = true := c.pg
def NoAttr (K : PySem.W.Frag) (C : Addr) (f : Str) : Prop := PySem.W.findIn K (.ref C) f = some none
theorem NoAttr.taker {K : PySem.W.Frag} {C : Addr} {f : Str} (n : NoAttr K C f) : PySem.W.takerIn K C f = some none := by
  unfold PySem.W.takerIn
  rw [show PySem.W.findIn K (.ref C) f = some none from n]
  rfl
structure Meth (K : PySem.W.Frag) (C : Addr) (m : Str) (f : Addr) : Prop where
  at_ : PySem.W.findIn K (.ref C) m = some (some (.ref f))
  fn : PySem.W.isFn K (.ref f) = true
  kp : PySem.W.keepIn K (.ref f) = true
section
variable {X : Cx} {pins : List (Addr × Obj)} {σ : St} {H : Hp} {s : Shared} {a C dx : Addr} {fs : List (Str × V)} {f : Str} {v : V} {A : Around} {E : Value → Shared → Prop}
theorem getattr_ok {b : Bool} {Q : Value → Shared → Prop} (I : Inv X pins σ H s) (e : H a = some (.ins C dx fs)) (c : Cls X.K C) (n : NoAttr X.K C f) (l : fs.lookup f = some v)
    (h : ∀ u s', Inv X pins σ H s' → RelV v u → Q u s') : wpAny (model X.prog X.w) A (getAttr (.ref a) f b) Q E s := by
  obtain ⟨mA, O, r, _, _, _⟩ := ins_get I.hok e
  obtain ⟨u, hu, ru⟩ := RelO.some_of (v := v) (o := mA f) (by rw [← l]; exact r f)
  exact get_map I.kIn O (c.get f) c.hd n hu (handed_of ru) (h u _ (I.tok _) ru)
theorem getmeth_ok {m : Str} {g : Addr} {pl : Sem Bool} {Q : Value × List Value → Shared → Prop} (I : Inv X pins σ H s) (e : H a = some (.ins C dx fs)) (c : Cls X.K C) (k : Meth X.K C m g) (l : fs.lookup m = none)
    (h : Q (.ref g, [.ref a]) s) : wpAny (model X.prog X.w) A (getMethod (.ref a) m pl) Q E s := by
  obtain ⟨mA, O, r, _, _, _⟩ := ins_get I.hok e
  have hn : mA m = none := RelO.none_of (by rw [← l]; exact r m)
  exact get_meth I.kIn O (c.get m) k.at_ k.fn hn h
theorem setattr_ok {y : V} {u : Value} {Q : Unit → Shared → Prop} (I : Inv X pins σ H s) (e : H a = some (.ins C dx fs)) (c : Cls X.K C) (n : NoAttr X.K C f) (hl : fs.length < 1000) (ry : RelV y u)
    (h : ∀ s', Inv X pins σ (upd H a (.ins C dx (putF f y fs))) s' → Q () s') : wpAny (model X.prog X.w) A (setAttr (.ref a) f u) Q E s := by
  obtain ⟨mA, O, r, wi, _, ho⟩ := ins_get I.hok e
  have hz : (fs.map (·.1)).length ≤ sizeLine := by rw [List.length_map, sizeLine_eq]; omega
  refine set_map I.kIn O c.sa c.po n.taker c.hd wi hz fun h' O' sb => h _ ?_
  have hd : ∃ o, h'.get? dx = some o := let ⟨o, _, _, e', _⟩ := O'.ns; ⟨o, e'⟩
  refine I.write (x := a) (e := dx) (by rw [e]; exact True.intro) (.inr ho) (fun b q hb z => (sb.2 b hb).trans z) hd ?_
  refine ⟨by rw [upd_ne O.ne]; exact ho, ?_, O.ne, O'.obj, _, O'.ns, fun g => ?_, fun g hg => ?_⟩
  · have := length_putF f y fs; omega
  · show RelO ((putF f y fs).lookup g) (if g = f then some u else mA g)
    rw [lookup_putF]
    by_cases q : g = f
    · rw [if_pos q, if_pos q]; exact ry
    · rw [if_neg q, if_neg q]; exact r g
  · by_cases q : g = f
    · rw [q]; exact (keys_putF f y fs).1
    · refine (keys_putF f y fs).2 g (wi g fun z => hg ?_)
      show (if g = f then some u else mA g) = none
      rw [if_neg q]; exact z
theorem Inv.made (I : Inv X pins σ H s) : Inv X pins σ (upd (upd H s.heap.objs.size (.own (s.heap.objs.size + 1))) (s.heap.objs.size + 1) (.ins C s.heap.objs.size []))
    { s with heap := (s.heap.push PySem.W.emptyDict).push (PySem.W.instObj C s.heap.objs.size) } := by
  have e1 : (s.heap.push PySem.W.emptyDict).get? s.heap.objs.size = some PySem.W.emptyDict := Heap.get?_push_size s.heap rfl
  have e2 : ((s.heap.push PySem.W.emptyDict).push (PySem.W.instObj C s.heap.objs.size)).get? (s.heap.objs.size + 1) = some (PySem.W.instObj C s.heap.objs.size) := by
    have := Heap.get?_push_size (s.heap.push PySem.W.emptyDict) (o := PySem.W.instObj C s.heap.objs.size) rfl
    rwa [Heap.size_push] at this
  have e3 : (s.heap.push PySem.W.emptyDict).Ns s.heap.objs.size (fun _ => none) := ⟨PySem.W.emptyDict, #[], _, e1, rfl, (fun e he => absurd he (by simp)), fun _ => rfl⟩
  have I1 := I.laid (a := s.heap.objs.size) (o := .own (s.heap.objs.size + 1)) (h' := s.heap.push PySem.W.emptyDict) (t' := s.toks) (fun b u q => Heap.get?_push_of_some _ q) (Nat.le_refl _) ⟨_, e1⟩
  refine I1.laid (a := s.heap.objs.size + 1) (o := .ins C s.heap.objs.size []) (t' := s.toks) (fun b u q => Heap.get?_push_of_some _ q) (Nat.le_of_eq (Heap.size_push _ _)) ?_
  have ne : s.heap.objs.size ≠ s.heap.objs.size + 1 := Nat.ne_of_lt (Nat.lt_succ_self _)
  refine ⟨by rw [upd_ne ne, upd_same], Nat.zero_le _, ne, e2, fun _ => none, (Heap.Ns1.of_empty e3).at fun o q => Heap.get?_push_of_some _ q, fun _ => True.intro, fun y hy => absurd rfl hy⟩
theorem attr_of {prog : Program} {w : World} {env : Env} {e : Expr} {f : Str} {pos : Pos} {s : Shared} {Q : Value → Shared → Prop} (hb : attributeBase e f env (eval e env) = eval e env)
    (h : wpAny (model prog w) A (eval e env) (fun o s₁ => wpAny (model prog w) A (getAttr o f true) Q E s₁) E s) : wpAny (model prog w) A (eval (.Attribute e f pos) env) Q E s :=
  Attribute_any_ h (by rw [arm_eval_Attribute, hb])
end
section
variable {X : Cx} {o e value : Expr} {f : Str} {pos pos' tpos : Pos} {ta tv : TE}
end
section
variable {X : Cx} {pins : List (Addr × Obj)} {σ : St} {H : Hp} {s : Shared} {A : Around} {E : Value → Shared → Prop} {Q : Value → Shared → Prop} {c : Value} {b : Bool}
inductive TyOf (K : PySem.W.Frag) (H : Hp) : V → Value → Prop where
  | non : TyOf K H .non (.type "NoneType")
  | bl (x : Bool) : TyOf K H (.bl x) (.type "bool")
  | int (i : Int) : TyOf K H (.int i) (.type "int")
  | str (x : Str) : TyOf K H (.str x) (.type "str")
  | flt (x : UInt64) : TyOf K H (.flt x) (.type "float")
  | lst {a : Addr} {xs : List V} (e : H a = some (.lst xs)) : TyOf K H (.ref a) (.type "list")
  | frz {a : Addr} {o : Obj} {xs : List V} (e : H a = some (.frz o (.lst xs))) : TyOf K H (.ref a) (.type "list")
  | tup {a : Addr} {xs : List V} (e : H a = some (.tup xs)) : TyOf K H (.ref a) (.type "tuple")
  | dK {a : Addr} {kvs : List (Key × V)} (e : H a = some (.dK kvs)) : TyOf K H (.ref a) (.type "dict")
  | dT {a : Addr} {kvs : List (List Key × V)} (e : H a = some (.dT kvs)) : TyOf K H (.ref a) (.type "dict")
  | ins {a C dx : Addr} {fs : List (Str × V)} (e : H a = some (.ins C dx fs)) (cl : Cls K C) (ha : PySem.W.findIn K (.ref C) "__class__" = some (some (.builtin "object.__class__")))
      (hn : PySem.W.specialIn K (.builtin "object.__class__") "__get__" = some (some (.builtin "getset_descriptor.__get__"))) (htk : PySem.W.takesIn K (.builtin "object.__class__") = some true)
      (hm : PySem.W.mroIn K C (.type "object") = some true) : TyOf K H (.ref a) (.ref C)
theorem isinst_ok {x : V} {u t : Value} (I : Inv X pins σ H s) (rx : RelV x u) (ty : TyOf X.K H x t) (e : PySem.W.kitOne X.K t c = some b) (h : ∀ tk, Q (.bool b) { s with toks := tk }) :
    wpAny (model X.prog X.w) A (call (.builtin "isinstance") [u, c]) Q E s := by
  cases ty with
  | non => cases (show u = Value.none from rx); exact PySem.W.kia_one PySem.W.kitx_none I.kIn True.intro e (fun z => nomatch z) h
  | bl y => cases (show u = Value.bool y from rx); exact PySem.W.kia_one PySem.W.kitx_bool I.kIn True.intro e (fun z => nomatch z) h
  | int i => obtain ⟨t, q⟩ := (show ∃ t, u = Value.int i t from rx); cases q; exact PySem.W.kia_one PySem.W.kitx_int I.kIn True.intro e (fun z => nomatch z) h
  | str y => obtain ⟨t, q⟩ := (show ∃ t, u = Value.str y t from rx); cases q; exact PySem.W.kia_one PySem.W.kitx_str I.kIn True.intro e (fun z => nomatch z) h
  | flt y => obtain ⟨t, q⟩ := (show ∃ t, u = Value.float y t from rx); cases q; exact PySem.W.kia_one PySem.W.kitx_float I.kIn True.intro e (fun z => nomatch z) h
  | @lst a xs ea =>
    cases (show u = Value.ref a from rx)
    obtain ⟨_, _, n, _, h1⟩ := (show ObjOk X.prog X.w H s.heap a (.lst xs) from I.hok a _ ea)
    exact PySem.W.kia_one PySem.W.kitx_list I.kIn ⟨_, h1, rfl⟩ e (fun z => nomatch z) h
  | @frz a ob xs ea =>
    cases (show u = Value.ref a from rx)
    obtain ⟨_, _, _, n, _, h1⟩ := (show ObjOk X.prog X.w H s.heap a (.frz ob (.lst xs)) from I.hok a _ ea)
    exact PySem.W.kia_one PySem.W.kitx_list I.kIn ⟨_, h1, rfl⟩ e (fun z => nomatch z) h
  | @tup a xs ea =>
    cases (show u = Value.ref a from rx)
    obtain ⟨_, _, _, p⟩ := (show ObjOk X.prog X.w H s.heap a (.tup xs) from I.hok a _ ea)
    obtain ⟨o, h1, h2, _⟩ := p
    exact PySem.W.kia_one PySem.W.kitx_tuple I.kIn ⟨o, h1, h2⟩ e (fun z => nomatch z) h
  | @dK a kvs ea =>
    cases (show u = Value.ref a from rx)
    obtain ⟨_, _, vs, _, p⟩ := (show ObjOk X.prog X.w H s.heap a (.dK kvs) from I.hok a _ ea)
    obtain ⟨o, es, ep, h1, h2, _⟩ := p
    exact PySem.W.kia_one PySem.W.kitx_dict I.kIn ⟨o, h1, h2.1⟩ e (fun z => nomatch z) h
  | @dT a kvs ea =>
    cases (show u = Value.ref a from rx)
    obtain ⟨_, _, xs, _, o, es, ep, h1, h2, _⟩ := (show ObjOk X.prog X.w H s.heap a (.dT kvs) from I.hok a _ ea)
    exact PySem.W.kia_one PySem.W.kitx_dict I.kIn ⟨o, h1, h2.1⟩ e (fun z => nomatch z) h
  | @ins a C dx fs ea cl ha hn htk hm =>
    cases (show u = Value.ref a from rx)
    obtain ⟨mA, O, _⟩ := ins_get I.hok ea
    obtain ⟨od, J, _⟩ := O.look
    exact PySem.W.kia_one (PySem.W.kitx_own (cl.get _) cl.hd ha hn htk hm) I.kIn J e (fun z => nomatch z) h
end
end L2
namespace L2
open PySem PySem.Spec PyProof.Rows
structure Room (k : Nat) (A : Around) : Prop where
  hd : A.handled = none
  dp : A.depth + 3 * k + 5 < recursionLimit
  un : A.units + 16 * k + 200 < cLine
theorem Room.mono {j k : Nat} {A : Around} (r : Room k A) (h : j ≤ k) : Room j A := ⟨r.hd, by have := r.dp; omega, by have := r.un; omega⟩
theorem Room.deeper {k : Nat} {A : Around} (r : Room (k + 1) A) (env : Env) : Room k (A.deeper env) :=
  ⟨r.hd, by have := r.dp; show A.depth + 1 + 3 * k + 5 < _; omega, by have := r.un; show A.units + 3 + 16 * k + 200 < _; omega⟩
theorem Room.in1 {k : Nat} {A : Around} (r : Room (k + 1) A) : Room k A.in1 :=
  ⟨r.hd, by have := r.dp; show A.depth + 3 * k + 5 < _; omega, by have := r.un; show A.units + 1 + 16 * k + 200 < _; omega⟩
theorem make_depth {A : Around} {C : Addr} {us : List Value} {kw : List (Str × Value)} : (A.under (.builtin "type.__call__" ⟨.ref C :: us, kw⟩)).depth = A.depth + 1 := by
  first | rfl | simp [Around.under, Code.weight, Code.isCreation, Code.isGuard, Code.isCaller, Code.frames, Code.isFrame, guardIds]
theorem make_units {A : Around} {C : Addr} {us : List Value} {kw : List (Str × Value)} : (A.under (.builtin "type.__call__" ⟨.ref C :: us, kw⟩)).units = A.units + 1 := by
  first | rfl | simp [Around.under, Code.cUnits, Code.frames, Code.isFrame]
theorem Room.make {k : Nat} {A : Around} (r : Room (k + 1) A) (C : Addr) (us : List Value) (kw : List (Str × Value)) : Room k (A.under (.builtin "type.__call__" ⟨.ref C :: us, kw⟩)) :=
  ⟨r.hd, by have := r.dp; rw [make_depth]; omega, by have := r.un; rw [make_units]; omega⟩
theorem Room.depth {k : Nat} {A : Around} (r : Room k A) : A.depth < recursionLimit := by have := r.dp; omega
theorem Room.units {k : Nat} {A : Around} (r : Room k A) : A.units + 64 < cLine := by have := r.un; omega
def tNil : TA := fun _ H Q => Q [] H
def tCons (ta : TE) (tr : TA) : TA := fun σ H Q => ta σ H fun x H1 => tr σ H1 fun xs H2 => Q (x :: xs) H2
section
variable {X : Cx} {e : Expr} {es : List Expr} {te : TE} {t : TA} {pos : Pos}
theorem pa_nil : PA X [] tNil := fun _ _ _ _ H Q I h => Calls.spliced_nil ⟨[], H, I, .nil, h⟩
theorem pa_cons (ha : PE X e te) (hr : PA X es t) (hs : starEach (e :: es) X.env = (false, eval e X.env) :: starEach es X.env := by rfl) : PA X (e :: es) (tCons te t) := by
  intro pos pins s σ H Q I h
  rw [hs]
  show wpAny _ _ (spliced ((false, eval e X.env) :: backTo pos (starEach es X.env))) _ _ s
  refine Calls.spliced_cons (thn (ha pins s σ H _ I h) fun u s1 ⟨x, H1, I1, r1, q1⟩ => ?_)
  exact thn (hr pos pins s1 σ H1 _ I1 q1) fun us s2 ⟨xs, H2, I2, r2, q2⟩ => ⟨x :: xs, H2, I2, .cons r1 r2, q2⟩
def tTup (t : TA) : TE := fun σ H Q => t σ H fun xs H1 => xs.length ≤ sizeLine ∧ ∀ p, H1 p = none → Q (.ref p) (upd H1 p (.tup xs))
def tLst (t : TA) : TE := fun σ H Q => t σ H fun xs H1 => xs.length ≤ sizeLine ∧ ∀ p, H1 p = none → Q (.ref p) (upd H1 p (.lst xs))
theorem pe_tup {x1} (h : PA X es t) : PE X (.Tuple es x1 pos) (tTup t) := by
  intro pins s σ H Q I hq
  refine wpAny_Tuple_spliced (thn (h pos pins s σ H _ I hq) fun us s1 ⟨xs, H1, I1, r, z, q⟩ => ⟨by rw [← r.length]; exact z, ?_⟩)
  have hf : H1 s1.heap.objs.size = none := I1.hok.fresh (Nat.le_refl _)
  refine ⟨.ref s1.heap.objs.size, upd H1 s1.heap.objs.size (.tup xs), I1.laid (t' := s1.toks) (fun b u e => Heap.get?_push_of_some _ e) (Nat.le_refl _) ?_, rfl, q _ hf⟩
  exact ⟨z, us, r, ⟨_, Heap.get?_push_size _ rfl, rfl, _, rfl⟩⟩
theorem pe_lst (h : PA X es t) : PE X (.List es pos) (tLst t) := by
  intro pins s σ H Q I hq
  refine wpAny_List_spliced (thn (h pos pins s σ H _ I hq) fun us s1 ⟨xs, H1, I1, r, z, q⟩ => ⟨by rw [← r.length]; exact z, ?_⟩)
  have hf : H1 s1.heap.objs.size = none := I1.hok.fresh (Nat.le_refl _)
  refine ⟨.ref s1.heap.objs.size, upd H1 s1.heap.objs.size (.lst xs), I1.laid (t' := s1.toks) (fun b u e => Heap.get?_push_of_some _ e) (Nat.le_refl _) ?_, rfl, q _ hf⟩
  exact ⟨z, us, 0, r, Heap.get?_push_size _ rfl⟩
end
abbrev Sp := List V → Hp → VK → XK → Prop
abbrev CXT := List Env → Hp → Shared → XK → Value → Shared → Prop
structure Env0 (P : Program) (w : World) (K : PySem.W.Frag) (mg : Str → Option Value) (base : Heap) (A : Around) (outer : List Env) (s : Shared) (H : Hp) : Prop where
  frames : A.frames = some outer
  mod : Mod K mg base
  bs : ∀ b o, base.get? b = some o → s.heap.get? b = some o ∧ H b = none
  bsz : base.objs.size ≤ s.heap.objs.size
  funs : s.heap.FunFrames base outer
  frf : ∀ b ∈ frs outer, H b = none
  hok : HOk P w H s.heap
  bare : AllBare s.gens
def CE (outer : List Env) (P : Program) (w : World) (H : Hp) (s : Shared) (Q : VK) (u : Value) (s' : Shared) : Prop :=
  ∃ v H', s'.os = s.os ∧ AllBare s'.gens ∧ Un (frs outer) [] H H' s.heap s'.heap ∧ HOk P w H' s'.heap ∧ RelV v u ∧ Q v H'
def CR (CX : CXT) (outer : List Env) (P : Program) (w : World) (H : Hp) (s : Shared) (Q : VK) (E : XK) (r : Result) (s' : Shared) : Prop :=
  match r with
  | .ok (.ret u) => CE outer P w H s Q u s'
  | .ok _ => False
  | .error e => CX outer H s E e s'
structure FnOk (P : Program) (w : World) (K : PySem.W.Frag) (mg : Str → Option Value) (base : Heap) (CX : CXT) (k : Nat) (f : Addr) (fd : FuncData) (ps : List Str) (sp : Sp) : Prop where
  len : ∀ vs H Q E, sp vs H Q E → vs.length = ps.length
  run : ∀ (A : Around) (outer : List Env) (s : Shared) (H : Hp) (args : Args) (us : List Value) (vs : List V) (Q : VK) (E : XK), Room k A → Env0 P w K mg base A outer s H → BindsTo s fd args (ps.zip us) → Vals vs us → sp vs H Q E →
    codeAny (model P w) A (.call (.ref f) args) (CR CX outer P w H s Q E) s
theorem FnOk.mono {P : Program} {w : World} {K : PySem.W.Frag} {mg : Str → Option Value} {base : Heap} {CX : CXT} {j k : Nat} {f : Addr} {fd : FuncData} {ps : List Str} {sp : Sp} (F : FnOk P w K mg base CX j f fd ps sp) (h : j ≤ k) :
    FnOk P w K mg base CX k f fd ps sp := ⟨F.len, fun A outer s H args us vs Q E hr => F.run A outer s H args us vs Q E (hr.mono h)⟩
theorem FnOk.imp {P : Program} {w : World} {K : PySem.W.Frag} {mg : Str → Option Value} {base : Heap} {CX : CXT} {k : Nat} {f : Addr} {fd : FuncData} {ps : List Str} {sp sp' : Sp} (F : FnOk P w K mg base CX k f fd ps sp)
    (h : ∀ vs H Q E, sp' vs H Q E → sp vs H Q E) : FnOk P w K mg base CX k f fd ps sp' :=
  ⟨fun vs H Q E q => F.len vs H Q E (h _ _ _ _ q), fun A outer s H args us vs Q E hr he hb hv hs => F.run A outer s H args us vs Q E hr he hb hv (h _ _ _ _ hs)⟩
theorem Env0.make {P : Program} {w : World} {K : PySem.W.Frag} {mg : Str → Option Value} {base : Heap} {A : Around} {outer : List Env} {s : Shared} {H : Hp} (e : Env0 P w K mg base A outer s H) (C : Addr) (us : List Value) (kw : List (Str × Value)) :
    Env0 P w K mg base (A.under (.builtin "type.__call__" ⟨.ref C :: us, kw⟩)) outer s H := ⟨by first | exact e.frames | (simpa [Around.under, Code.envs, Code.isFrame, pushEnvs] using e.frames), e.mod, e.bs, e.bsz, e.funs, e.frf, e.hok, e.bare⟩
theorem Env0.in1 {P : Program} {w : World} {K : PySem.W.Frag} {mg : Str → Option Value} {base : Heap} {A : Around} {outer : List Env} {s : Shared} {H : Hp} (e : Env0 P w K mg base A outer s H) :
    Env0 P w K mg base A.in1 outer s H := ⟨e.frames, e.mod, e.bs, e.bsz, e.funs, e.frf, e.hok, e.bare⟩
section
variable {X : Cx} {pins : List (Addr × Obj)} {σ : St} {H : Hp} {s s' : Shared}
theorem Inv.env0 (I : Inv X pins σ H s) : Env0 X.prog X.w X.K X.mg X.base X.A X.stack s H :=
  ⟨I.ok.frames, I.ok.mod, I.bs, Nat.le_trans I.ok.bsz I.sz, I.stack, I.stkFree, I.hok, I.bare⟩
theorem Inv.after {Q : VK} {u : Value} (I : Inv X pins σ H s) (h : CE X.stack X.prog X.w H s Q u s') : EP X pins σ Q u s' := by
  obtain ⟨v, H', os, bare, un, hok, r, q⟩ := h
  obtain ⟨hh, g, d, t, os'⟩ := s'
  obtain rfl : os' = s.os := os
  exact ⟨v, H', I.call (h' := hh) (g' := g) (d' := d) (t' := t) (ch := []) un hok bare (fun b z => absurd z (by simp)), r, q⟩
end
def Binds (K : PySem.W.Frag) (fd : FuncData) (ps : List Str) (ds : List Value) : Prop :=
  ∀ (s : Shared) (us : List Value), K.In s.heap → (us ++ ds).length = ps.length → BindsTo s fd ⟨us, []⟩ (ps.zip (us ++ ds))
theorem Binds.all {K : PySem.W.Frag} {fd : FuncData} {ps : List Str} (h : ∀ us : List Value, us.length = ps.length → bindArgs fd ⟨us, []⟩ = pure (ps.zip us)) : Binds K fd ps [] := fun s us _ hl => by
  rw [List.append_nil] at hl ⊢
  exact .of_eq (h us hl)
section
variable {X : Cx} {CX : CXT} {k : Nat} {f C : Addr} {fd : FuncData} {ps : List Str} {sp : Sp} {dvs : List V} {ds : List Value} {E : XK} {x m : Str} {p pos apos : Pos} {e o : Expr} {es : List Expr} {ta : TE} {t : TA}
structure Mk (K : PySem.W.Frag) (C f : Addr) : Prop where
  makes : PySem.W.makesIn K C = true
  init : PySem.W.findIn K (.ref C) "__init__" = some (some (.ref f))
  fn : PySem.W.isFn K (.ref f) = true
  kp : PySem.W.keepIn K (.ref C) = true
end
section
variable {X : Cx} {CX : CXT} {k : Nat} {f C : Addr} {fd : FuncData} {ps ks : List Str} {sp : Sp} {E : XK} {x m : Str} {p pos apos kpos : Pos} {e o : Expr} {es : List Expr} {kws : List Keyword} {te ta : TE} {t tk : TA} {nm : Option Str}
variable {g : List Value → List Value → List Value} {gV : List V → List V → List V}
end
structure FnScope (N P : List Str) (sc : Scope) : Prop where
  kind : sc.kind = .function
  co : sc.isCoroutine = false
  gen : sc.isGenerator = false
  nd : N.Nodup
  pre : N.take P.length = P
  par : ∀ x ∈ P, sc.names.lookup x = some .local ∨ sc.names.lookup x = some .cell
  nofree : ∀ y ∈ sc.names, y.2 ≠ .free
theorem bindL_out {kindOf : Str → Option NameKind} {x : Str} : ∀ {binds : List (Str × Value)} {m : Str → Option Value}, (∀ v, (x, v) ∉ binds) → bindL kindOf binds m x = m x
  | [], _, _ => rfl
  | (n, v) :: r, m, h => by
    unfold bindL
    rw [bindL_out fun w hw => h w (List.mem_cons_of_mem _ hw)]
    split
    · have : x ≠ n := by rintro rfl; exact h v List.mem_cons_self
      simp [this]
    · rfl
theorem bindC_out {kindOf : Str → Option NameKind} {x : Str} : ∀ {binds : List (Str × Value)} {m : Str → Option Value}, (∀ v, (x, v) ∉ binds) → bindC kindOf binds m x = m x
  | [], _, _ => rfl
  | (n, v) :: r, m, h => by
    unfold bindC
    rw [bindC_out fun w hw => h w (List.mem_cons_of_mem _ hw)]
    split
    · rfl
    · have : x ≠ n := by rintro rfl; exact h v List.mem_cons_self
      simp [this]
theorem bindL_get {kindOf : Str → Option NameKind} {x : Str} {v : Value} : ∀ {P : List Str} {vs : List Value} {i : Nat} {m : Str → Option Value}, P.Nodup → P[i]? = some x → vs[i]? = some v → kindOf x = some .local →
    bindL kindOf (P.zip vs) m x = some v
  | [], _, _, _, _, h, _, _ => by simp at h
  | _ :: _, [], _, _, _, _, h, _ => by simp at h
  | p :: P, w :: vs, 0, m, nd, h1, h2, hk => by
    simp at h1 h2; subst h1; subst h2
    show bindL kindOf ((p, w) :: P.zip vs) m p = _
    unfold bindL
    rw [bindL_out fun v hv => (List.nodup_cons.mp nd).1 (List.of_mem_zip hv).1, if_pos hk]
    simp
  | p :: P, w :: vs, i + 1, m, nd, h1, h2, hk => by
    show bindL kindOf ((p, w) :: P.zip vs) m x = _
    unfold bindL
    exact bindL_get (i := i) (List.nodup_cons.mp nd).2 (by simpa using h1) (by simpa using h2) hk
theorem bindC_get {kindOf : Str → Option NameKind} {x : Str} {v : Value} : ∀ {P : List Str} {vs : List Value} {i : Nat} {m : Str → Option Value}, P.Nodup → P[i]? = some x → vs[i]? = some v → kindOf x ≠ some .local →
    bindC kindOf (P.zip vs) m x = some v
  | [], _, _, _, _, h, _, _ => by simp at h
  | _ :: _, [], _, _, _, _, h, _ => by simp at h
  | p :: P, w :: vs, 0, m, nd, h1, h2, hk => by
    simp at h1 h2; subst h1; subst h2
    show bindC kindOf ((p, w) :: P.zip vs) m p = _
    unfold bindC
    rw [bindC_out fun v hv => (List.nodup_cons.mp nd).1 (List.of_mem_zip hv).1, if_neg hk]
    simp
  | p :: P, w :: vs, i + 1, m, nd, h1, h2, hk => by
    show bindC kindOf ((p, w) :: P.zip vs) m x = _
    unfold bindC
    exact bindC_get (i := i) (List.nodup_cons.mp nd).2 (by simpa using h1) (by simpa using h2) hk
def start (N : List Str) (vs : List V) : St := vs.map some ++ List.replicate (N.length - vs.length) none
def cxOf (CX : CXT) (P : Program) (w : World) (K : PySem.W.Frag) (mg : Str → Option Value) (base : Heap) (N : List Str) (qual : Str) (scope : Scope) (f : Addr) (cd : Value) (A : Around) (outer : List Env) (s : Shared) (H : Hp) (E : XK) : Cx where
  prog := P
  w := w
  K := K
  mg := mg
  base := base
  A := A.deeper (envOfC qual scope s.heap.objs.size f cd)
  N := N
  s₀ := s
  H₀ := H
  env := envOfC qual scope s.heap.objs.size f cd
  outer := outer
  stack := envOfC qual scope s.heap.objs.size f cd :: outer
  ex := []
  calm := true
  fn := fun _ => true
  pn := []
  xe := fun e s' => wpAny (model P w) (A.deeper (envOfC qual scope s.heap.objs.size f cd)) (leaving (envOfC qual scope s.heap.objs.size f cd) e) (fun _ s'' => CX outer H s E e s'') (fun e' s'' => CX outer H s E e' s'') s'
theorem cell_has {sc : Scope} {n : Nat} {x : Str} (h : sc.names.lookup x = some .cell) : ∃ c, (cellsFrom n sc.names []).lookup x = some c := by
  have q := PySem.W.cellsFrom_some sc.names n [] (.inl h)
  exact Option.isSome_iff_exists.mp q
theorem inv_start {CX : CXT} {P : Program} {w : World} {K : PySem.W.Frag} {mg : Str → Option Value} {base : Heap} {N ps : List Str} {qual : Str} {scope : Scope} {f : Addr} {cd : Value} {A : Around} {outer : List Env} {s s1 : Shared} {H : Hp} {E : XK} {us : List Value} {vs : List V}
    (S : FnScope N ps scope) (hd : A.handled = none) (e0 : Env0 P w K mg base A outer s H) (hl : vs.length = ps.length) (r : Vals vs us)
    (x : InCallC s s.heap.objs.size (bindL (envOfC qual scope s.heap.objs.size f cd).kindOf (ps.zip us) fun _ => none) (cellsFrom (s.heap.objs.size + 1) scope.names []) (bindC (envOfC qual scope s.heap.objs.size f cd).kindOf (ps.zip us) fun _ => none) s1) :
    Inv (cxOf CX P w K mg base N qual scope f cd A outer s H E) [] (start N vs) H s1 := by
  have hpl : ps.length ≤ N.length := by have := congrArg List.length S.pre; rw [List.length_take] at this; omega
  obtain ⟨h1, tk, rfl, hk⟩ := x.done
  have noA : ∀ b : Addr, b ∉ (cxOf CX P w K mg base N qual scope f cd A outer s H E).ex := fun b z => absurd (show b ∈ ([] : List Addr) from z) (by simp)
  refine ⟨⟨e0.mod, S.kind, rfl, rfl, Nat.le_refl _, fun y z c h1 h2 => ?_, fun y hy => ?_, fun y c _ h => ?_, fun _ => hd, Around.frames_deeper e0.frames, .inr ⟨rfl, rfl⟩, fun b z => absurd z (noA b), e0.bs, e0.bsz, fun b _ _ => noA b, fun b z => absurd z (noA b), e0.funs, e0.frf⟩,
    rfl, e0.bare, Un.kept hk, ⟨_, x.toInCall.ns, fun i y v h1 h2 h3 => ?_⟩, fun y c h => ⟨_, x.cell y c h⟩, e0.hok.fresh (Nat.le_refl _), fun y c h => ?_, fun p hp => absurd (show p ∈ ([] : List (Addr × Obj)) from hp) (by simp), e0.hok.kept hk, ?_⟩
  · exact name_of_addr x.apart (PySem.mem_of_lookup h1) (PySem.mem_of_lookup h2)
  · have hy : scope.names.lookup y = some .cell ∨ scope.names.lookup y = some .free := hy
    rcases hy with hy | hy
    · exact cell_has hy
    · exact absurd rfl (S.nofree _ (PySem.mem_of_lookup hy))
  · exact Nat.le_of_lt (x.above y c (PySem.mem_of_lookup h))
  · have hi : i < vs.length := by
      unfold start at h2
      by_cases hi : i < vs.length
      · exact hi
      · rw [List.getElem?_append_right (by simpa using hi)] at h2
        rw [List.getElem?_replicate] at h2
        split at h2 <;> cases h2
    have ha : vs[i]? = some v := by
      unfold start at h2
      rw [List.getElem?_append_left (by simpa using hi), List.getElem?_map] at h2
      cases e : vs[i]? with
      | none => rw [e] at h2; cases h2
      | some a => rw [e] at h2; cases h2; rfl
    obtain ⟨u, hu, rv⟩ := r.get ha
    have hp : ps[i]? = some y := by
      rw [← S.pre, List.getElem?_take_of_lt (by omega)]; exact h1
    have ndP : ps.Nodup := by rw [← S.pre]; exact S.nd.sublist (List.take_sublist _ _)
    refine ⟨u, rv, ?_⟩
    rcases S.par y (List.mem_of_getElem? hp) with k | k
    · exact .inl ⟨k, bindL_get ndP hp hu k⟩
    · obtain ⟨c, e⟩ := cell_has (n := s.heap.objs.size + 1) k
      refine .inr ⟨.inl k, c, e, ?_⟩
      have q := x.cell y c e
      rw [bindC_get ndP hp hu (by show scope.names.lookup y ≠ _; rw [k]; decide)] at q
      exact q
  · exact e0.hok.fresh (Nat.le_of_lt (x.above y c (PySem.mem_of_lookup h)))
  · unfold start
    show _ = N.length
    rw [List.length_append, List.length_map, List.length_replicate]
    omega
theorem fn_of {CX : CXT} {P : Program} {w : World} {K : PySem.W.Frag} {mg : Str → Option Value} {base : Heap} {k : Nat} {f : Addr} {name qual : Str} {params : Arguments} {body : List Stmt} {scope : Scope} {dV kV doc pm cdv ct oc : Value} {an od : Option Addr}
    {osl : Array (Option Value)} {N ps : List Str} {sp : Sp} (lk : K.lookup f = some ⟨oc, od, .func (PySem.W.fnOf name qual params body scope dV kV doc pm an cdv ct), osl⟩) (hcd : PySem.W.codeIn K cdv qual = true) (S : FnScope N ps scope)
    (len : ∀ vs H Q E, sp vs H Q E → vs.length = ps.length)
    (hbody : ∀ (A : Around) (outer : List Env) (s : Shared) (H : Hp) (vs : List V) (Q : VK) (E : XK), Room k (A.deeper (envOfC qual scope s.heap.objs.size f cdv)) → sp vs H Q E →
      ∃ t, PSs (cxOf CX P w K mg base N qual scope f cdv A outer s H E) body t ∧ t { nx := fun _ H' => Q .non H', rt := Q } (start N vs) H) :
    FnOk P w K mg base CX (k + 1) f (PySem.W.fnOf name qual params body scope dV kV doc pm an cdv ct) ps sp := by
  refine ⟨len, fun A outer s H args us vs Q E hr e0 hb r hsp => ?_⟩
  have hl := len _ _ _ _ hsp
  have KX : K.In s.heap := e0.mod.kin.keeps fun b o e => (e0.bs b o e).1
  have lim : s.heap.NoLimit := e0.mod.nolimit.keeps fun b o e => (e0.bs b o e).1
  have hkind : ∀ y ∈ ps.zip us, scope.names.lookup y.1 = some .local ∨ (scope.names.lookup y.1 = some .cell ∧ ((cellsFrom (s.heap.objs.size + 1) scope.names []).lookup y.1).isSome = true) := fun ⟨n, v⟩ hy => by
    rcases S.par n (List.of_mem_zip hy).1 with q | q
    · exact .inl q
    · exact .inr ⟨q, PySem.W.cellsFrom_some _ _ _ (.inl q)⟩
  refine codeAny_call_function hr.depth (KX _ _ lk) rfl S.co S.gen rfl (PySem.W.codeRec_of KX hcd) (hb _ _ _ _ ?_)
  refine wpAny_newFunctionEnv_cells S.kind hkind fun env he s1 x => ?_
  subst he
  refine ⟨lim.keeps x.toInCall.keep, codeAny_func ?_⟩
  obtain ⟨t, ht, hq⟩ := hbody A outer s H vs Q E (hr.deeper _) hsp
  have I : Inv (cxOf CX P w K mg base N qual scope f cdv A outer s H E) [] (start N vs) H s1 := inv_start S hr.hd e0 hl r x
  refine wpAny_mono (ht [] s1 (start N vs) H _ I hq) (fun fl s' hs => ?_) fun e s' hs => hs
  have fin : ∀ {σ' : St} {H' : Hp} {v : V} {u : Value}, Inv (cxOf CX P w K mg base N qual scope f cdv A outer s H E) [] σ' H' s' → RelV v u → Q v H' → CE outer P w H s Q u s' :=
    fun {σ' H' v u} J rv q => ⟨v, H', J.os, J.bare, J.base, J.hok, rv, q⟩
  cases fl with
  | ret u =>
    obtain ⟨v, σ', H', J, rv, q⟩ := hs
    exact fin J rv q
  | next =>
    obtain ⟨σ', H', J, q⟩ := hs
    exact fin (v := V.non) (u := Value.none) J rfl q
  | brk =>
    obtain ⟨_, _, _, q⟩ := hs
    exact False.elim q
  | cont =>
    obtain ⟨_, _, _, q⟩ := hs
    exact False.elim q
end L2
namespace L2
open PySem PySem.Spec PyProof.Rows
section
variable {X : Cx} {x : Str} {p pos : Pos} {e : Expr} {es : List Expr} {t : TA} {id T : String} {r : List V → Hp → VK → Prop}
def tCB (r : List V → Hp → VK → Prop) (t : TA) : TE := fun σ H Q => t σ H fun vs H1 => r vs H1 Q
theorem pe_callB (hc : CallR X (.builtin id) r) (hg : Gl X x) (hm : X.mg x = none) (hv : bootBuiltins x = some (.builtin id)) (ha : PA X (e :: es) t) (hn : x ≠ "__name__" := by decide) (hdb : (x == ("__debug__" : Str)) = false := by decide)
    (he : starEach (e :: es) X.env = (false, eval e X.env) :: starEach es X.env := by rfl) (hpl : (backTo pos (starEach es X.env)).any (·.1) = false := by rfl) : PE X (.Call (.Name x p) (e :: es) [] pos) (tCB r t) := by
  intro pins s σ H Q I h
  refine wpAny_Call_Name_kw (ld_blt I hg hm hv ?_ hn hdb)
  exact PyProof.Rows.callWith_builtin1 (thn (ha pos pins s σ H _ I h) fun us s1 ⟨vs, H1, I1, r1, q1⟩ => hc pins s1 σ H1 vs us Q I1 r1 q1) he hpl
theorem pe_callTy (hc : CallR X (.type T) r) (hg : Gl X x) (hm : X.mg x = none) (hv : bootBuiltins x = some (.type T)) (ha : PA X (e :: es) t) (hn : x ≠ "__name__" := by decide) (hdb : (x == ("__debug__" : Str)) = false := by decide)
    (he : starEach (e :: es) X.env = (false, eval e X.env) :: starEach es X.env := by rfl) (hpl : (backTo pos (starEach es X.env)).any (·.1) = false := by rfl) : PE X (.Call (.Name x p) (e :: es) [] pos) (tCB r t) := by
  intro pins s σ H Q I h
  refine wpAny_Call_Name_kw (ld_blt I hg hm hv ?_ hn hdb)
  exact PyProof.Rows.callWith_type1 (thn (ha pos pins s σ H _ I h) fun us s1 ⟨vs, H1, I1, r1, q1⟩ => hc pins s1 σ H1 vs us Q I1 r1 q1) he hpl
end
end L2
namespace HT
open PySem PyProof.Rows
section
open PySem.SeqAt
open PySem.AutoSeq1 (wpAny_loadPart')
open PySem.MeetsSeq PySem.MeetsSeq2 PySem.MeetsSeq3
end
section
variable {prog : Program} {w : World} {A : Around} {E : Value → Shared → Prop} {s : Shared}
def sIx (n d : Nat) : Option Int → Nat
  | none => d
  | some v => if v < 0 then (v + (n : Int)).toNat else min v.toNat n
theorem sIx_none (n d : Nat) : sIx n d none = d := rfl
theorem sIx_nat (n d k : Nat) : sIx n d (some (k : Int)) = min k n := by
  show (if (k : Int) < 0 then ((k : Int) + (n : Int)).toNat else min (k : Int).toNat n) = min k n
  rw [if_neg (by omega), Int.toNat_natCast]
end
end HT
namespace L2
open PySem PySem.Spec PyProof.Rows
abbrev TO := St → Hp → (Option Int → Hp → Prop) → Prop
def PO (X : Cx) (e : Option Expr) (t : TO) : Prop :=
  ∀ (pins : List (Addr × Obj)) (s : Shared) (σ : St) (H : Hp) (Q : Option Int → Hp → Prop), Inv X pins σ H s → t σ H Q →
    wpAny (model X.prog X.w) X.A (evalPart e X.env) (fun u s' => ∃ o H', Inv X pins σ H' s' ∧ IsPart u o ∧ Q o H') X.xe s
def tNoPart : TO := fun _ H Q => Q none H
def tPart (t : TE) : TO := fun σ H Q => t σ H fun x H1 => ∃ i, x = .int i ∧ Q (some i) H1
section
variable {X : Cx} {e : Expr} {te : TE} {lo hi : Option Expr} {tl th : TO} {pos p2 : Pos}
theorem po_none : PO X none tNoPart := by
  intro pins s σ H Q I h
  rw [evalPart_none]
  exact wpAny_pure ⟨none, H, I, .none, h⟩
theorem po_some (h : PE X e te) : PO X (some e) (tPart te) := by
  intro pins s σ H Q I hw
  rw [evalPart_some]
  refine thn (h pins s σ H _ I hw) fun u s1 ⟨x, H1, I1, r1, q1⟩ => ?_
  obtain ⟨i, rfl, q⟩ := q1
  obtain ⟨t, rfl⟩ := r1
  exact ⟨some i, H1, I1, .int i t, q⟩
def SlR (X : Cx) (r : V → Option Int → Option Int → Hp → VK → Prop) : Prop :=
  ∀ (pins : List (Addr × Obj)) (s : Shared) (σ : St) (H : Hp) (x : V) (v vl vu : Value) (lo hi : Option Int) (sl : Addr) (Q : VK), Inv X pins σ H s → RelV x v → s.heap.IsSliceOf sl vl vu .none → IsPart vl lo → IsPart vu hi → r x lo hi H Q →
    ∃ T id, typeLookup (.type T) "__getitem__" = pure (some (.builtin id)) ∧ s.TypeIs v T ∧ wpAny (model X.prog X.w) X.A (getItem v (.ref sl)) (EP X pins σ Q) X.xe s
theorem SlR.or {r r' : V → Option Int → Option Int → Hp → VK → Prop} (h : SlR X r) (h' : SlR X r') : SlR X (fun x lo hi H Q => r x lo hi H Q ∨ r' x lo hi H Q) := by
  intro pins s σ H x v vl vu lo hi sl Q I rx hs pl pu q
  rcases q with q | q
  · exact h pins s σ H x v vl vu lo hi sl Q I rx hs pl pu q
  · exact h' pins s σ H x v vl vu lo hi sl Q I rx hs pl pu q
def tSl (r : V → Option Int → Option Int → Hp → VK → Prop) (te : TE) (tl th : TO) : TE := fun σ H Q => te σ H fun x H1 => tl σ H1 fun l H2 => th σ H2 fun u H3 => r x l u H3 Q
theorem pe_slice {r : V → Option Int → Option Int → Hp → VK → Prop} (hr : SlR X r) (he : PE X e te) (hl : PO X lo tl) (hu : PO X hi th) : PE X (.Subscript e (.Slice lo hi none p2) pos) (tSl r te tl th) := by
  intro pins s σ H Q I h
  refine Subscript_ (thn (he pins s σ H _ I h) fun v s1 ⟨x, H1, I1, r1, q1⟩ => ?_)
  refine wpAny_Slice (thn (hl pins s1 σ H1 _ I1 q1) fun vl s2 ⟨l, H2, I2, pl, q2⟩ => thn (hu pins s2 σ H2 _ I2 q2) fun vu s3 ⟨u, H3, I3, pu, q3⟩ => ?_)
  rw [evalPart_none]
  refine wpAny_pure ?_
  have I4 : Inv X pins σ H3 { s3 with heap := s3.heap.push { cls := .type "slice", data := .fields #[vl, vu, .none] } } := I3.kept (t' := s3.toks) fun b ob q => Heap.get?_push_of_some _ q
  obtain ⟨T, id, hT, ht, hg⟩ := hr pins { s3 with heap := s3.heap.push { cls := .type "slice", data := .fields #[vl, vu, .none] } } σ H3 x v vl vu l u s3.heap.objs.size Q I4 r1 (Heap.IsSliceOf.new ..) pl pu q3
  show wpAny (model X.prog X.w) X.A (subscriptTail e (.Slice lo hi none p2) v (.ref s3.heap.objs.size)) (EP X pins σ Q) X.xe { s3 with heap := s3.heap.push { cls := .type "slice", data := .fields #[vl, vu, .none] } }
  exact tail_any (ops := [.ref s3.heap.objs.size, v]) ht hT hg (by with_unfolding_all rfl)
def cutV (xs : List V) (lo hi : Option Int) : List V := (xs.drop (HT.sIx xs.length 0 lo)).take (HT.sIx xs.length xs.length hi - HT.sIx xs.length 0 lo)
theorem cutV_length (xs : List V) (lo hi : Option Int) : (cutV xs lo hi).length ≤ xs.length := by
  unfold cutV
  rw [List.length_take, List.length_drop]
  omega
end
end L2
namespace L2
open PySem PySem.Spec PyProof.Rows
def ixN (n : Nat) (i : Int) : Option Nat := if 0 ≤ i then (if i < n then some i.toNat else none) else if -(n : Int) ≤ i then some (i + n).toNat else none
def atI {α : Type} (xs : List α) (i : Int) : Option α := (ixN xs.length i).bind fun j => xs[j]?
theorem ixN_seq {n : Nat} {i : Int} {j : Nat} (h : ixN n i = some j) : seqIndex? i n = some j ∧ j < n ∧ -(n : Int) ≤ i ∧ i < n := by
  unfold ixN at h
  by_cases h0 : 0 ≤ i
  · rw [if_pos h0] at h
    by_cases h1 : i < n
    · rw [if_pos h1] at h
      have e : i.toNat = j := Option.some.inj h
      exact ⟨by rw [seqIndex_of h0 h1, e], by omega, by omega, h1⟩
    · rw [if_neg h1] at h; cases h
  · rw [if_neg h0] at h
    by_cases h1 : -(n : Int) ≤ i
    · rw [if_pos h1] at h
      have e : (i + n).toNat = j := Option.some.inj h
      exact ⟨by rw [seqIndex_neg (by omega) h1, e], by omega, h1, by omega⟩
    · rw [if_neg h1] at h; cases h
theorem atI_get {α : Type} {xs : List α} {i : Int} {v : α} (h : atI xs i = some v) : ∃ j, seqIndex? i xs.length = some j ∧ xs[j]? = some v ∧ j < xs.length ∧ -(xs.length : Int) ≤ i ∧ i < xs.length := by
  unfold atI at h
  cases e : ixN xs.length i with
  | none => rw [e] at h; cases h
  | some j =>
    rw [e] at h
    obtain ⟨h1, h2, h3, h4⟩ := ixN_seq e
    exact ⟨j, h1, h, h2, h3, h4⟩
theorem atI_nat {α : Type} {xs : List α} {j : Nat} {v : α} (h : xs[j]? = some v) : atI xs (j : Int) = some v := by
  have hj : j < xs.length := (List.getElem?_eq_some_iff.mp h).1
  have e : ixN xs.length (j : Int) = some j := by
    unfold ixN
    rw [if_pos (by omega), if_pos (by omega)]; simp
  unfold atI; rw [e]; exact h
theorem atI_last {α : Type} (xs : List α) (v : α) : atI (xs ++ [v]) (-1) = some v := by
  have hl : (xs ++ [v]).length = xs.length + 1 := by simp
  have e : ixN (xs ++ [v]).length (-1) = some xs.length := by
    unfold ixN
    rw [hl, if_neg (by decide), if_pos (by omega)]
    congr 1
    omega
  unfold atI
  rw [e]
  show (xs ++ [v])[xs.length]? = some v
  simp
def PlainIx (b : Expr) : Prop := ∀ o i, subscripted b false o i = operate [o, i] (getItem o i)
def IxR (X : Cx) (r : R2) : Prop :=
  ∀ (value slice : Expr) (pins : List (Addr × Obj)) (s : Shared) (σ : St) (H : Hp) (x y : V) (v u : Value) (Q : VK), Inv X pins σ H s → RelV x v → RelV y u → r x y H Q →
    subscripted slice false v u = operate [v, u] (getItem v u) → wpAny (model X.prog X.w) X.A (subscriptTail value slice v u) (EP X pins σ Q) X.xe s
def MtR (X : Cx) (id : String) (r : V → List V → Hp → VK → Prop) : Prop :=
  ∀ (pins : List (Addr × Obj)) (s : Shared) (σ : St) (H : Hp) (x : V) (xs : List V) (v : Value) (us : List Value) (Q : VK), Inv X pins σ H s → RelV x v → Vals xs us → r x xs H Q →
    wpAny (model X.prog X.w) X.A (call (.builtin id) (v :: us)) (EP X pins σ Q) X.xe s
section
variable {X : Cx} {a b : Expr} {ta tb : TE} {pos : Pos}
theorem IxR.or {r r' : R2} (h : IxR X r) (h' : IxR X r') : IxR X (fun x y H Q => r x y H Q ∨ r' x y H Q) := by
  intro value slice pins s σ H x y v u Q I rx ry q hs
  rcases q with q | q
  · exact h value slice pins s σ H x y v u Q I rx ry q hs
  · exact h' value slice pins s σ H x y v u Q I rx ry q hs
theorem MtR.or {id : String} {r r' : V → List V → Hp → VK → Prop} (h : MtR X id r) (h' : MtR X id r') : MtR X id (fun x xs H Q => r x xs H Q ∨ r' x xs H Q) := by
  intro pins s σ H x xs v us Q I rx rs q
  rcases q with q | q
  · exact h pins s σ H x xs v us Q I rx rs q
  · exact h' pins s σ H x xs v us Q I rx rs q
theorem pe_ix {r : R2} (hr : IxR X r) (ha : PE X a ta) (hb : PE X b tb) (hs : PlainIx b) : PE X (.Subscript a b pos) (tOp r ta tb) := by
  intro pins s σ H Q I h
  exact Subscript_ (binT ha hb I h fun v u s2 x y H2 I2 rx ry q => hr a b pins s2 σ H2 x y v u Q I2 rx ry q (hs _ _))
def rIxL (K : PySem.W.Frag) : R2 := fun x y H Q => ∃ p xs i v, x = .ref p ∧ y = .int i ∧ SqL K H p xs ∧ atI xs i = some v ∧ Q v H
def rIxT (K : PySem.W.Frag) : R2 := fun x y H Q => ∃ p xs i v, x = .ref p ∧ y = .int i ∧ SqT K H p xs ∧ atI xs i = some v ∧ Q v H
def rIxS : R2 := fun x y H Q => ∃ z i c, x = .str z ∧ y = .int i ∧ z.length ≤ sizeLine ∧ atI z.cps.toList i = some c ∧ Q (.str ⟨#[c]⟩) H
theorem ix_list : IxR X (rIxL X.K) := by
  intro value slice pins s σ H x y v u Q I rx ry h hs
  obtain ⟨p, xs, i, z, rfl, rfl, hq, he, q⟩ := h
  cases rx
  obtain ⟨t, rfl⟩ := ry
  obtain ⟨its, r, pl, hz⟩ := I.list hq
  obtain ⟨j, h1, h2, h3, h4, h5⟩ := atI_get he
  obtain ⟨w, ew, rw'⟩ := r.get h2
  have hl := r.length
  have hn := line63
  have fin : EP X pins σ Q w s := ⟨z, H, I, rw', q⟩
  by_cases h0 : 0 ≤ i
  · have hj : i.toNat = j := by
      rw [seqIndex_of h0 h5] at h1
      exact Option.some.inj h1
    exact item_listR pl.isList h0 (by omega) (by rw [hj]; simpa using ew) fin hs
  · have hj : (i + (its.toArray.size : Int)).toNat = j := by
      rw [seqIndex_neg (by omega) h4] at h1
      rw [List.size_toArray, ← hl]
      exact Option.some.inj h1
    exact subscriptTail_builtinR (x := w) pl.isList.typeIs slot_list_getitem.lookup
      (wpAny_getItem_list_neg (Q := fun r s' => r = w ∧ EP X pins σ Q r s') pl.isList (by omega) (by rw [List.size_toArray] <;> omega) (by omega) (by rw [hj]; simpa using ew) ⟨rfl, fin⟩) hs
theorem ix_tup : IxR X (rIxT X.K) := by
  intro value slice pins s σ H x y v u Q I rx ry h hs
  obtain ⟨p, xs, i, z, rfl, rfl, hq, he, q⟩ := h
  cases rx
  obtain ⟨t, rfl⟩ := ry
  obtain ⟨its, r, pl, hz⟩ := I.tuple hq
  obtain ⟨j, h1, h2, h3, h4, h5⟩ := atI_get he
  obtain ⟨w, ew, rw'⟩ := r.get h2
  have hl := r.length
  have hn := line63
  have fin : EP X pins σ Q w s := ⟨z, H, I, rw', q⟩
  exact subscriptTail_builtinR (x := w) pl.typeIs slot_tuple_getitem.lookup
    (getItem_tuple (j := j) (Q := fun r s' => r = w ∧ EP X pins σ Q r s') pl (by omega) (by omega) (by rw [List.size_toArray, ← hl]; exact h1) (by simpa using ew) ⟨rfl, fin⟩) hs
theorem ix_str : IxR X rIxS := by
  intro value slice pins s σ H x y v u Q I rx ry h hs
  obtain ⟨z, i, c, rfl, rfl, hz, he, q⟩ := h
  obtain ⟨t, rfl⟩ := rx
  obtain ⟨t', rfl⟩ := ry
  obtain ⟨j, h1, h2, h3, h4, h5⟩ := atI_get he
  have hl : z.cps.toList.length = z.length := by simp [Str.length]
  rw [hl] at h1 h4 h5
  have hn := line63
  exact tail_any (typeIs_str s z t) slot_str_getitem.lookup (getItem_str (c := c) (by
    have e1 : decide (i < -(2 ^ 63 : Int)) = false := decide_eq_false (by omega)
    have e2 : decide (i ≥ 2 ^ 63) = false := decide_eq_false (by omega)
    rw [e1, e2, Bool.or_false]) (by rw [h1]; simpa using h2) ⟨.str ⟨#[c]⟩, H, I.tok _, ⟨_, rfl⟩, q⟩) hs
def rIx (K : PySem.W.Frag) : R2 := fun x y H Q => rIxL K x y H Q ∨ rIxT K x y H Q ∨ rIxS x y H Q
theorem ix_seq : IxR X (rIx X.K) := ix_list.or (ix_tup.or ix_str)
theorem mapSeq_set (its : List Value) (n j : Nat) (u : Value) : Obj.mapSeq (·.setIfInBounds j u) { cls := .type "list", data := .seq its.toArray n } = { cls := .type "list", data := .seq (its.set j u).toArray n } := by
  simp [Obj.mapSeq]
theorem Inv.lst {pins : List (Addr × Obj)} {σ : St} {H : Hp} {s : Shared} {p : Addr} {xs : List V} (I : Inv X pins σ H s) (h : H p = some (.lst xs)) :
    ∃ (its : List Value) (n : Nat), Vals xs its ∧ s.heap.get? p = some { cls := .type "list", data := .seq its.toArray n } ∧ xs.length ≤ sizeLine := by
  obtain ⟨z, its, n, r, e⟩ := I.hok p _ h
  exact ⟨its, n, r, e, z⟩
theorem Inv.lstUpd {pins : List (Addr × Obj)} {σ : St} {H : Hp} {s : Shared} {p : Addr} {xs ys : List V} {its its' : List Value} {n n' : Nat} {f : Obj → Obj} (I : Inv X pins σ H s) (h : H p = some (.lst xs))
    (ho : s.heap.get? p = some { cls := .type "list", data := .seq its.toArray n }) (hf : f { cls := .type "list", data := .seq its.toArray n } = { cls := .type "list", data := .seq its'.toArray n' }) (r : Vals ys its') (hz : ys.length ≤ sizeLine) (t : Nat) :
    Inv X pins σ (upd H p (.lst ys)) { s with heap := s.heap.update p f, toks := t } := by
  have e : (s.heap.update p f).get? p = some { cls := .type "list", data := .seq its'.toArray n' } := by
    rw [Heap.get?_update_self f ho (by rw [hf] <;> rfl), hf]
  refine I.write (x := p) (e := p) (by rw [h]; trivial) (.inl rfl) (fun b u hb q => (Heap.get?_update_other _ _ (Ne.symm hb)).trans q) ⟨_, e⟩ ?_
  exact ⟨hz, its', n', r, e⟩
def rSetL : V → V → V → Hp → (Hp → Prop) → Prop := fun o i v H Q => ∃ p xs k j, o = .ref p ∧ i = .int k ∧ H p = some (.lst xs) ∧ ixN xs.length k = some j ∧ Q (upd H p (.lst (xs.set j v)))
theorem set_list : PSet X rSetL := by
  intro pins s σ H o i v ov iv u Q I ro ri rv h
  obtain ⟨p, xs, k, j, rfl, rfl, hp, hj, q⟩ := h
  cases ro
  obtain ⟨t, rfl⟩ := ri
  obtain ⟨its, n, r, ho, hz⟩ := I.lst hp
  obtain ⟨h1, h2, h3, h4⟩ := ixN_seq hj
  have hl := r.length
  have hn := line63
  have I' : Inv X pins σ (upd H p (.lst (xs.set j v))) { s with heap := s.heap.update p (Obj.mapSeq (·.setIfInBounds j u)) } :=
    I.lstUpd hp ho (mapSeq_set its n j u) (r.set rv j) (by rw [List.length_set]; exact hz) s.toks
  by_cases h0 : 0 ≤ k
  · have hk : k.toNat = j := by
      rw [seqIndex_of h0 h4] at h1
      exact Option.some.inj h1
    exact PySem.W.ki_setAt ho h0 (by omega) (by rw [List.size_toArray, ← hl]; exact h4) (by rw [hk]; exact ⟨_, I', q⟩)
  · have hk : (k + (its.toArray.size : Int)).toNat = j := by
      rw [seqIndex_neg (by omega) h3] at h1
      rw [List.size_toArray, ← hl]
      exact Option.some.inj h1
    exact PySem.W.ki_setBack ho (by omega) (by rw [List.size_toArray, ← hl]; exact h3) (by omega) (by rw [hk]; exact ⟨_, I', q⟩)
theorem slice_bounds (lo hi : Option Int) (n : Nat) : (sliceBounds lo hi none n).1 = ((HT.sIx n 0 lo : Nat) : Int) ∧ (sliceBounds lo hi none n).2.1 = ((HT.sIx n n hi : Nat) : Int) ∧ (sliceBounds lo hi none n).2.2 = 1 := by
  refine ⟨?_, ?_, rfl⟩
  · cases lo with
    | none => simp [sliceBounds, HT.sIx]
    | some i =>
      simp only [sliceBounds, HT.sIx, Option.getD_none, show (1 : Int) > 0 by decide, if_true]
      by_cases h : i < 0
      · simp only [h, if_true] <;> omega
      · simp only [h, if_false] <;> omega
  · cases hi with
    | none => simp [sliceBounds, HT.sIx]
    | some i =>
      simp only [sliceBounds, HT.sIx, Option.getD_none, show (1 : Int) > 0 by decide, if_true]
      by_cases h : i < 0
      · simp only [h, if_true] <;> omega
      · simp only [h, if_false] <;> omega
theorem slicePick_cut (its : List Value) (lo hi : Option Int) : slicePick its.toArray lo hi none = ((its.drop (HT.sIx its.length 0 lo)).take (HT.sIx its.length its.length hi - HT.sIx its.length 0 lo)).toArray := by
  obtain ⟨h1, h2, h3⟩ := slice_bounds lo hi its.toArray.size
  unfold slicePick
  rw [h1, h2, h3]
  simp only [sliceRange_one, pick_run, List.size_toArray] <;> rfl
def rSlL (K : PySem.W.Frag) : V → Option Int → Option Int → Hp → VK → Prop := fun x lo hi H Q => ∃ a xs, x = .ref a ∧ SqL K H a xs ∧ ∀ p, H p = none → Q (.ref p) (upd H p (.lst (cutV xs lo hi)))
theorem sl_list : SlR X (rSlL X.K) := by
  intro pins s σ H x v vl vu lo hi sl Q I rx hs pl pu h
  obtain ⟨a, xs, rfl, hx, q⟩ := h
  cases rx
  obtain ⟨its, r, ht, hz⟩ := I.list hx
  have hlen := r.length
  refine ⟨"list", _, slot_list_getitem.lookup, ht.isList.typeIs, ?_⟩
  refine wpAny_getItem_list_slice ht.isList hs pl pu .none (by simp) ?_ (by rw [List.size_toArray] <;> omega)
  rw [slicePick_cut, ← hlen]
  refine ⟨.ref s.heap.objs.size, _, I.laid (t' := s.toks) (o := .lst (cutV xs lo hi)) (fun b ob q => Heap.get?_push_of_some _ q) (Nat.le_refl _) ?_, rfl, q _ (I.hok.fresh (Nat.le_refl _))⟩
  exact ⟨Nat.le_trans (cutV_length xs lo hi) hz, _, 0, (r.drop (HT.sIx xs.length 0 lo)).take (HT.sIx xs.length xs.length hi - HT.sIx xs.length 0 lo), Heap.get?_push_size _ rfl⟩
def flatV : V → Bool
  | .non => true
  | .bl _ => true
  | .int _ => true
  | .str _ => true
  | _ => false
def eqV : V → V → Bool
  | .non, .non => true
  | .bl a, .bl b => a == b
  | .bl a, .int b => (if a then 1 else 0) == b
  | .int a, .bl b => a == (if b then 1 else 0)
  | .int a, .int b => a == b
  | .str a, .str b => a == b
  | _, _ => false
theorem eqAt_V {A : Around} {s : Shared} {y x : V} {u v : Value} (ry : RelV y u) (rx : RelV x v) (fy : flatV y = true) (fx : flatV x = true) : SeqAt.EqAt A s u v (eqV y x) := by
  cases y with
  | non =>
    cases ry
    cases x with
    | non => cases rx; exact SeqAt.EqAt.same _
    | bl b => cases rx; exact SeqAt.EqAt.none_bool b
    | int b => obtain ⟨t, rfl⟩ := rx; exact SeqAt.EqAt.none_int b t
    | str b => obtain ⟨t, rfl⟩ := rx; exact SeqAt.EqAt.none_str b t
    | _ => exact absurd (show false = true from fx) Bool.false_ne_true
  | bl a =>
    cases ry
    cases x with
    | non => cases rx; exact SeqAt.EqAt.bool_none a
    | bl b => cases rx; exact SeqAt.EqAt.bool_bool a b
    | int b => obtain ⟨t, rfl⟩ := rx; exact SeqAt.EqAt.bool_int a b t
    | str b => obtain ⟨t, rfl⟩ := rx; exact SeqAt.EqAt.bool_str a b t
    | _ => exact absurd (show false = true from fx) Bool.false_ne_true
  | int a =>
    obtain ⟨t', rfl⟩ := ry
    cases x with
    | non => cases rx; exact SeqAt.EqAt.int_none a t'
    | bl b => cases rx; exact SeqAt.EqAt.int_bool a t' b
    | int b => obtain ⟨t, rfl⟩ := rx; exact SeqAt.EqAt.int_int a t' b t
    | str b => obtain ⟨t, rfl⟩ := rx; exact SeqAt.EqAt.int_str a t' b t
    | _ => exact absurd (show false = true from fx) Bool.false_ne_true
  | str a =>
    obtain ⟨t', rfl⟩ := ry
    cases x with
    | non => cases rx; exact SeqAt.EqAt.str_none a t'
    | bl b => cases rx; exact SeqAt.EqAt.str_bool a t' b
    | int b => obtain ⟨t, rfl⟩ := rx; exact SeqAt.EqAt.str_int a t' b t
    | str b => obtain ⟨t, rfl⟩ := rx; exact SeqAt.EqAt.str_str a t' b t
    | _ => exact absurd (show false = true from fx) Bool.false_ne_true
  | _ => exact absurd (show false = true from fy) Bool.false_ne_true
def eqU (x : V) (u : Value) : Bool := match u with
  | .none => eqV .non x
  | .bool b => eqV (.bl b) x
  | .int i _ => eqV (.int i) x
  | .str z _ => eqV (.str z) x
  | _ => false
theorem eqU_of {x y : V} {u : Value} (r : RelV y u) (f : flatV y = true) : eqU x u = eqV y x := by
  cases y with
  | non => cases r; rfl
  | bl b => cases r; rfl
  | int i => obtain ⟨t, rfl⟩ := r; rfl
  | str z => obtain ⟨t, rfl⟩ := r; rfl
  | _ => exact absurd (show false = true from f) Bool.false_ne_true
theorem any_eqU {x : V} : ∀ {xs : List V} {us : List Value}, Vals xs us → xs.all flatV = true → us.any (eqU x) = xs.any fun y => eqV y x
  | _, _, .nil, _ => rfl
  | y :: xs, u :: us, .cons r t, f => by
    rw [List.all_cons, Bool.and_eq_true] at f
    rw [List.any_cons, List.any_cons, eqU_of r f.1, any_eqU t f.2]
theorem mem_eqAt {A : Around} {s : Shared} {x : V} {v : Value} (rx : RelV x v) (fx : flatV x = true) : ∀ {xs : List V} {us : List Value}, Vals xs us → xs.all flatV = true → ∀ u ∈ us, SeqAt.EqAt A s u v (eqU x u)
  | _, _, .nil, _ => fun u hu => by cases hu
  | y :: xs, u :: us, .cons r t, f => fun u' hu => by
    rw [List.all_cons, Bool.and_eq_true] at f
    rcases List.mem_cons.mp hu with rfl | hu
    · rw [eqU_of r f.1]; exact eqAt_V r rx f.1 fx
    · exact mem_eqAt rx fx t f.2 u' hu
def inV (x : V) (xs : List V) : Bool := xs.any fun y => eqV y x
def rIn (K : PySem.W.Frag) (neg : Bool) : R2 := fun x y H Q => ∃ p xs, y = .ref p ∧ (SqL K H p xs ∨ SqT K H p xs) ∧ flatV x = true ∧ xs.all flatV = true ∧ Q (.bl (if neg then !inV x xs else inV x xs)) H
theorem op_notIn_seq : OpR X (compareOp .NotIn) (rIn X.K true) := by
  intro pins s σ H x y v u Q I rx ry h
  obtain ⟨p, xs, rfl, hq, fx, fs, q⟩ := h
  cases ry
  rcases hq with hq | hq
  · obtain ⟨its, r, pl, hz⟩ := I.list hq
    refine SeqAt.notIn_listAt (eqU x) pl.isList (fun w hw => mem_eqAt rx fx r fs w (by simpa using hw)) ⟨.bl _, H, I, rfl, ?_⟩
    rw [show its.toArray.any (eqU x) = its.any (eqU x) by simp, any_eqU r fs]
    exact q
  · obtain ⟨its, r, pl, hz⟩ := I.tuple hq
    refine SeqAt.notIn_tupleAt (eqU x) pl (fun w hw => mem_eqAt rx fx r fs w (by simpa using hw)) ⟨.bl _, H, I, rfl, ?_⟩
    rw [show its.toArray.any (eqU x) = its.any (eqU x) by simp, any_eqU r fs]
    exact q
theorem CallR.or {f : Value} {r r' : List V → Hp → VK → Prop} (h : CallR X f r) (h' : CallR X f r') : CallR X f (fun xs H Q => r xs H Q ∨ r' xs H Q) := by
  intro pins s σ H xs us Q I rs q
  rcases q with q | q
  · exact h pins s σ H xs us Q I rs q
  · exact h' pins s σ H xs us Q I rs q
def tyV (K : PySem.W.Frag) (T : String) (x : V) (H : Hp) : Prop := match x with
  | .str _ => T = "str"
  | .int _ => T = "int"
  | .ref p => (T = "list" ∧ ∃ xs, SqL K H p xs) ∨ (T = "tuple" ∧ ∃ o, K.lookup p = some o ∧ o.cls = .type "tuple" ∧ o.dict = none) ∨
      (T = "dict" ∧ ((∃ kvs, H p = some (.dK kvs)) ∨ ∃ kvs, H p = some (.dT kvs))) ∨ (T = "set" ∧ ∃ S n, H p = some (.set S n))
  | _ => False
theorem tyV_is {pins : List (Addr × Obj)} {σ : St} {H : Hp} {s : Shared} {T : String} {x : V} {v : Value} (I : Inv X pins σ H s) (r : RelV x v) (ty : tyV X.K T x H) :
    s.TypeIs v T ∧ ∀ a, v = .ref a → ∃ ob, s.heap.get? a = some ob ∧ ob.dict = none := by
  cases x with
  | str z =>
    obtain ⟨t, rfl⟩ := r
    cases (show T = "str" from ty)
    exact ⟨typeIs_str s z t, fun _ e => nomatch e⟩
  | int i =>
    obtain ⟨t, rfl⟩ := r
    cases (show T = "int" from ty)
    exact ⟨typeIs_int s i t, fun _ e => nomatch e⟩
  | ref p =>
    cases r
    rcases ty with ⟨rfl, xs, hq⟩ | ⟨rfl, o, hk, hc, hd⟩ | ⟨rfl, hk⟩ | ⟨rfl, S, n, hk⟩
    · obtain ⟨its, _, pl, _⟩ := I.list hq
      refine ⟨pl.isList.typeIs, fun a e => ?_⟩
      cases e
      obtain ⟨o, n, e, c, hd, _⟩ := pl
      exact ⟨o, e, hd⟩
    · refine ⟨⟨o, I.kIn p o hk, hc⟩, fun a e => ?_⟩
      cases e
      exact ⟨o, I.kIn _ o hk, hd⟩
    · have z : ∃ o, s.heap.get? p = some o ∧ o.ExactDict := by
        rcases hk with ⟨kvs, hk⟩ | ⟨kvs, hk⟩
        · obtain ⟨_, _, _, _, o, _, _, e, ex, _⟩ := I.hok p _ hk
          exact ⟨o, e, ex⟩
        · obtain ⟨_, _, _, _, o, _, _, e, ex, _⟩ := I.hok p _ hk
          exact ⟨o, e, ex⟩
      obtain ⟨o, e, ex⟩ := z
      refine ⟨⟨o, e, ex.1⟩, fun a e2 => ?_⟩
      cases e2
      exact ⟨o, e, ex.2.1⟩
    · obtain ⟨o, _, _, _, e, ex, _⟩ := I.hok p _ hk
      refine ⟨⟨o, e, ex.1⟩, fun a e2 => ?_⟩
      cases e2
      exact ⟨o, e, ex.2.1⟩
  | _ => exact False.elim ty
def tBM (K : PySem.W.Frag) (T : String) (r : V → List V → Hp → VK → Prop) (to : TE) (t : TA) : TE := fun σ H Q => to σ H fun x H1 => tyV K T x H1 ∧ t σ H1 fun xs H2 => r x xs H2 Q
variable {o e : Expr} {es : List Expr} {to : TE} {t : TA} {name : Str} {apos cpos : Pos} {T id : String} {r : V → List V → Hp → VK → Prop}
theorem pe_bm (pa : PlainAttrs T) (slot : Slot T name id) (hty : typeOf (.builtin id) = pure (.type "method_descriptor")) (hm : MtR X id r) (ho : PE X o to) (ha : PA X (e :: es) t)
    (hbase : attributeBase o name X.env (eval o X.env) = eval o X.env := by rfl)
    (hfew : ((backTo cpos (starEach (e :: es) X.env)).all (fun x => !x.1) && (backToKw cpos (keywordEach [] X.env)).all (fun x => x.1.isSome)
      && decide ((e :: es).length + ([] : List Keyword).length + (if ([] : List Keyword).isEmpty then 0 else 1) < 30)) = true := by rfl)
    (hline : (apos.endLine == cpos.line) = true := by rfl) (hs : starEach (e :: es) X.env = (false, eval e X.env) :: starEach es X.env := by rfl) (hplain : (backTo cpos (starEach es X.env)).any (·.1) = false := by rfl) :
    PE X (.Call (.Attribute o name apos) (e :: es) [] cpos) (tBM X.K T r to t) := by
  intro pins s σ H Q I h
  refine wpAny_Call_method_late hbase hfew hline rfl (thn (ho pins s σ H _ I h) fun v s1 ⟨x, H1, I1, r1, ty, q1⟩ => ?_)
  obtain ⟨h1, h2⟩ := tyV_is I1 r1 ty
  refine ⟨T, id, pa, slot, hty, h1, h2, ?_⟩
  have hA := ha cpos pins s1 σ H1 _ I1 q1
  rw [hs] at hA ⊢
  refine Calls.callWith_builtin (by show (false || (backTo cpos (starEach es X.env)).any (·.1)) = false; rw [hplain] <;> rfl) (Calls.evalArgs_plain ?_)
  exact thn hA fun us s2 ⟨vs, H2, I2, r2, q2⟩ => hm pins s2 σ H2 x vs v us Q I2 r1 r2 q2
end
end L2
namespace L2
open PySem PySem.Spec PyProof.Rows
def MtM (X : Cx) (id : String) (r : V → List V → Hp → VK → Prop) : Prop :=
  ∀ (pins : List (Addr × Obj)) (s : Shared) (σ : St) (H : Hp) (x : V) (xs : List V) (v : Value) (us : List Value) (Q : VK), Inv X pins σ H s → RelV x v → Vals xs us → r x xs H Q →
    wpAny (model X.prog X.w) X.A (call (.builtin id) (v :: us)) (EP X pins σ Q) X.xe s
theorem Vals.one : ∀ {x : V} {us : List Value}, Vals [x] us → ∃ u, us = [u] ∧ RelV x u
  | _, _, .cons r .nil => ⟨_, rfl, r⟩
theorem Vals.zero : ∀ {us : List Value}, Vals [] us → us = []
  | _, .nil => rfl
section
variable {X : Cx} {pins : List (Addr × Obj)} {σ : St} {H : Hp} {s : Shared} {l b : Addr} {xs ys zs : List V}
theorem Inv.lset {its its' : List Value} {n : Nat} {f : Array Value → Array Value} {t' : Nat} (I : Inv X pins σ H s) (hH : H l = some (.lst xs))
    (e : s.heap.get? l = some { cls := .type "list", data := .seq its.toArray n }) (hf : f its.toArray = its'.toArray) (hv : Vals ys its') (hz : ys.length ≤ sizeLine) :
    Inv X pins σ (upd H l (.lst ys)) { s with heap := s.heap.update l (Obj.mapSeq f), toks := t' } := by
  have q := PySem.IsL.update e f
  rw [hf] at q
  refine I.write (x := l) (e := l) (by rw [hH]; exact trivial) (.inl rfl) (fun b' u hb hu => (Heap.get?_update_other s.heap (Obj.mapSeq f) (Ne.symm hb)).trans hu) ⟨_, q⟩ ?_
  exact ⟨hz, its', _, hv, q⟩
theorem Inv.lnew {its : List Value} {t' : Nat} (I : Inv X pins σ H s) (hv : Vals ys its) (hz : ys.length ≤ sizeLine) :
    Inv X pins σ (upd H s.heap.objs.size (.lst ys)) { s with heap := s.heap.push { cls := .type "list", data := .seq its.toArray }, toks := t' } :=
  I.laid (fun _ _ q => Heap.get?_push_of_some _ q) (Nat.le_refl _) ⟨hz, its, 0, hv, Heap.get?_push_size _ rfl⟩
theorem Inv.fresh (I : Inv X pins σ H s) : H s.heap.objs.size = none := I.hok.fresh (Nat.le_refl _)
theorem Inv.lstM (I : Inv X pins σ H s) (hH : H l = some (.lst xs)) : xs.length ≤ sizeLine ∧ ∃ (its : List Value) (n : Nat), Vals xs its ∧ xs.length = its.length ∧ s.heap.get? l = some { cls := .type "list", data := .seq its.toArray n } := by
  obtain ⟨z, its, n, r, e⟩ := I.hok l _ hH
  exact ⟨z, its, n, r, r.length, e⟩
theorem notLongL {n : Nat} (h : n ≤ sizeLine) : Builtin.List.listTooLong n = false := by
  unfold Builtin.List.listTooLong
  exact decide_eq_false (by omega)
end
section
variable {X : Cx}
def rAppend : V → List V → Hp → VK → Prop := fun x vs H Q => ∃ l xs y, x = .ref l ∧ vs = [y] ∧ H l = some (.lst xs) ∧ xs.length < sizeLine ∧ Q .non (upd H l (.lst (xs ++ [y])))
theorem mt_append : MtM X "list.append" rAppend := by
  intro pins s σ H x vs v us Q I rx rv h
  obtain ⟨l, xs, y, rfl, rfl, hH, hz, q⟩ := h
  cases rx
  obtain ⟨u, rfl, ru⟩ := rv.one
  obtain ⟨z, its, n, r, hl, e⟩ := I.lstM hH
  refine call_meets F.slot_list_append ⟨_, e, rfl⟩ F.entry_list_append (F.args_list_append_2 _ _) (PySem.list_append l its.toArray n u (by rw [List.size_toArray]; omega)) ⟨e, ?_⟩
  refine ⟨.non, _, I.lset (its' := its ++ [u]) hH e (by simp) (r.append (.cons ru .nil)) ?_, rfl, q⟩
  rw [List.length_append, List.length_singleton]
  omega
def rExtend : V → List V → Hp → VK → Prop := fun x vs H Q => ∃ l b xs zs, x = .ref l ∧ vs = [.ref b] ∧ H l = some (.lst xs) ∧ H b = some (.lst zs) ∧ xs.length + zs.length ≤ sizeLine ∧ Q .non (upd H l (.lst (xs ++ zs)))
theorem mt_extend : MtM X "list.extend" rExtend := by
  intro pins s σ H x vs v us Q I rx rv h
  obtain ⟨l, b, xs, zs, rfl, rfl, hH, hB, hz, q⟩ := h
  cases rx
  obtain ⟨u, rfl, ru⟩ := rv.one
  cases ru
  obtain ⟨z, its, n, r, hl, e⟩ := I.lstM hH
  obtain ⟨z2, its2, n2, r2, hl2, e2⟩ := I.lstM hB
  have hsz : its.toArray.size + its2.toArray.size ≤ sizeLine := by rw [List.size_toArray, List.size_toArray]; omega
  have hlong : ¬ (!its.toArray.isEmpty && Builtin.List.listTooLong (its.toArray.size + its2.toArray.size)) = true := by
    rw [notLongL hsz, Bool.and_false]
    exact Bool.false_ne_true
  refine call_meets F.slot_list_extend ⟨_, e, rfl⟩ F.entry_list_extend (F.args_list_extend_2 _ _)
    (AutoSeq1.list_extend_list_list_0 l its.toArray n b its2.toArray n2 hlong (by rw [List.size_toArray]; omega) (by omega)) ⟨e, e2, ?_⟩
  refine ⟨.non, _, I.lset (its' := its ++ its2) hH e (by simp) (r.append r2) ?_, rfl, q⟩
  rw [List.length_append]
  omega
def rCat : R2 := fun x y H Q => ∃ l b xs zs, x = .ref l ∧ y = .ref b ∧ H l = some (.lst xs) ∧ H b = some (.lst zs) ∧ xs.length + zs.length ≤ sizeLine ∧ ∀ p, H p = none → Q (.ref p) (upd H p (.lst (xs ++ zs)))
theorem op_cat : OpR X (binaryOp .Add) rCat := by
  intro pins s σ H x y v u Q I rx ry h
  obtain ⟨l, b, xs, zs, rfl, rfl, hH, hB, hz, q⟩ := h
  cases rx
  cases ry
  obtain ⟨z, its, n, r, hl, e⟩ := I.lstM hH
  obtain ⟨z2, its2, n2, r2, hl2, e2⟩ := I.lstM hB
  refine PySem.P.add_list e e2 ?_ (by rw [List.size_toArray, List.size_toArray]; omega)
  have ea : its.toArray ++ its2.toArray = (its ++ its2).toArray := by simp
  rw [ea]
  exact ⟨.ref _, _, I.lnew (t' := s.toks) (r.append r2) (by rw [List.length_append]; omega), rfl, q _ I.fresh⟩
end
section
variable {prog : Program} {w : World} {A : Around} {E : Value → Shared → Prop} {s : Shared}
end
section
variable {X : Cx}
end
end L2
namespace Att
open PySem PySem.W PySem.Calls PyProof.Rows
theorem ints_of_wellAll {P : Params} {h : Heap} : ∀ (ns : List Int) (vs : List Value), WellAll P h vs (ns.map WData.int) → IntsAre vs ns := by
  intro ns
  induction ns with
  | nil =>
    intro vs w
    rw [List.map_nil] at w
    cases w
    exact .nil
  | cons n ns ih =>
    intro vs w
    rw [List.map_cons] at w
    cases w with
    | cons a b =>
      cases a
      exact .cons _ _ (ih _ b)
theorem script_of {l : OpenLaw} {n : Nat} (hn : l.most = some n) {P : Params} {h : Heap} {args : List WData} {vals : List Value}
    (hpre : l.row.toRowW.claim.pre args = true) (hwl : WellAll P h vals args) :
    ∃ a vs ns, vals = [Value.ref a] ∧ args = [WData.list (ns.map WData.int)] ∧ h.get? a = some { cls := .type "list", data := .seq vs.toArray } ∧ IntsAre vs ns ∧ ns.length ≤ n := by
  have hsh : WShape.hasAll [] args [.list .int] = true := (pre_splitW hpre).1
  have hc : l.pre.holds [] { args := args } = true := (pre_splitW hpre).2
  obtain ⟨d, r, rfl, h1, h2⟩ := hasAllW_cons hsh
  obtain rfl := hasAllW_nil h2
  obtain ⟨xs, rfl, h3⟩ := hasW_list h1
  obtain ⟨ns, rfl⟩ := items_int h3
  have hlen : ns.length ≤ n := by
    unfold OpenLaw.pre at hc
    have h4 : (WTm.not (.lt (.lit (.int (n : Int))) (.len (.arg 0)))).holds [] { args := [.list (ns.map .int)] } = true := by
      have h4 := (holds_andW hc).1
      rw [hn] at h4
      exact h4
    have h5 := condW_of h4 (w_not (w_lt w_lit (w_len_list (w_arg rfl))))
    rw [List.length_map] at h5
    refine Nat.le_of_not_lt fun q => ?_
    have q' : (n : Int) < ((ns.length : Nat) : Int) := by omega
    first
      | (rw [decide_eq_true q'] at h5; exact absurd h5 (by decide))
      | (simp at h5; omega)
  cases hwl with
  | cons w1 w2 =>
    cases w2
    cases w1 with
    | list ho hall => exact ⟨_, _, ns, rfl, rfl, ho, ints_of_wellAll ns _ hall, hlen⟩
theorem post_true (l : OpenLaw) (args : List WData) : l.row.toRowW.claim.post args (.bool true) args = true :=
  postW_of (r := l.row.toRowW) (X := (true == true))
    (show WShape.has [] (.bool true) .bool = true by first | rfl | decide | simp [WShape.has, WShape.arms, WShape.armsAll])
    (show (WTm.eq .res (.lit (.bool true))).value [] { args := args, res := some (.bool true), after := args } = some (.bool (true == true)) from w_eq_bool (w_res rfl) w_lit) rfl
theorem attach_call {l : OpenLaw} {n : Nat} {q : Program} {loose : List Str} {XP : (Str → Option Value) → Heap → Prop} {YP : World → Heap → Prop} {d : DefRec}
    (hn : l.most = some n) (hdf : d.params.defaults = [])
    (call : ∀ (w : World) (s₀ s₁ : Shared) (mg mb : Str → Option Value) (fa : Addr) (o : Obj) (pm cd doc : Value) (a : Addr) (vs : List Value) (ns : List Int),
      Ground q loose [] XP w s₀ mg mb s₁.heap → YP w s₁.heap →
      s₁.heap.get? fa = some o → o.data = .func (docDef d.name d.params d.body d.scope pm cd doc) → s₁.heap.CodeRec cd d.name → mg d.name = some (.ref fa) →
      s₁.heap.get? a = some { cls := .type "list", data := .seq vs.toArray } → IntsAre vs ns → ns.length ≤ n → s₁.gens = #[] →
      codeAny (model l.prog w) callerA (.call (.ref fa) ⟨[.ref a], []⟩) (fun r s' => r = .ok (.ret (.bool true)) ∧ OldK s₁.heap s'.heap ∧ s'.os = s₁.os ∧ AllBare s'.gens) s₁) :
    WalkO q loose XP YP l.row.toRowW d [] (fun f vs => PySem.call f vs) := by
  intro w s₀ s₁ mg mb G Y fa o pm cd doc dV kV ho hd hcd hD hmg hg args vals as hpre hlay hrd hwl hlo
  obtain rfl : dV = .none := Dflts.none hD hdf
  obtain rfl : kV = .none := Dflts.noKw hD
  obtain ⟨a, vs, ns, rfl, rfl, hobj, hints, hlen⟩ := script_of hn hpre hwl
  refine enter_call (codeAny_mono (call w s₀ s₁ mg mb fa o pm cd doc a vs ns G Y ho (fd_plain hd) hcd hmg hobj hints hlen hg) fun r s' hq => ?_)
  obtain ⟨rfl, h2, h3, h4⟩ := hq
  exact ⟨.inl ⟨.bool true, .bool true, [], rfl, fun _ => rfl, .bool true, post_true l _, fun _ => ⟨List.Pairwise.nil, fun _ hm => (nomatch hm)⟩⟩, h2, h3, h4⟩
section
variable {prog : Program} {w : World} {A : Around} {E : Value → Shared → Prop} {s : Shared} {K : Frag}
end
end Att
namespace L2
open PySem PySem.Spec PyProof.Rows
theorem vals_ints : ∀ {vs : List Value} {ns : List Int}, IntsAre vs ns → Vals (ns.map V.int) vs
  | _, _, .nil => .nil
  | _, _, .cons n t h => .cons ⟨t, rfl⟩ (vals_ints h)
def Only (H : Hp) : Prop := ∀ b, H b = none ∨ ∃ o xs, H b = some (.frz o (.lst xs))
theorem law_call {P : Program} {w : World} {K : PySem.W.Frag} {mg mb : Str → Option Value} {CX : CXT} {k : Nat} {fa a : Addr} {fd : FuncData} {x : Str} {sp : Sp} {s₁ : Shared} {vs : List Value} {ns : List Int}
    (KX : K.In s₁.heap) (hns : s₁.heap.Ns mainGlobals mg) (hb : s₁.heap.Ns builtinsNs mb) (hbb : ∀ x : Str, x ≠ "__name__" → mb x = bootBuiltins x) (hlim : s₁.heap.NoLimit) (hg : s₁.gens = #[])
    (ha : s₁.heap.get? a = some { cls := .type "list", data := .seq vs.toArray }) (hi : IntsAre vs ns) (hl : ns.length ≤ sizeLine) (hr : Room k callerA)
    (F : ∀ base : Heap, K.In base → base.Ns mainGlobals mg → FnOk P w K mg base CX k fa fd [x] sp) (hbind : ∀ (s : Shared) (u : Value), BindsTo s fd ⟨[u], []⟩ [(x, u)])
    (hsp : ∀ H : Hp, Only H → SqL K H a (ns.map V.int) → sp [.ref a] H (fun v _ => v = .bl true) fun _ _ _ => False)
    (hCX : ∀ H e s', CX [] H s₁ (fun _ _ _ => False) e s' → False) :
    codeAny (model P w) callerA (.call (.ref fa) ⟨[.ref a], []⟩) (fun r s' => r = .ok (.ret (.bool true)) ∧ OldK s₁.heap s'.heap ∧ s'.os = s₁.os ∧ AllBare s'.gens) s₁ := by
  have rv := vals_ints hi
  have lenV := hi.length
  have core : ∀ H : Hp, Only H → SqL K H a (ns.map V.int) → HOk P w H s₁.heap → (∀ b, H b ≠ none → b = a) → (H a ≠ none → K.lookup a = none) →
      codeAny (model P w) callerA (.call (.ref fa) ⟨[.ref a], []⟩) (fun r s' => r = .ok (.ret (.bool true)) ∧ OldK s₁.heap s'.heap ∧ s'.os = s₁.os ∧ AllBare s'.gens) s₁ := by
    intro H hO hS hok hA hK
    have base_of : ∀ {b : Addr} {o : Obj}, s₁.heap.get? b = some o → H b = none → (hidT s₁.heap H).get? b = some o := fun e n => hidT_get e n
    have noA : ∀ {b : Addr} {o : Obj} {es : Array DictEntry} {ep : Nat}, s₁.heap.get? b = some o → o.data = .dict es ep → H b = none := fun {b o es ep} e d => by
      cases q : H b with
      | none => rfl
      | some u =>
        have e' : b = a := hA b (by rw [q]; simp)
        subst e'
        rw [ha] at e; cases e
        have d' : Data.seq vs.toArray _ = Data.dict es ep := d
        cases d'
    have nsK : ∀ {b : Addr} {m : Str → Option Value}, s₁.heap.Ns b m → (hidT s₁.heap H).Ns b m := fun {b m} ⟨o, es, ep, e, d, r⟩ => ⟨o, es, ep, base_of e (noA e d), d, r⟩
    have hKb : K.In (hidT s₁.heap H) := fun b o e => base_of (KX b o e) (by
      cases q : H b with
      | none => rfl
      | some u =>
        have e' : b = a := hA b (by rw [q]; simp)
        subst e'
        rw [hK (by rw [q]; simp)] at e; cases e)
    have hM : Mod K mg (hidT s₁.heap H) := ⟨hKb, nsK hns, ⟨mb, nsK hb, hbb⟩, let ⟨mc, h1, h2⟩ := hlim; ⟨mc, nsK h1, h2⟩⟩
    have e0 : Env0 P w K mg (hidT s₁.heap H) callerA [] s₁ H := ⟨rfl, hM, fun b o e => of_hidT e, Nat.le_of_eq (hidT_size _ _), trivial, fun b hb => absurd (show b ∈ ([] : List Addr) from hb) (by simp), hok, .of_eq hg⟩
    refine codeAny_mono ((F _ hKb (nsK hns)).run callerA [] s₁ H ⟨[.ref a], []⟩ [.ref a] [.ref a] _ _ hr e0 (hbind s₁ (.ref a)) (.cons rfl .nil) (hsp H hO hS)) fun r s' h => ?_
    cases r with
    | error e => exact (hCX H e s' h).elim
    | ok fl =>
      cases fl with
      | next => exact False.elim h
      | brk => exact False.elim h
      | cont => exact False.elim h
      | ret u =>
        obtain ⟨v, H', os, bare, un, hok', r', q⟩ := h
        have q' : v = .bl true := q
        subst q'
        obtain rfl : u = Value.bool true := r'
        refine ⟨rfl, OldK.of_keep fun b o e => ?_, os, bare⟩
        cases q : H b with
        | none => exact un.keep b o e q (by intro z; exact absurd (show b ∈ ([] : List Addr) from z) (by simp)) (by simp)
        | some u =>
          rcases hO b with z | ⟨ob, xs, z⟩
          · rw [q] at z; cases z
          · have z2 := un.frzs b ob _ z
            obtain ⟨e1, _⟩ := hok b _ z
            obtain ⟨e2, _⟩ := hok' b _ z2
            rw [e] at e1; cases e1
            exact e2
  cases hk : K.lookup a with
  | some o =>
    have e := KX a o hk
    rw [ha] at e
    cases e
    refine core (fun _ => none) (fun _ => .inl rfl) (.inr ⟨_, vs.toArray, _, hk, rfl, rfl, rfl, by rw [List.size_toArray, lenV]; exact hl, by simpa using rv⟩) (fun b u z => by have z' : (none : Option HO) = some u := z; cases z') (fun b z => absurd rfl z) fun z => absurd rfl z
  | none =>
    refine core (fun b => if b = a then some (.frz { cls := .type "list", data := .seq vs.toArray } (.lst (ns.map V.int))) else none) (fun b => ?_) (.inl (.inr ⟨{ cls := .type "list", data := .seq vs.toArray }, if_pos rfl⟩)) (fun b u z => ?_) (fun b z => ?_) fun _ => hk
    · by_cases hb : b = a
      · exact .inr ⟨_, _, if_pos hb⟩
      · exact .inl (if_neg hb)
    · by_cases hb : b = a
      · have z' := (if_pos hb).symm.trans z
        cases z'
        subst hb
        exact ⟨ha, by rw [List.length_map]; exact hl, vs, _, rv, ha⟩
      · have z' := (if_neg hb).symm.trans z
        cases z'
    · by_cases hb : b = a
      · exact hb
      · exact absurd (if_neg hb) z
end L2
namespace L2
open PySem PySem.Spec PyProof.Rows
theorem walk_of {l : PySem.W.OpenLaw} {n k : Nat} {q : Program} {loose : List Str} {XP : (Str → Option Value) → Heap → Prop} {YP : World → Heap → Prop} {d : DefRec} {K : Params → PySem.W.Frag} {CX : World → CXT} {sp : World → Sp} {x : Str}
    (hn : l.most = some n) (hn2 : n ≤ sizeLine) (hdf : d.params.defaults = []) (hr : Room k callerA)
    (hY : ∀ (w : World) (h : Heap), YP w h → (K w.params).In h)
    (F : ∀ (w : World) (mg : Str → Option Value) (fa : Addr) (h : Heap), (K w.params).In h → h.Ns mainGlobals mg → mg d.name = some (.ref fa) →
      ∃ fd : FuncData, (∀ (s : Shared) (u : Value), BindsTo s fd ⟨[u], []⟩ [(x, u)]) ∧
        ∀ base : Heap, (K w.params).In base → base.Ns mainGlobals mg → FnOk l.prog w (K w.params) mg base (CX w) k fa fd [x] (sp w))
    (hsp : ∀ (w : World) (H : Hp) (a : Addr) (ns : List Int), ns.length ≤ n → Only H → SqL (K w.params) H a (ns.map V.int) → sp w [.ref a] H (fun v _ => v = .bl true) fun _ _ _ => False)
    (hCX : ∀ (w : World) (H : Hp) (s : Shared) (e : Value) (s' : Shared), CX w [] H s (fun _ _ _ => False) e s' → False) :
    PySem.W.WalkO q loose XP YP l.row.toRowW d [] (fun f vs => PySem.call f vs) := by
  refine Att.attach_call hn hdf fun w s₀ s₁ mg mb fa o pm cd doc a vs ns G Y ho hd hcd hmg hobj hints hlen hg => ?_
  have KX := hY w _ Y
  obtain ⟨fd, hb, hF⟩ := F w mg fa _ KX G.T.g hmg
  exact law_call KX G.T.g G.T.b G.T.builtins G.T.nolimit hg hobj hints (Nat.le_trans hlen hn2) hr hF hb (fun H hO hS => hsp w H a ns hlen hO hS) fun H e s' => hCX w H s₁ e s'
end L2
namespace L2
open PySem PySem.Spec PyProof.Rows
abbrev CX0 : CXT := fun _ _ _ _ _ _ => False
structure Fun (K : PySem.W.Frag) (x qual : Str) (st : Stmt) (f : Addr) (fd : FuncData) : Prop where
  ex : ∃ (oc : Value) (od : Option Addr) (kV doc pm : Value) (an : Option Addr) (cdv ct : Value) (osl : Array (Option Value)),
    fd = PySem.W.fnOf x qual (defArgs st) (defBody st) (defScope st) .none kV doc pm an cdv ct ∧ K.lookup f = some ⟨oc, od, .func fd, osl⟩ ∧ PySem.W.codeIn K cdv qual = true
  kp : PySem.W.keepIn K (.ref f) = true
section
variable {P : Program} {w : World} {K : PySem.W.Frag} {mg : Str → Option Value} {base : Heap}
theorem Fun.ok {x qual : Str} {st : Stmt} {f : Addr} {fd : FuncData} {N ps : List Str} {k : Nat} {sp : Sp} (F : Fun K x qual st f fd) (S : FnScope N ps (defScope st)) (len : ∀ vs H Q E, sp vs H Q E → vs.length = ps.length)
    (hbody : ∀ (cdv : Value) (A : Around) (outer : List Env) (s : Shared) (H : Hp) (vs : List V) (Q : VK) (E : XK), Room k (A.deeper (envOfC qual (defScope st) s.heap.objs.size f cdv)) → sp vs H Q E →
      ∃ t, PSs (cxOf CX0 P w K mg base N qual (defScope st) f cdv A outer s H E).nox (defBody st) t ∧ t { nx := fun _ H' => Q .non H', rt := Q } (start N vs) H) : FnOk P w K mg base CX0 (k + 1) f fd ps sp := by
  obtain ⟨oc, od, kV, doc, pm, an, cdv, ct, osl, rfl, lk, hcd⟩ := F.ex
  refine fn_of lk hcd S len fun A outer s H vs Q E hr hsp => ?_
  obtain ⟨t, h, q⟩ := hbody cdv A outer s H vs Q E hr hsp
  exact ⟨t, h.nox, q⟩
theorem Fun.binds {x qual : Str} {st : Stmt} {f : Addr} {fd : FuncData} {ps : List Str} (F : Fun K x qual st f fd)
    (h : ∀ (kV doc pm : Value) (an : Option Addr) (cdv ct : Value) (us : List Value), us.length = ps.length → bindArgs (PySem.W.fnOf x qual (defArgs st) (defBody st) (defScope st) .none kV doc pm an cdv ct) ⟨us, []⟩ = pure (ps.zip us)) : Binds K fd ps [] := by
  obtain ⟨oc, od, kV, doc, pm, an, cdv, ct, osl, rfl, lk, hcd⟩ := F.ex
  exact .all (h kV doc pm an cdv ct)
theorem fun_mk {x qual : Str} {st : Stmt} {f : Addr} {oc : Value} {od an : Option Addr} {osl : Array (Option Value)} {kV doc pm cdv ct : Value} (l : K.lookup f = some ⟨oc, od, .func (PySem.W.fnOf x qual (defArgs st) (defBody st) (defScope st) .none kV doc pm an cdv ct), osl⟩)
    (c : PySem.W.codeIn K cdv qual = true) (k : PySem.W.keepIn K (.ref f) = true) : Fun K x qual st f (PySem.W.fnOf x qual (defArgs st) (defBody st) (defScope st) .none kV doc pm an cdv ct) := ⟨⟨oc, od, kV, doc, pm, an, cdv, ct, osl, rfl, l, c⟩, k⟩
end
section
variable {X : Cx}
end
theorem iteF {A B : Prop} (h : B) : if false = true then A else B := by
  rw [if_neg Bool.false_ne_true]
  exact h
theorem iteT {A B : Prop} (h : A) : if true = true then A else B := by
  rw [if_pos rfl]
  exact h
def Same (H H' : Hp) : Prop := ∀ b o, H b = some o → H' b = some o
theorem Same.refl (H : Hp) : Same H H := fun _ _ h => h
theorem Same.trans {H H1 H2 : Hp} (a : Same H H1) (b : Same H1 H2) : Same H H2 := fun c o h => b c o (a c o h)
theorem Same.free {H H' : Hp} (e : Same H H') {l : Addr} (h : H' l = Option.none) : H l = Option.none := by
  cases q : H l with
  | none => rfl
  | some o =>
    rw [e l o q] at h
    cases h
theorem Same.seq {K : PySem.W.Frag} {H H' : Hp} {a : Addr} {xs : List V} (e : Same H H') (h : SqL K H a xs) : SqL K H' a xs := by
  rcases h with (h | ⟨o, h⟩) | h
  · exact .inl (.inl (e _ _ h))
  · exact .inl (.inr ⟨o, e _ _ h⟩)
  · exact .inr h
end L2
set_option Elab.async false
set_option linter.all false
set_option maxRecDepth 100000
namespace L2
open PySem PySem.Spec PyProof.Rows
def dTfree : HO → Bool
  | .dT _ => false
  | .frz _ u => dTfree u
  | _ => true
def NoT (H : Hp) : Prop := ∀ a o, H a = some o → dTfree o = true
def plainO : HO → Bool
  | .lst _ => true
  | .tup _ => true
  | .dK _ => true
  | .rng _ _ => true
  | _ => false
structure Gc (H G H' : Hp) : Prop where
  a : Same H G
  b : Same G H'
  c : ∀ p o, G p = some o → H p = some o ∨ plainO o = true
section
variable {P : Program} {w : World} {H G H' : Hp} {h h' : Heap} {a : Addr} {o : HO}
theorem ObjOk.gc (n : dTfree o = true) (x0 : ObjOk P w H h a o) (x : ObjOk P w H' h' a o) : ObjOk P w H h' a o := by
  induction o with
  | ins C dx fs => exact ⟨x0.1, x.2⟩
  | dT kvs => cases n
  | frz ob u ih => exact ⟨x.1, ih n x0.2 x.2⟩
  | _ => exact x
theorem ObjOk.plain (n : plainO o = true) (x : ObjOk P w H' h' a o) : ObjOk P w H h' a o := by
  cases o with
  | lst xs => exact x
  | tup xs => exact x
  | dK kvs => exact x
  | rng lo hi => exact x
  | _ => cases n
theorem HOk.gc (n : NoT H) (x0 : HOk P w H h) (x : HOk P w H' h') (g : Gc H G H') : HOk P w G h' := fun a o e => by
  rcases g.c a o e with q | q
  · refine (((x0 a o q).gc (n a o q) (x a o (g.b a o e)))).stay (fun _ _ _ z => z) (fun b z => g.a _ _ z) fun b xs z => g.a _ _ z
  · exact (x a o (g.b a o e)).plain q
theorem Same.none_of (s : Same H H') {b : Addr} (e : H' b = none) : H b = none := s.free e
theorem Un.gc {fs ex : List Addr} (u : Un fs ex H H' h h') (g : Gc H G H') : Un fs ex H G h h' :=
  ⟨u.keep, u.slot, fun b o q n hx => g.b.free (u.free b o q n hx), u.there, fun b xs q => g.a _ _ q, fun b o x q => g.a _ _ q, fun b ps q => ⟨#[], by rw [Array.append_empty]; exact g.a _ _ q⟩⟩
theorem Gc.refl : Gc H H H := ⟨Same.refl H, Same.refl H, fun _ _ e => .inl e⟩
theorem Gc.none (s : Same H H') : Gc H H H' := ⟨Same.refl H, s, fun _ _ e => .inl e⟩
theorem same_upd {p : Addr} (o : HO) (hp : H p = Option.none) : Same H (upd H p o) := fun b u e => by rw [upd_ne (ne_of_none e hp)]; exact e
theorem Gc.one {p : Addr} (s : Same H H') (hp : H p = Option.none) (e : H' p = some o) (n : plainO o = true) : Gc H (upd H p o) H' :=
  ⟨same_upd o hp, fun b u z => by
    by_cases hb : b = p
    · subst hb; rw [upd_same] at z; cases z; exact e
    · rw [upd_ne hb] at z; exact s b u z, fun b u z => by
    by_cases hb : b = p
    · subst hb; rw [upd_same] at z; cases z; exact .inr n
    · rw [upd_ne hb] at z; exact .inl z⟩
theorem NoT.upd {p : Addr} (n : NoT H) (d : dTfree o = true) : NoT (upd H p o) := fun b u z => by
  by_cases hb : b = p
  · subst hb; rw [upd_same] at z; cases z; exact d
  · rw [upd_ne hb] at z; exact n b u z
end
theorem Inv.gc {X : Cx} {pins pins' : List (Addr × Obj)} {σ σ' : St} {H G H' : Hp} {s s' : Shared} (n : NoT H) (I : Inv X pins σ H s) (J : Inv X pins' σ' H' s') (g : Gc H G H') : Inv X pins' σ' G s' :=
  ⟨J.ok, J.os, J.bare, ⟨J.base.keep, J.base.slot, fun b o q z hx => g.b.free (J.base.free b o q z hx), J.base.there, fun b xs q => g.a _ _ (I.base.tups b xs q), fun b o x q => g.a _ _ (I.base.frzs b o x q), fun b ps q => let ⟨m, e⟩ := I.base.tbls b ps q; ⟨m, g.a _ _ e⟩⟩,
   J.loc, J.cell, g.b.free J.free, fun x c e => g.b.free (J.freeC x c e), fun p hp => let ⟨e, z, r⟩ := J.pin p hp; ⟨e, g.b.free z, r⟩, HOk.gc n I.hok J.hok g, J.len⟩
def tGc (t : TE) : TE := fun σ H Q => NoT H ∧ t σ H fun v H' => ∃ G, Gc H G H' ∧ Q v G
theorem pe_gc {X : Cx} {e : Expr} {t : TE} (h : PE X e t) : PE X e (tGc t) := fun pins s σ H Q I ⟨n, q⟩ =>
  thn (h pins s σ H _ I q) fun u s1 ⟨v, H1, I1, r, G, g, q1⟩ => ⟨v, G, I.gc n I1 g, r, q1⟩
def tGcT (t : TT) : TT := fun σ H Q => NoT H ∧ t σ H fun v H' => ∃ G, Gc H G H' ∧ Q v G
theorem pt_gc {X : Cx} {e : Expr} {t : TT} (h : PT X e t) : PT X e (tGcT t) := fun pins s σ H Q I ⟨n, q⟩ =>
  thn (h pins s σ H _ I q) fun u s1 ⟨H1, I1, G, g, q1⟩ => ⟨G, I.gc n I1 g, q1⟩
end L2
set_option Elab.async false
set_option linter.all false
set_option maxRecDepth 100000
namespace L2
open PySem PySem.Spec PyProof.Rows
theorem ObjOk.at_ {P : Program} {w : World} {H : Hp} {h : Heap} {a : Addr} {o : HO} (x : ObjOk P w H h a o) : ∃ ob, h.get? a = some ob := by
  cases o with
  | lst xs => obtain ⟨_, _, _, _, e⟩ := x; exact ⟨_, e⟩
  | tup xs => obtain ⟨_, _, _, ob, e, _⟩ := x; exact ⟨_, e⟩
  | dK kvs => obtain ⟨_, _, _, _, o, _, _, e, _⟩ := x; exact ⟨_, e⟩
  | dT kvs => obtain ⟨_, _, _, _, o, _, _, e, _⟩ := x; exact ⟨_, e⟩
  | set S n => obtain ⟨o, _, _, _, e, _⟩ := x; exact ⟨_, e⟩
  | ins C dx fs => obtain ⟨_, _, _, e, _⟩ := x; exact ⟨_, e⟩
  | own y => obtain ⟨_, e⟩ := x; exact ⟨_, e⟩
  | xd fs => obtain ⟨_, ⟨_, _, _, e, _⟩, _⟩ := x; exact ⟨_, e⟩
  | rng lo hi => obtain ⟨_, _, _, e⟩ := x; exact ⟨_, e⟩
  | frz ob u => obtain ⟨e, _⟩ := x; exact ⟨_, e⟩
  | tbl ps => exact ⟨_, (show h.get? a = some _ from x)⟩
  | met f y => exact ⟨_, (show h.get? a = some _ from x)⟩
  | ext φ => obtain ⟨_, ⟨_, e⟩, _⟩ := x; exact ⟨_, e⟩
theorem HOk.none_of {P : Program} {w : World} {H : Hp} {h : Heap} {a : Addr} (x : HOk P w H h) (e : h.get? a = none) : H a = none := by
  cases q : H a with
  | none => rfl
  | some u =>
    obtain ⟨ob, z⟩ := (x a u q).at_
    rw [e] at z; cases z
def hid (h : Heap) (l : List Env) (rs : List Addr) : Heap := PySem.W.hideAll h (frs l ++ rs)
theorem hid_get {h : Heap} {l : List Env} {rs : List Addr} {b : Addr} {o : Obj} (e : h.get? b = some o) (h1 : b ∉ frs l) (h2 : b ∉ rs) : (hid h l rs).get? b = some o :=
  PySem.W.hideAll_get _ e fun z => (List.mem_append.mp z).elim h1 h2
theorem of_hid {h : Heap} {l : List Env} {rs : List Addr} {b : Addr} {o : Obj} (e : (hid h l rs).get? b = some o) : h.get? b = some o := PySem.W.of_hideAll _ e
theorem hid_rs {h : Heap} {l : List Env} {rs : List Addr} {b : Addr} (e : b ∈ rs) : (hid h l rs).get? b = none := PySem.W.hideAll_none _ (List.mem_append_right _ e)
theorem hid_frames {h base : Heap} {l : List Env} {rs : List Addr} (e : h.FunFrames base l) : h.FunFrames (hid h l rs) l :=
  PySem.W.funFrames_hide e fun _ he _ ha => List.mem_append_left _ (List.mem_filterMap.mpr ⟨_, he, ha⟩)
def Fly (l : List Env) (rs : List Addr) (e : Addr) (cls : Value) (h : Heap) : Prop := e ∈ rs ∧ ∃ a0, Heap.FlyingW (hid h l rs) l e cls a0 h
def XE (P : Program) (w : World) : CXT := fun outer H s E ev s' => ∃ (e : Addr) (C : Value) (rs : List Addr) (H' : Hp), ev = .ref e ∧ s'.os = s.os ∧ AllBare s'.gens ∧ Un (frs outer) [] H H' s.heap s'.heap ∧
  HOk P w H' s'.heap ∧ (∀ b ∈ rs, s.heap.get? b = none ∧ H' b = none) ∧ Fly outer rs e C s'.heap ∧ E C none H'
section
variable {X : Cx} {pins : List (Addr × Obj)} {σ : St} {H : Hp} {s : Shared} {h' : Heap} {rs : List Addr}
theorem Inv.s0_none (I : Inv X pins σ H s) (hex : X.ex = []) {b : Addr} (e : s.heap.get? b = none) : X.s₀.heap.get? b = none := by
  cases q : X.s₀.heap.get? b with
  | none => rfl
  | some o =>
    obtain ⟨o', z⟩ := I.base.there b o q (by rw [hex]; simp)
    rw [e] at z; cases z
theorem Inv.noteUn (I : Inv X pins σ H s) (hex : X.ex = []) (hrs : ∀ b ∈ rs, X.s₀.heap.get? b = none)
    (stay : ∀ b o, s.heap.get? b = some o → b ∉ frs X.stack → b ∉ rs → h'.get? b = some o) (up : s.heap.UpToSlots h') : Un X.fs [] X.H₀ H X.s₀.heap h' := by
  have B := I.base
  rw [hex] at B
  have nrs : ∀ b o, X.s₀.heap.get? b = some o → b ∉ rs := fun b o e z => by rw [hrs b z] at e; cases e
  have nst : ∀ b o, X.s₀.heap.get? b = some o → b ∉ X.fs → b ∉ frs X.stack := fun b o e hb z => by
    rcases List.mem_cons.mp (I.stkSub b z) with q | q
    · exact absurd (Nat.lt_of_lt_of_le (Heap.lt_size e) I.ok.above) (by rw [q]; exact Nat.lt_irrefl _)
    · exact hb q
  refine ⟨fun b o q n hb hx => stay b o (B.keep b o q n hb hx) (nst b o q hb) (nrs b o q), fun b o q n hb hx => ?_, fun b o q n hx => B.free b o q n hx, fun b o q hx => ?_, B.tups, B.frzs, B.tbls⟩
  · obtain ⟨sl, e1⟩ := B.slot b o q n hb hx
    obtain ⟨_, o', ho', hd⟩ := I.funs.mem hb
    rw [e1] at ho'; cases ho'
    obtain ⟨sl', e2⟩ := up b _ e1 hd
    exact ⟨sl', e2⟩
  · obtain ⟨o', e1⟩ := B.there b o q hx
    by_cases hb : b ∈ frs X.stack
    · obtain ⟨_, o2, ho2, hd⟩ := I.stack.mem hb
      obtain ⟨sl', e2⟩ := up b _ ho2 hd
      exact ⟨_, e2⟩
    · exact ⟨o', stay b o' e1 hb (nrs b o q)⟩
theorem Inv.noteOk (I : Inv X pins σ H s) (hrs : ∀ b ∈ rs, H b = none) (stay : ∀ b o, s.heap.get? b = some o → b ∉ frs X.stack → b ∉ rs → h'.get? b = some o) : HOk X.prog X.w H h' := fun a o e =>
  (I.hok a o e).stay (fun b u hb q => stay b u q (fun z => by
      have n := I.stkFree b z
      rcases hb with r | r
      · rw [r, e] at n; cases n
      · rw [r] at n; cases n) fun z => by
      have n := hrs b z
      rcases hb with r | r
      · rw [r, e] at n; cases n
      · rw [r] at n; cases n) (fun _ q => q) fun _ _ q => q
theorem rec_new {base : Heap} {l : List Env} {h h1 : Heap} {T : Addr} {oT : Obj} {ts : Array Value} (hl : h.FunFrames base l) (up : h.UpToSlots h1) (e : (hid h l rs).get? T = none) (hT : h1.get? T = some oT) (hd : oT.data = .fields ts) : h.get? T = none ∨ T ∈ rs := by
  by_cases hr : T ∈ rs
  · exact .inr hr
  · refine .inl ?_
    cases q : h.get? T with
    | none => rfl
    | some o =>
      by_cases hf : T ∈ frs l
      · obtain ⟨_, o2, ho2, hnf⟩ := hl.mem hf
        rw [q] at ho2; cases ho2
        obtain ⟨sl, e2⟩ := up T o q hnf
        rw [hT] at e2; cases e2
        exact absurd hd (hnf ts)
      · rw [hid_get q hf hr] at e; cases e
end
section
variable {P : Program} {w : World} {K : PySem.W.Frag} {mg : Str → Option Value} {base : Heap} {N : List Str} {qual : Str} {scope : Scope} {f : Addr} {cd : Value} {A : Around} {outer : List Env} {s₀ : Shared} {H₀ : Hp} {E : XK}
theorem leave_made {pins : List (Addr × Obj)} {σ : St} {H : Hp} {s : Shared} {h' : Heap} {e : Addr} {cls : Value} {args : List Value}
    (I : Inv (cxOf (XE P w) P w K mg base N qual scope f cd A outer s₀ H₀ E) pins σ H s) (hx : Heap.MadeExcOf s.heap h' e cls args) (q : E cls none H) :
    (cxOf (XE P w) P w K mg base N qual scope f cd A outer s₀ H₀ E).xe (.ref e) { s with heap := h' } := by
  show wpAny (model P w) (A.deeper (envOfC qual scope s₀.heap.objs.size f cd)) (leaving (envOfC qual scope s₀.heap.objs.size f cd) (.ref e)) (fun _ s'' => XE P w outer H₀ s₀ E (.ref e) s'') (fun e' s'' => XE P w outer H₀ s₀ E e' s'') { s with heap := h' }
  have hst : s.heap.FunFrames base (envOfC qual scope s₀.heap.objs.size f cd :: outer) := I.stack
  refine wpAny_leaves_madeW (base := hid s.heap (envOfC qual scope s₀.heap.objs.size f cd :: outer) []) (h := s.heap) I.ok.frames rfl (fun b o z => of_hid z) (hid_frames hst) hx fun h'' t fl tup tn up => ?_
  obtain ⟨f1, f2, f3, oe, vs, T, oT, ts, he, hc, hd, h1, hnT, hTe, hT, hdT, h3⟩ := fl
  have up' : s.heap.UpToSlots h'' := (Heap.UpToSlots.of_keeps hx.keeps).trans up
  have nT : s.heap.get? T = none := (rec_new hst up' hnT hT hdT).elim id fun z => nomatch z
  have stay : ∀ b o, s.heap.get? b = some o → b ∉ frs (envOfC qual scope s₀.heap.objs.size f cd :: outer) → b ∉ [e, T] → h''.get? b = some o := fun b o z hb _ => f1 b o (hid_get z hb fun y => nomatch y)
  have n0 : ∀ b ∈ [e, T], s.heap.get? b = none := fun b hb => by
    rcases List.mem_cons.mp hb with r | r
    · rw [r]; exact hx.new
    · rw [List.mem_singleton.mp r]; exact nT
  have n1 : ∀ b ∈ [e, T], s₀.heap.get? b = none := fun b hb => I.s0_none rfl (n0 b hb)
  have n2 : ∀ b ∈ [e, T], H b = none := fun b hb => I.hok.none_of (n0 b hb)
  refine ⟨e, cls, [e, T], H, rfl, I.os, I.bare, I.noteUn rfl n1 stay up', I.noteOk n2 stay, fun b hb => ⟨n1 b hb, n2 b hb⟩, ⟨.head _, .ref t, ?_⟩, q⟩
  exact ⟨fun b o z => of_hid z, hid_rs (.head _), hid_frames f3, oe, vs, T, oT, ts, he, hc, hd, h1, hid_rs (.tail _ (.head _)), hTe, hT, hdT, h3⟩
abbrev XKs := St → XK
def Passes' (CX : CXT) (X : Cx) (E : XKs) : Prop := ∀ (pins : List (Addr × Obj)) (σ : St) (H : Hp) (s : Shared) (e : Value) (s' : Shared), Inv X pins σ H s → CX X.stack H s (E σ) e s' → X.xe e s'
def Raises (X : Cx) (E : XKs) : Prop := ∀ (pins : List (Addr × Obj)) (σ : St) (H : Hp) (s : Shared) (h' : Heap) (e : Addr) (cls : Value) (args : List Value), Inv X pins σ H s → Heap.MadeExcOf s.heap h' e cls args → E σ cls none H → X.xe (.ref e) { s with heap := h' }
theorem raisesB : Raises (cxOf (XE P w) P w K mg base N qual scope f cd A outer s₀ H₀ E) (fun _ => E) := fun _ _ _ _ _ _ _ _ I hx q => leave_made I hx q
theorem passB : Passes' (XE P w) (cxOf (XE P w) P w K mg base N qual scope f cd A outer s₀ H₀ E) (fun _ => E) := by
  intro pins σ H s ev s' I hq
  obtain ⟨e, C, rs, H', rfl, os, bare, un, hok, hrs, ⟨her, a0, fl⟩, q⟩ := hq
  have J : Inv (cxOf (XE P w) P w K mg base N qual scope f cd A outer s₀ H₀ E) pins σ H' s' := I.call' os un hok bare (fun b z => nomatch z)
  show wpAny (model P w) (A.deeper (envOfC qual scope s₀.heap.objs.size f cd)) (leaving (envOfC qual scope s₀.heap.objs.size f cd) (.ref e)) (fun _ s'' => XE P w outer H₀ s₀ E (.ref e) s'') (fun e' s'' => XE P w outer H₀ s₀ E e' s'') s'
  have hst : s'.heap.FunFrames base (envOfC qual scope s₀.heap.objs.size f cd :: outer) := J.stack
  refine wpAny_leaves_onW (base := hid s'.heap (envOfC qual scope s₀.heap.objs.size f cd :: outer) rs) I.ok.frames rfl fl fun h'' fl' up => ?_
  obtain ⟨f1, f2, f3, oe, vs, T, oT, ts, he, hc, hd, h1, hnT, hTe, hT, hdT, h3⟩ := fl'
  have nT := rec_new hst up hnT hT hdT
  have stay : ∀ b o, s'.heap.get? b = some o → b ∉ frs (envOfC qual scope s₀.heap.objs.size f cd :: outer) → b ∉ T :: rs → h''.get? b = some o := fun b o z hb hr => f1 b o (hid_get z hb fun y => hr (.tail _ y))
  have n1 : ∀ b ∈ T :: rs, s₀.heap.get? b = none := fun b hb => by
    rcases List.mem_cons.mp hb with r | r
    · rw [r]
      rcases nT with z | z
      · exact J.s0_none rfl z
      · exact I.s0_none rfl (hrs T z).1
    · exact I.s0_none rfl (hrs b r).1
  have n2 : ∀ b ∈ T :: rs, H' b = none := fun b hb => by
    rcases List.mem_cons.mp hb with r | r
    · rw [r]
      rcases nT with z | z
      · exact hok.none_of z
      · exact (hrs T z).2
    · exact (hrs b r).2
  refine ⟨e, C, T :: rs, H', rfl, J.os, J.bare, J.noteUn rfl n1 stay up, J.noteOk n2 stay, fun b hb => ⟨n1 b hb, n2 b hb⟩, ⟨.tail _ her, a0, ?_⟩, q⟩
  exact ⟨fun b o z => of_hid z, hid_rs (.tail _ her), hid_frames f3, oe, vs, T, oT, ts, he, hc, hd, h1, hid_rs (.head _), hTe, hT, hdT, h3⟩
end
def tCallX (sp : Sp) (dvs : List V) (E : XKs) (t : TA) : TE := fun σ H Q => t σ H fun vs H1 => sp (vs ++ dvs) H1 Q (E σ)
section
variable {X : Cx} {CX : CXT} {k : Nat} {f C : Addr} {fd : FuncData} {ps : List Str} {sp : Sp} {dvs : List V} {ds : List Value} {E : XKs} {x m : Str} {p pos apos : Pos} {e o : Expr} {es : List Expr} {ta : TE} {t : TA}
theorem run_fnX {pins : List (Addr × Obj)} {σ : St} {H : Hp} {s : Shared} {Q : VK} {us : List Value} {vs : List V} (F : FnOk X.prog X.w X.K X.mg X.base CX k f fd ps sp) (hr : Room k X.A) (hb : Binds X.K fd ps ds) (hd : Vals dvs ds) (hx : Passes' CX X E)
    (I : Inv X pins σ H s) (r : Vals vs us) (h : sp (vs ++ dvs) H Q (E σ)) : wpAny (model X.prog X.w) X.A (call (.ref f) us) (EP X pins σ Q) X.xe s := by
  have r2 : Vals (vs ++ dvs) (us ++ ds) := r.append hd
  have hl : (us ++ ds).length = ps.length := by rw [← r2.length]; exact F.len _ _ _ _ h
  refine wpAny_call (codeAny_mono (F.run X.A X.stack s H ⟨us, []⟩ (us ++ ds) (vs ++ dvs) Q (E σ) hr I.env0 (hb s us I.kIn hl) r2 h) fun r s' hq => ?_)
  cases r with
  | error e => exact hx pins σ H s e s' I hq
  | ok fl =>
    cases fl with
    | ret u => exact I.after hq
    | next => exact False.elim hq
    | brk => exact False.elim hq
    | cont => exact False.elim hq
theorem pe_callX (F : FnOk X.prog X.w X.K X.mg X.base CX k f fd ps sp) (hr : Room k X.A) (hg : Gl X x) (hm : X.mg x = some (.ref f)) (hk : PySem.W.keepIn X.K (.ref f) = true) (hb : Binds X.K fd ps ds) (hd : Vals dvs ds) (hx : Passes' CX X E)
    (ha : PA X (e :: es) t) (hdb : (x == ("__debug__" : Str)) = false := by decide) (he : starEach (e :: es) X.env = (false, eval e X.env) :: starEach es X.env := by rfl) (hpl : (backTo pos (starEach es X.env)).any (·.1) = false := by rfl) :
    PE X (.Call (.Name x p) (e :: es) [] pos) (tCallX sp dvs E t) := by
  intro pins s σ H Q I h
  refine wpAny_Call_Name_kw (ld_glob I hg hm ?_ hdb)
  refine PySem.W.callWith_K (h₀ := X.base) I.ok.mod.kin hk (thn (ha pos pins s σ H _ I h) fun us s1 ⟨vs, H1, I1, r, q⟩ => ⟨I1.kIn, ?_⟩) he hpl
  exact run_fnX F hr hb hd hx I1 r q
end
section
variable {P : Program} {w : World} {K : PySem.W.Frag} {mg : Str → Option Value} {base : Heap}
theorem Fun.okX {x qual : Str} {st : Stmt} {f : Addr} {fd : FuncData} {N ps : List Str} {k : Nat} {sp : Sp} (F : Fun K x qual st f fd) (S : FnScope N ps (defScope st)) (len : ∀ vs H Q E, sp vs H Q E → vs.length = ps.length)
    (hbody : ∀ (cdv : Value) (A : Around) (outer : List Env) (s : Shared) (H : Hp) (vs : List V) (Q : VK) (E : XK), Room k (A.deeper (envOfC qual (defScope st) s.heap.objs.size f cdv)) → sp vs H Q E →
      ∃ t, PSs (cxOf (XE P w) P w K mg base N qual (defScope st) f cdv A outer s H E) (defBody st) t ∧ t { nx := fun _ H' => Q .non H', rt := Q } (start N vs) H) : FnOk P w K mg base (XE P w) (k + 1) f fd ps sp := by
  obtain ⟨oc, od, kV, doc, pm, an, cdv, ct, osl, rfl, lk, hcd⟩ := F.ex
  exact fn_of lk hcd S len fun A outer s H vs Q E hr hsp => hbody cdv A outer s H vs Q E hr hsp
end
theorem exc_obj {K : PySem.W.Frag} {h : Heap} {C : Addr} {bmB : List Value} {newId : String} (X : K.In h) (q : PySem.W.excIn K C bmB newId = true) :
    ∃ bm N nm qn bs hdct sn sub ab col dd k0 k1 k2 k3 k5 mN, h.get? C = some (excClassObj nm qn C N bs bm hdct sn sub ab col dd k0 k1 k2 k3 k5 newId) ∧ h.Ns N mN ∧ mN "__init__" = none ∧ OwnTail h bmB bm := by
  unfold PySem.W.excIn at q
  split at q
  · rename_i dd cd sl ho
    split at q
    · rename_i C' bm k0 k1 k2 k3 n k5 hm hs
      simp only [Bool.and_eq_true, beq_iff_eq, Bool.not_eq_true'] at q
      obtain ⟨⟨⟨⟨⟨rfl, rfl⟩, hdel⟩, ht⟩, hok⟩, hni⟩ := q
      obtain ⟨nm, bs, mro, ns, qn, hd, sn, sub, ab, col, del⟩ := cd
      dsimp only at hm hdel hok hni
      subst hm hdel
      have hsl : sl = #[k0, k1, k2, k3, some (.builtin n), k5] := by
        obtain ⟨l⟩ := sl
        simp only at hs
        rw [hs]
      subst hsl
      exact ⟨bm, ns, nm, qn, bs, hd, sn, sub, ab, col, dd, k0, k1, k2, k3, k5, _, X _ _ ho, .of_isNs (PySem.W.isNs_of_in X hok), PySem.W.nsMap_none_of_in X hok hni, PySem.W.tail_of_in X ht⟩
    · cases q
  · cases q
def tRaise (C : Addr) (E : XKs) (t : TA) : TS := fun _ σ H => t σ H fun vs H1 => vs.length ≤ sizeLine ∧ E σ (.ref C) none H1
theorem ps_raise {X : Cx} {x : Str} {C : Addr} {bmB : List Value} {B newId initId : String} {E : XKs} {e : Expr} {es : List Expr} {t : TA} {np cpos pos : Pos} (O : PySem.W.excIn X.K C bmB newId = true) (FB : ExcBaseFacts B newId initId bmB)
    (hc : X.calm = true) (hg : Gl X x) (hm : X.mg x = some (.ref C)) (hx : Raises X E) (ha : PA X (e :: es) t) (hdb : (x == ("__debug__" : Str)) = false := by decide)
    (he : starEach (e :: es) X.env = (false, eval e X.env) :: starEach es X.env := by rfl) (hpl : (backTo cpos (starEach es X.env)).any (·.1) = false := by rfl) :
    PS X (.Raise (some (.Call (.Name x np) (e :: es) [] cpos)) none pos) (tRaise C E t) := by
  intro pins s σ H D I h
  obtain ⟨tl, N, nm, q, bs, hdct, sn, sub, ab, col, dd, k0, k1, k2, k3, k5, mN, hC, hN, hni, T⟩ := exc_obj I.mod.kin O
  refine wpAny_Raise_call_subT (C := C) (nm := nm) (q := q) (N := N) (bs := bs) (bm := tl) (hdct := hdct) (sn := sn) (sub := sub) (ab := ab) (col := col) (dd := dd) (k0 := k0) (k1 := k1) (k2 := k2) (k3 := k3) (k5 := k5)
    FB (mN := mN) (T.hasType FB.hasBase) (I.ok.hd hc) (by rw [he]; show (false || (backTo cpos (starEach es X.env)).any (·.1)) = false; rw [hpl]; rfl) hni (ld_glob I hg hm ⟨rfl, ?_⟩ hdb)
  have hA := ha cpos pins s σ H _ I h
  rw [he] at hA ⊢
  refine Calls.evalArgs_plain (thn hA fun us s1 ⟨vs, H1, I1, r, hz, q1⟩ => ⟨rfl, by rw [← r.length]; exact hz, I1.bk _ _ hC, hN.keeps I1.bk, T.keeps I1.bk, fun h' e' hm' => ?_⟩)
  exact hx pins σ H1 s1 h' e' (.ref C) us I1 hm' q1
end L2
set_option Elab.async false
set_option linter.all false
set_option maxRecDepth 100000
namespace L2
open PySem PySem.Spec PyProof.Rows
section
variable {X : Cx} {pins : List (Addr × Obj)} {σ : St} {H : Hp} {s : Shared} {h' : Heap} {rs : List Addr}
theorem Inv.noted {t' : Nat} (I : Inv X pins σ H s) (hrs : ∀ b ∈ rs, X.s₀.heap.get? b = none ∧ H b = none) (hpin : ∀ p ∈ X.pn ++ pins, p.1 ∉ rs)
    (stay : ∀ b o, s.heap.get? b = some o → b ∉ frs X.stack → b ∉ rs → h'.get? b = some o) (up : s.heap.UpToSlots h') : Inv X pins σ H { s with heap := h', toks := t' } := by
  have B := I.base
  have cellK : ∀ c v, s.heap.IsCell c v → h'.IsCell c v := fun c v ⟨o, ho, hd⟩ => by
    obtain ⟨sl, e⟩ := up c o ho fun vs q => by rw [hd] at q; cases q
    exact ⟨_, e, hd⟩
  have nrs : ∀ b o, X.s₀.heap.get? b = some o → b ∉ rs := fun b o e z => by rw [(hrs b z).1] at e; cases e
  have nst : ∀ b o, X.s₀.heap.get? b = some o → b ∉ X.fs → b ∉ frs X.stack := fun b o e hb z => by
    rcases List.mem_cons.mp (I.stkSub b z) with q | q
    · exact absurd (Nat.lt_of_lt_of_le (Heap.lt_size e) I.ok.above) (by rw [q]; exact Nat.lt_irrefl _)
    · exact hb q
  refine ⟨I.ok, I.os, I.bare, ⟨fun b o q n hb hx => stay b o (B.keep b o q n hb hx) (nst b o q hb) (nrs b o q), fun b o q n hb hx => ?_, fun b o q n hx => B.free b o q n hx, fun b o q hx => ?_, B.tups, B.frzs, B.tbls⟩, ?_, fun x c e => ?_, I.free, I.freeC, fun p hp => ?_, I.noteOk (fun b hb => (hrs b hb).2) stay, I.len⟩
  · obtain ⟨sl, e1⟩ := B.slot b o q n hb hx
    obtain ⟨_, o', ho', hd⟩ := I.funs.mem hb
    rw [e1] at ho'; cases ho'
    obtain ⟨sl', e2⟩ := up b _ e1 hd
    exact ⟨sl', e2⟩
  · obtain ⟨o', e1⟩ := B.there b o q hx
    by_cases hb : b ∈ frs X.stack
    · obtain ⟨_, o2, ho2, hd⟩ := I.stack.mem hb
      obtain ⟨sl', e2⟩ := up b _ ho2 hd
      exact ⟨_, e2⟩
    · exact ⟨o', stay b o' e1 hb (nrs b o q)⟩
  · obtain ⟨m, hn, hl⟩ := I.loc
    refine ⟨m, up.ns hn, fun i x v e1 e2 e3 => ?_⟩
    obtain ⟨u, r, l⟩ := hl i x v e1 e2 e3
    refine ⟨u, r, ?_⟩
    rcases l with l | ⟨k, c, e, z⟩
    · exact .inl l
    · exact .inr ⟨k, c, e, cellK c _ z⟩
  · obtain ⟨v, z⟩ := I.cell x c e
    exact ⟨v, cellK c v z⟩
  · obtain ⟨e, n, ne, nf, d⟩ := I.pin p hp
    exact ⟨stay p.1 p.2 e (fun z => (List.mem_cons.mp (I.stkSub _ z)).elim ne nf) (hpin p hp), n, ne, nf, d⟩
theorem Cx.Ok.re (ok : X.Ok) (A' : Around) (hf : A'.frames = X.A.frames) (cm : Bool) (hh : cm = true → A'.handled = none) (pn : List (Addr × Obj)) (xe : Value → Shared → Prop) : ({ X with A := A', calm := cm, pn := pn, xe := xe } : Cx).Ok :=
  ⟨ok.mod, ok.kind, ok.glob, ok.blt, ok.above, ok.inj, ok.has, ok.cab, hh, hf.trans ok.frames, ok.stk, ok.exf, ok.bs, ok.bsz, ok.noex, ok.exfs, ok.funs, ok.frf⟩
theorem Inv.toPn (I : Inv X pins σ H s) (xe : Value → Shared → Prop) : Inv { X with pn := X.pn ++ pins, xe := xe } [] σ H s :=
  ⟨I.ok.re X.A rfl X.calm I.ok.hd _ _, I.os, I.bare, I.base, I.loc, I.cell, I.free, I.freeC, fun p hp => I.pin p (by rw [List.append_nil] at hp; exact hp), I.hok, I.len⟩
theorem Inv.ofPn {xe : Value → Shared → Prop} {pins' : List (Addr × Obj)} (ok : X.Ok) (I : Inv { X with pn := X.pn ++ pins, xe := xe } pins' σ H s) : Inv X pins σ H s :=
  ⟨ok, I.os, I.bare, I.base, I.loc, I.cell, I.free, I.freeC, fun p hp => I.pin p (List.mem_append_left _ hp), I.hok, I.len⟩
abbrev Cx.caught (X : Cx) (e : Addr) : Cx := { X with A := X.A.mark (some (.ref e)), calm := false, pn := X.pn, xe := fun _ _ => False }
theorem Inv.toCaught (I : Inv X pins σ H s) (e : Addr) : Inv (X.caught e) pins σ H s :=
  ⟨I.ok.re (X.A.mark (some (.ref e))) rfl false (fun z => nomatch z) _ _, I.os, I.bare, I.base, I.loc, I.cell, I.free, I.freeC, I.pin, I.hok, I.len⟩
theorem Inv.ofCaught {e : Addr} (ok : X.Ok) (I : Inv (X.caught e) pins σ H s) : Inv X pins σ H s :=
  ⟨ok, I.os, I.bare, I.base, I.loc, I.cell, I.free, I.freeC, I.pin, I.hok, I.len⟩
end
theorem excMatches_K {M : Model} {A : Around} {E : Value → Shared → Prop} {s : Shared} {K : PySem.W.Frag} {e C D : Addr} {oe : Obj} {Q : Bool → Shared → Prop} (X : K.In s.heap) (he : s.heap.get? e = some oe) (hcls : oe.cls = .ref C)
    (hx : PySem.W.exmOne K (.ref C) (.ref D) = some true) (h : Q true s) : wpAny M A (excMatches (.ref e) (.ref D)) Q E s :=
  (PySem.W.exm_one (M := M) X (hcls ▸ (PySem.W.Looks.ld he).andThen .now) hx).here h
def ExcIs (C : Value) (e : Addr) : HO := HO.ext fun h => ∃ o vs, h.get? e = some o ∧ o.cls = C ∧ o.data = .fields vs
end L2
set_option Elab.async false
set_option linter.all false
set_option maxRecDepth 100000
namespace L2
open PySem PySem.Spec PyProof.Rows PySem.W
inductive ClsV : V → Value → Prop where
  | ty (n : String) : ClsV (.ty n) (.type n)
  | own (a : Addr) : ClsV (.ref a) (.ref a)
section
variable {X : Cx}
theorem call_isinst : CallR X (.builtin "isinstance") (fun xs H Q => ∃ x c t u b, xs = [x, c] ∧ ClsV c u ∧ TyOf X.K H x t ∧ PySem.W.kitOne X.K t u = some b ∧ Q (.bl b) H) := by
  intro pins s σ H xs us Q I r h
  obtain ⟨x, c, t, u, b, rfl, rc, ty, e, q⟩ := h
  obtain ⟨ux, uc, rfl, rx, rc'⟩ := vals2 r
  have ec : uc = u := by
    cases rc with
    | ty n => exact rc'
    | own a => exact rc'
  subst ec
  exact isinst_ok I rx ty e fun tk => ⟨.bl b, H, I.tok _, rfl, q⟩
end
structure ExcCls (K : Frag) (C : Addr) : Prop where
  l1 : findIn K (.ref C) "__getattribute__" = some (some (.builtin "BaseException.__getattribute__"))
  l2 : findIn K (.ref C) "__getattr__" = some none
  l3 : findIn K (.ref C) "__class__" = some (some (.builtin "object.__class__"))
  c1 : (clsIn K C).isSome = true
  m1 : mroIn K C (.type "object") = some true
  m2 : mroIn K C (.type "BaseException") = some true
section
variable {prog : Program} {w : World} {A : Around} {E : Value → Shared → Prop} {K : Frag} {e C : Addr} {o : Obj} {s : Shared}
open Builtin Builtin.ObjectAttr Builtin.Getset_descriptor PySem.Calls in
theorem exc_class_get {R : Result → Shared → Prop} {tp : Value} (X : K.In s.heap) (Z : ExcCls K C) (hx : s.heap.get? e = some o) (hc : o.cls = .ref C)
    (h : R (.ok (.ret (.ref C))) s) : codeAny (model prog w) A (.call (.builtin "getset_descriptor.__get__") ⟨[.builtin "object.__class__", .ref e, tp], []⟩) R s := by
  obtain ⟨hh, g, dr, t, os⟩ := s
  have L0 : Looks (model prog w) hh (typeOf (.ref e)) (.ref C) := hc ▸ (Looks.ld hx).andThen .now
  have L1 := looks_mroIn (M := model prog w) X Z.m1
  refine codeAny_call_builtin KF.slot_gs.plain KF.entry_gs (KF.slot_gs.check _ _ _ _ _ _ _ _ KF.type_class (KF.args_gs _ _ _) ?_)
  unfold Builtin.«getset_descriptor.__get__» descrGet
  rw [dga_obj]
  refine wpAny_bind (wpAny_pure ?_)
  unfold descrGetter descrCheckInstance descrNameAndClass isInstance
  simp only [KF.owner_class]
  repeat lk
  refine ⟨Code.quiet_builtin _ (by decide +kernel), codeAny_builtin KF.entry_class ?_⟩
  unfold Builtin.«object.__class__» shownTypeOf
  repeat lk
  exact h
theorem exc_ga_check {M : Model} {nameV : Value} {Q : Unit → Shared → Prop} (X : K.In s.heap) (Z : ExcCls K C) (hx : s.heap.get? e = some o) (hc : o.cls = .ref C) (hq : Q () s) :
    wpAny M A (checkBuiltinCall "BaseException.__getattribute__" ⟨[.ref e, nameV], []⟩) Q E s := by
  have hk : builtinKind "BaseException.__getattribute__" = some .slot := by decide +kernel
  have hsplit : splitId "BaseException.__getattribute__" = some ("BaseException", "__getattribute__") := by decide +kernel
  have ha := F.args_bexc_ga (.ref e) nameV
  obtain ⟨hh, g, dr, t, os⟩ := s
  have L0 : Looks M hh (typeOf (.ref e)) (.ref C) := hc ▸ (Looks.ld hx).andThen .now
  have L1 := looks_mroIn (M := M) X Z.m2
  have LI : Looks M hh (isInstance (.ref e) (.type "BaseException")) true := L0.andThen L1
  simp only [checkBuiltinCall, hk, hsplit]
  refine wpAny_bind (LI.at ?_)
  repeat (first | assumption | wp_step)
theorem exc_ga_entry {tk : Tok} {Q : Fin → Shared → Prop} (X : K.In s.heap) (Z : ExcCls K C) (hx : s.heap.get? e = some o) (hc : o.cls = .ref C) (hq : Q (.done (.ret (.ref C))) s) :
    wpAny (model prog w) A (Builtin.«object.__getattribute__» ⟨[.ref e, .str "__class__" tk], []⟩) Q E s := by
  obtain ⟨hh, g, dr, t, os⟩ := s
  have L0 : Looks (model prog w) hh (typeOf (.ref e)) (.ref C) := hc ▸ (Looks.ld hx).andThen .now
  have L3 := looks_findIn (M := model prog w) X Z.l3
  have f5 := KF.type_class
  have f6 := F.slot_gs_get.lookup
  have f7 := F.slot_gs_set.lookup
  repeat (any_goals (first | assumption | with_reducible refine L0.at ?_ | with_reducible refine L3.at ?_ | wp_step))
  refine exc_class_get X Z hx hc ?_
  repeat (any_goals (first | assumption | wp_step))
theorem exc_class_attr {Q : Option Value → Shared → Prop} (X : K.In s.heap) (Z : ExcCls K C) (hx : s.heap.get? e = some o) (hc : o.cls = .ref C) (h : Q (some (.ref C)) { s with toks := s.toks + 1 }) :
    wpAny (model prog w) A (getAttr? (.ref e) "__class__") Q E s := by
  obtain ⟨hh, g, dr, t, os⟩ := s
  have L0 : Looks (model prog w) hh (typeOf (.ref e)) (.ref C) := hc ▸ (Looks.ld hx).andThen .now
  have L1 := looks_findIn (M := model prog w) X Z.l1
  have L2 := looks_findIn (M := model prog w) X Z.l2
  have f3 := F.excAttr_ValueError.ga.bind (.ref e)
  have hx2 : (Value.builtin "BaseException.__getattribute__" == Value.builtin "object.__getattribute__") = false := by decide +kernel
  have hx0 : ∀ ex : Bool, (ex && onTheHeap (Value.builtin "BaseException.__getattribute__")) = false := fun ex => by cases ex <;> rfl
  have hx1 : (onTheHeap (Value.ref C) && Value.builtin "BaseException.__getattribute__" == Value.builtin "object.__getattribute__") = false := by rw [hx2]; rfl
  unfold getAttr?
  repeat (any_goals (first | assumption | with_reducible refine L0.at ?_ | with_reducible refine L1.at ?_ | with_reducible refine L2.at ?_ | wp_step))
  refine codeAny_call_builtin F.excAttr_ValueError.ga.plain F.entry_bexc_ga (exc_ga_check X Z hx hc (exc_ga_entry X Z hx hc ?_))
  repeat (any_goals (first | assumption | wp_step))
theorem kitx_exc (Z : ExcCls K C) : KitX K (.ref e) (.ref C) (fun h => ∃ o, h.get? e = some o ∧ o.cls = .ref C) where
  ty := fun M h _ ⟨o, h1, h2⟩ => h2 ▸ (Looks.ld h1).andThen .now
  it := fun M h X _ => by
    have c1 := Z.c1
    unfold clsIn at c1
    split at c1
    · rename_i c' d' cd' sl' ho
      intro A' Q' E' s' k q
      unfold isType loadHead
      exact wpAny_bind (wpAny_loadPart (k _ _ (X _ _ ho)) (wpAny_pure q))
    · cases c1
  ne := fun h tp dd its n sl X htp => by
    refine Bool.eq_false_iff.mpr fun q => ?_
    have e' : C = tp := Value.ref.inj (beq_iff_eq.mp q)
    subst e'
    have c1 := Z.c1
    unfold clsIn at c1
    split at c1
    · rename_i c' d' cd' sl' ho
      have z := (X _ _ ho).symm.trans htp
      cases z
    · cases c1
  ca := fun X ⟨o, h1, h2⟩ k => exc_class_attr X Z h1 h2 k
end
section
variable {X : Cx}
theorem call_isinstE : CallR X (.builtin "isinstance") (fun xs H Q => ∃ e c C u b, xs = [.ref e, c] ∧ ClsV c u ∧ H e = some (ExcIs (.ref C) e) ∧ ExcCls X.K C ∧ PySem.W.kitOne X.K (.ref C) u = some b ∧ Q (.bl b) H) := by
  intro pins s σ H xs us Q I r h
  obtain ⟨e, c, C, u, b, rfl, rc, he, Z, k, q⟩ := h
  obtain ⟨ux, uc, rfl, rx, rc'⟩ := vals2 r
  have ec : uc = u := by
    cases rc with
    | ty n => exact rc'
    | own a => exact rc'
  subst ec
  cases (show ux = Value.ref e from rx)
  obtain ⟨⟨o, vs, h1, h2, _⟩, _, _⟩ := (show ObjOk X.prog X.w H s.heap e (ExcIs (.ref C) e) from I.hok e _ he)
  exact kia_one (kitx_exc Z) I.kIn ⟨o, h1, h2⟩ k (fun z => nomatch z) fun tk => ⟨.bl b, H, I.tok _, rfl, q⟩
end
end L2
namespace L2
open PySem PySem.Spec PyProof.Rows
section
variable {X : Cx} {a b : Expr} {ta : TE}
def eqVs (xs ys : List V) : Bool := (List.range (min xs.length ys.length)).all (fun j => eqV (xs.getD j .non) (ys.getD j .non)) && xs.length == ys.length
def rEqT (K : PySem.W.Frag) (neg : Bool) : R2 := fun x y H Q => ∃ p p' xs ys, x = .ref p ∧ y = .ref p' ∧ SqT K H p xs ∧ SqT K H p' ys ∧ xs.all flatV = true ∧ ys.all flatV = true ∧ Q (.bl (neg ^^ eqVs xs ys)) H
theorem eqAt_items {A : Around} {s : Shared} {xs ys : List V} {us vs : List Value} (r : Vals xs us) (r' : Vals ys vs) (fx : xs.all flatV = true) (fy : ys.all flatV = true) (j : Nat) (h1 : j < us.toArray.size) (h2 : j < vs.toArray.size) :
    SeqAt.EqAt A s us.toArray[j] vs.toArray[j] (eqV (xs.getD j .non) (ys.getD j .non)) := by
  have e1 : us[j]? = some us.toArray[j] := by simp at h1; simp [h1]
  have e2 : vs[j]? = some vs.toArray[j] := by simp at h2; simp [h2]
  have l1 : j < xs.length := by rw [r.length]; simpa using h1
  have l2 : j < ys.length := by rw [r'.length]; simpa using h2
  have g1 : xs[j]? = some (xs.getD j .non) := by simp [List.getD, l1]
  have g2 : ys[j]? = some (ys.getD j .non) := by simp [List.getD, l2]
  obtain ⟨u, hu, ru⟩ := r.get g1
  obtain ⟨v, hv, rv⟩ := r'.get g2
  rw [e1] at hu
  rw [e2] at hv
  rw [Option.some.inj hu, Option.some.inj hv]
  exact eqAt_V ru rv (List.all_eq_true.mp fx _ (List.mem_of_getElem? g1)) (List.all_eq_true.mp fy _ (List.mem_of_getElem? g2))
theorem op_eqT (hu : X.A.units < cLine) : OpR X (compareOp .Eq) (rEqT X.K false) := by
  intro pins s σ H x y v u Q I rx ry h
  obtain ⟨p, p', xs, ys, rfl, rfl, hx, hy, fx, fy, q⟩ := h
  cases (show v = Value.ref p from rx)
  cases (show u = Value.ref p' from ry)
  obtain ⟨its, r, pl, hz⟩ := I.tuple hx
  obtain ⟨its', r', pl', hz'⟩ := I.tuple hy
  refine SeqAt.eq_tupleAt pl pl' hu (fun j h1 h2 => eqAt_items r r' fx fy j h1 h2) ⟨.bl _, H, I, rfl, ?_⟩
  rw [List.size_toArray, List.size_toArray, ← r.length, ← r'.length]
  simpa [eqVs] using q
theorem op_neT (hu : X.A.units < cLine) : OpR X (compareOp .NotEq) (rEqT X.K true) := by
  intro pins s σ H x y v u Q I rx ry h
  obtain ⟨p, p', xs, ys, rfl, rfl, hx, hy, fx, fy, q⟩ := h
  cases (show v = Value.ref p from rx)
  cases (show u = Value.ref p' from ry)
  obtain ⟨its, r, pl, hz⟩ := I.tuple hx
  obtain ⟨its', r', pl', hz'⟩ := I.tuple hy
  refine SeqAt.RcNeAt.tuples pl pl' hu (fun j h1 h2 => eqAt_items r r' fx fy j h1 h2) X.prog X.w X.xe _ ⟨.bl _, H, I, rfl, ?_⟩
  rw [List.size_toArray, List.size_toArray, ← r.length, ← r'.length]
  simpa [eqVs] using q
theorem op_eqU (hu : X.A.units < cLine) : OpR X (compareOp .Eq) (fun x y H Q => rEq x y H Q ∨ rEqT X.K false x y H Q) := op_eq.or (op_eqT hu)
theorem op_neU (hu : X.A.units < cLine) : OpR X (compareOp .NotEq) (fun x y H Q => rNe x y H Q ∨ rEqT X.K true x y H Q) := op_ne.or (op_neT hu)
theorem call_isiU : CallR X (.builtin "isinstance") (fun xs H Q => (∃ x c t u b, xs = [x, c] ∧ ClsV c u ∧ TyOf X.K H x t ∧ PySem.W.kitOne X.K t u = some b ∧ Q (.bl b) H) ∨
    ∃ e c C u b, xs = [.ref e, c] ∧ ClsV c u ∧ H e = some (ExcIs (.ref C) e) ∧ ExcCls X.K C ∧ PySem.W.kitOne X.K (.ref C) u = some b ∧ Q (.bl b) H) := call_isinst.or call_isinstE
theorem RelV.bool_iff {x : V} {v : Value} {k : Bool} (r : RelV x v) : (v == Value.bool k) = decide (x = .bl k) := by
  cases x with
  | non => cases (show v = Value.none from r); rfl
  | bl c => cases (show v = Value.bool c from r); cases c <;> cases k <;> rfl
  | int _ => obtain ⟨t, rfl⟩ := r; rfl
  | str _ => obtain ⟨t, rfl⟩ := r; rfl
  | byt _ => obtain ⟨t, rfl⟩ := r; rfl
  | flt _ => obtain ⟨t, rfl⟩ := r; rfl
  | ref p => cases (show v = Value.ref p from r); rfl
  | ty n => cases (show v = Value.type n from r); rfl
theorem plainIs_rel {x : V} {v : Value} {k : Bool} (r : RelV x v) : plainIs v (.bool k) = true := by
  cases x with
  | non => cases (show v = Value.none from r); rfl
  | bl c => cases (show v = Value.bool c from r); rfl
  | int _ => obtain ⟨t, rfl⟩ := r; rfl
  | str _ => obtain ⟨t, rfl⟩ := r; rfl
  | byt _ => obtain ⟨t, rfl⟩ := r; rfl
  | flt _ => obtain ⟨t, rfl⟩ := r; rfl
  | ref p => cases (show v = Value.ref p from r); rfl
  | ty n => cases (show v = Value.type n from r); rfl
def tIsB (neg k : Bool) (ta : TE) : TE := fun σ H Q => ta σ H fun x H1 => Q (.bl (neg ^^ decide (x = .bl k))) H1
theorem pc_notB {k : Bool} {j pos'} (ha : PE X a ta) : PC X .IsNot a (.Constant (.bool k) j pos') (tIsB true k ta) := by
  intro pins s σ H Q I h
  refine thn (ha pins s σ H _ I h) fun v s1 ⟨x, H1, I1, r1, q1⟩ => ?_
  exact Constant_bool (wpAny_isNot_plain (plainIs_rel r1) ⟨.bl _, H1, I1, by rw [r1.bool_iff, Bool.true_xor]; rfl, q1⟩)
end
end L2
set_option Elab.async false
set_option linter.all false
set_option maxRecDepth 100000
namespace L2
open PySem PySem.Spec PyProof.Rows
abbrev T (l : List Nat) : V := .str ⟨⟨l⟩⟩
def cs (x : Str) : List Nat := x.cps.toList
section
variable {X : Cx} {e a b c : Expr} {pos : Pos}
theorem PE.imp {t t' : TE} (h : PE X e t) (i : ∀ σ H Q, t' σ H Q → t σ H Q) : PE X e t' := fun pins s σ H Q I q => h pins s σ H Q I (i σ H Q q)
theorem PT.imp {t t' : TT} (h : PT X e t) (i : ∀ σ H Q, t' σ H Q → t σ H Q) : PT X e t' := fun pins s σ H Q I q => h pins s σ H Q I (i σ H Q q)
theorem OpR.imp {f : Value → Value → Sem Value} {r r' : R2} (h : OpR X f r) (i : ∀ x y H Q, r' x y H Q → r x y H Q) : OpR X f r' := fun pins s σ H x y v u Q I rx ry q => h pins s σ H x y v u Q I rx ry (i _ _ _ _ q)
theorem UnR.imp {f : Value → Sem Value} {r r' : V → Hp → VK → Prop} (h : UnR X f r) (i : ∀ x H Q, r' x H Q → r x H Q) : UnR X f r' := fun pins s σ H x v Q I rx q => h pins s σ H x v Q I rx (i _ _ _ q)
theorem CallR.imp {f : Value} {r r' : List V → Hp → VK → Prop} (h : CallR X f r) (i : ∀ x H Q, r' x H Q → r x H Q) : CallR X f r' := fun pins s σ H x v Q I rx q => h pins s σ H x v Q I rx (i _ _ _ q)
theorem IxR.imp {r r' : R2} (h : IxR X r) (i : ∀ x y H Q, r' x y H Q → r x y H Q) : IxR X r' := fun va sl pins s σ H x y v u Q I rx ry q hs => h va sl pins s σ H x y v u Q I rx ry (i _ _ _ _ q) hs
theorem MtR.imp {id : String} {r r' : V → List V → Hp → VK → Prop} (h : MtR X id r) (i : ∀ x xs H Q, r' x xs H Q → r x xs H Q) : MtR X id r' := fun pins s σ H x xs v us Q I rx rs q => h pins s σ H x xs v us Q I rx rs (i _ _ _ _ q)
def fVar (i : Nat) : TE := fun σ H Q => match σ[i]? with
  | some (some v) => Q v H
  | _ => False
theorem fv (i : Nat) {x : Str} (hN : X.N[i]? = some x := by rfl) (hv : Vis X.env.scope x := by first | exact Or.inl rfl | exact Or.inr (Or.inl rfl) | exact Or.inr (Or.inr rfl)) (hd : (x == ("__debug__" : Str)) = false := by decide)
    (hcd : (x == ("__classdict__" : Str)) = false := by decide) : PE X (.Name x pos) (fVar i) := (pe_var hN hv hd hcd).imp fun σ H Q h => by
  unfold fVar at h
  split at h
  · exact ⟨_, by assumption, h⟩
  · exact h.elim
theorem pe_strT {x : Str} {j} (l : List Nat) (h : x = ⟨⟨l⟩⟩ := by decide +kernel) : PE X (.Constant (.str x) j pos) (tC (T l)) := h ▸ pe_str
def gAdd : R2
  | .int i, .int j, H, Q => Q (.int (i + j)) H
  | .str i, .str j, H, Q => (cs i).length + (cs j).length ≤ sizeLine ∧ Q (T (cs i ++ cs j)) H
  | _, _, _, _ => False
theorem app_cs (i j : Str) : V.str (i ++ j) = T (cs i ++ cs j) := by
  show V.str ⟨i.cps ++ j.cps⟩ = V.str ⟨⟨i.cps.toList ++ j.cps.toList⟩⟩
  congr 1
  congr 1
  exact (Array.ext' (by simp))
theorem fo_add : OpR X (binaryOp .Add) gAdd := (op_add.or op_add_str).imp fun x y H Q h => by
  unfold gAdd at h
  split at h
  · exact .inl ⟨_, _, rfl, rfl, h⟩
  · refine .inr ⟨_, _, rfl, rfl, by simpa [cs, Str.length] using h.1, ?_⟩
    rw [app_cs]; exact h.2
  · exact h.elim
def gI (g : Int → Int → V) : R2
  | .int i, .int j, H, Q => Q (g i j) H
  | _, _, _, _ => False
def gIC (C : Int → Int → Prop) (g : Int → Int → V) : R2
  | .int i, .int j, H, Q => C i j ∧ Q (g i j) H
  | _, _, _, _ => False
theorem gI_to {g : Int → Int → V} : ∀ x y H Q, gI g x y H Q → rI0 g x y H Q := fun x y H Q h => by
  unfold gI at h; split at h
  · exact ⟨_, _, rfl, rfl, h⟩
  · exact h.elim
theorem gIC_to {C : Int → Int → Prop} {g : Int → Int → V} : ∀ x y H Q, gIC C g x y H Q → rI C g x y H Q := fun x y H Q h => by
  unfold gIC at h; split at h
  · exact ⟨_, _, rfl, rfl, h.1, h.2⟩
  · exact h.elim
theorem fo_sub : OpR X (binaryOp .Sub) (gI fun i j => .int (i - j)) := op_sub.imp gI_to
theorem fo_mul : OpR X (binaryOp .Mult) (gIC CMul fun i j => .int (i * j)) := op_mul.imp gIC_to
theorem fo_mod : OpR X (binaryOp .Mod) (gIC (fun _ j => 0 < j) fun i j => .int (i % j)) := op_mod.imp gIC_to
theorem fo_fdiv : OpR X (binaryOp .FloorDiv) (gIC CDiv fun i j => .int (i / j)) := op_fdiv.imp gIC_to
def gNeg : V → Hp → VK → Prop
  | .int i, H, Q => Q (.int (-i)) H
  | _, _, _ => False
theorem fu_neg : UnR X (unaryOp .USub) gNeg := un_neg.imp fun x H Q h => by
  unfold gNeg at h; split at h
  · exact ⟨_, rfl, h⟩
  · exact h.elim
def leN (a b : List Nat) : Bool := !decide (b < a)
theorem op_le_str : OpR X (compareOp .LtE) (fun x y H Q => ∃ i j, x = .str i ∧ y = .str j ∧ Q (.bl (leN (cs i) (cs j))) H) := by
  intro pins s σ H x y v u Q I rx ry h
  obtain ⟨i, j, rfl, rfl, q⟩ := h
  obtain ⟨t, rfl⟩ := rx
  obtain ⟨t', rfl⟩ := ry
  exact PySem.P.le_str ⟨.bl _, H, I, rfl, q⟩
def gLe : R2
  | .int i, .int j, H, Q => Q (.bl (decide (i ≤ j))) H
  | .str i, .str j, H, Q => Q (.bl (leN (cs i) (cs j))) H
  | _, _, _, _ => False
theorem fo_le : OpR X (compareOp .LtE) gLe := (op_le.or op_le_str).imp fun x y H Q h => by
  unfold gLe at h; split at h
  · exact .inl ⟨_, _, rfl, rfl, h⟩
  · exact .inr ⟨_, _, rfl, rfl, h⟩
  · exact h.elim
def gLt : R2
  | .int i, .int j, H, Q => Q (.bl (decide (i < j))) H
  | .str i, .str j, H, Q => Q (.bl (decide (cs i < cs j))) H
  | _, _, _, _ => False
theorem fo_lt : OpR X (compareOp .Lt) gLt := (op_lt.or op_lt_str).imp fun x y H Q h => by
  unfold gLt at h; split at h
  · exact .inl ⟨_, _, rfl, rfl, h⟩
  · exact .inr ⟨_, _, rfl, rfl, h⟩
  · exact h.elim
def eqS : V → V → Option Bool
  | .int i, .int j => some (decide (i = j))
  | .bl i, .bl j => some (decide (i = j))
  | .str i, .str j => some (decide (cs i = cs j))
  | .non, .non => some true
  | .non, .int _ => some false | .int _, .non => some false | .non, .bl _ => some false | .bl _, .non => some false | .non, .str _ => some false | .str _, .non => some false
  | .int _, .str _ => some false | .str _, .int _ => some false | .bl _, .str _ => some false | .str _, .bl _ => some false
  | _, _ => none
theorem str_eq_iff (i j : Str) : V.str i = V.str j ↔ cs i = cs j := by
  constructor
  · intro h; injection h with h; rw [h]
  · intro h
    congr 1
    obtain ⟨⟨a⟩⟩ := i
    obtain ⟨⟨b⟩⟩ := j
    have h' : a = b := h
    rw [h']
theorem eqS_scal {x y : V} {k : Bool} (h : eqS x y = some k) : scal x y = true ∧ decide (x = y) = k := by
  unfold eqS at h
  split at h <;> (first | cases h) <;> refine ⟨rfl, ?_⟩
  case h_1 i j => exact decide_eq_decide.mpr (by simp)
  case h_2 i j => exact decide_eq_decide.mpr (by simp)
  case h_3 i j => exact decide_eq_decide.mpr (str_eq_iff i j)
  all_goals simp
variable {ta tb tc : TE} {rest : List Expr}
def kB (Q : Bool → Hp → Prop) : VK := fun x H => match x with
  | .bl k => Q k H
  | _ => False
def fTest (t : TE) : TT := fun σ H Q => t σ H (kB Q)
theorem kB_of {Q : Bool → Hp → Prop} {x : V} {H : Hp} (h : kB Q x H) : ∃ k, x = .bl k ∧ Q k H := by
  unfold kB at h
  split at h
  · exact ⟨_, rfl, h⟩
  · exact h.elim
theorem ft_cmp {op : CmpOp} {r : R2} (ho : OpR X (compareOp op) r) (ha : PE X a ta) (hb : PE X b tb) (hm : behindInMarks op b = false) : PT X (.Compare a [op] [b] pos) (fTest (tOp r ta tb)) := by
  intro pins s σ H Q I h
  refine wpAny_isTrue_Compare1 (thn (ha pins s σ H _ I h) fun v s1 ⟨x, H1, I1, r1, q1⟩ => thn (hb pins s1 σ H1 _ I1 q1) fun u s2 ⟨y, H2, I2, r2, q2⟩ =>
    thn (ho pins s2 σ H2 x y v u _ I2 r1 r2 q2) fun c s3 ⟨z, H3, I3, r3, q3⟩ => ?_) hm
  obtain ⟨k, e, q3⟩ := kB_of q3
  subst e
  cases r3
  exact wpAny_truthy_bool ⟨H3, I3, q3⟩
theorem ft_is {op : CmpOp} {t : TE} (h : PC X op a b t) (h1 : behindInMarks op b = false := by first | exact nobehind _ (by decide) (by decide) | rfl) : PT X (.Compare a [op] [b] pos) (fTest t) := by
  intro pins s σ H Q I hw
  refine wpAny_isTrue_Compare1 (thn (h pins s σ H _ I hw) fun v s1 h1 => thn h1 fun u s2 h2 => thn h2 fun c s3 ⟨x, H1, I1, r1, q1⟩ => ?_) h1
  obtain ⟨d, rfl, q⟩ := kB_of q1
  cases r1
  exact wpAny_truthy_bool ⟨H1, I1, q⟩
theorem ft_val {t : TE} (h : PE X e t) (he : ∀ whole, isTrue e X.env whole = (do let v ← whole; standAt e.pos; holding [v] (truthy v)) := by intro _; rfl) : PT X e (fTest t) := by
  intro pins s σ H Q I hw
  refine isTrue_plain (thn (h pins s σ H _ I hw) fun v s1 ⟨x, H1, I1, r1, q1⟩ => ?_) (he _)
  obtain ⟨d, rfl, q⟩ := kB_of q1
  cases r1
  exact wpAny_truthy_bool ⟨H1, I1, q⟩
def fChain (r r' : R2) (ta tb tc : TE) : TE := fun σ H Q => ta σ H fun x H1 => tb σ H1 fun y H2 => r x y H2 (kB fun k H3 => if k = true then tc σ H3 fun w' H4 => r' y w' H4 Q else Q (.bl false) H3)
theorem fe_chain {op op' : CmpOp} {r r' : R2} (ho : OpR X (compareOp op) r) (ho' : OpR X (compareOp op') r') (ha : PE X a ta) (hb : PE X b tb) (hc : PE X c tc)
    (hm : lastMarks [op, op'] [b, c] = false := by with_unfolding_all rfl) : PE X (.Compare a [op, op'] [b, c] pos) (fChain r r' ta tb tc) := by
  intro pins s σ H Q I h
  refine Compare_chain (thn (ha pins s σ H _ I h) fun v s1 ⟨x, H1, I1, r1, q1⟩ => chain_link (thn (hb pins s1 σ H1 _ I1 q1) fun u s2 ⟨y, H2, I2, r2, q2⟩ =>
    thn (ho pins s2 σ H2 x y v u _ I2 r1 r2 q2) fun d s3 ⟨z, H3, I3, r3, q3⟩ => ?_)) hm
  obtain ⟨k, e, q3⟩ := kB_of q3
  subst e
  cases r3
  refine wpAny_truthy_bool ?_
  cases k with
  | false => exact ite_ff ⟨.bl false, H3, I3, rfl, q3⟩
  | true => exact ite_tt (chain_last (thn (hc pins s3 σ H3 _ I3 q3) fun w' s4 ⟨z', H4, I4, r4, q4⟩ => ho' pins s4 σ H4 y z' u w' Q I4 r2 r4 q4))
def fAnd (ta tb : TE) : TE := fun σ H Q => ta σ H (kB fun c H1 => if c = true then tb σ H1 Q else Q (.bl false) H1)
def fOr (ta tb : TE) : TE := fun σ H Q => ta σ H (kB fun c H1 => if c = true then Q (.bl true) H1 else tb σ H1 Q)
def fNot (ta : TE) : TE := fun σ H Q => ta σ H (kB fun c H1 => Q (.bl (!c)) H1)
theorem fe_and (ha : PE X a ta) (hb : PE X (.BoolOp .And (b :: rest) pos) tb) : PE X (.BoolOp .And (a :: b :: rest) pos) (fAnd ta tb) := by
  intro pins s σ H Q I h
  refine BoolOp_and (thn (ha pins s σ H _ I h) fun v s1 ⟨x, H1, I1, r1, q1⟩ => ?_)
  obtain ⟨c, rfl, q1⟩ := kB_of q1
  cases r1
  refine wpAny_truthy_bool ?_
  cases c with
  | true => exact hb pins s1 σ H1 Q I1 q1
  | false => exact ⟨.bl false, H1, I1, rfl, q1⟩
theorem fe_or (ha : PE X a ta) (hb : PE X (.BoolOp .Or (b :: rest) pos) tb) : PE X (.BoolOp .Or (a :: b :: rest) pos) (fOr ta tb) := by
  intro pins s σ H Q I h
  refine BoolOp_or (thn (ha pins s σ H _ I h) fun v s1 ⟨x, H1, I1, r1, q1⟩ => ?_)
  obtain ⟨c, rfl, q1⟩ := kB_of q1
  cases r1
  refine wpAny_truthy_bool ?_
  cases c with
  | false => exact hb pins s1 σ H1 Q I1 q1
  | true => exact ⟨.bl true, H1, I1, rfl, q1⟩
theorem fe_not (ha : PE X a ta) : PE X (.UnaryOp .Not a pos) (fNot ta) := by
  intro pins s σ H Q I h
  refine UnaryOp_ (thn (ha pins s σ H _ I h) fun v s1 ⟨x, H1, I1, r1, q1⟩ => ?_)
  obtain ⟨c, rfl, q1⟩ := kB_of q1
  cases r1
  exact not_of (wpAny_truthy_bool ⟨.bl (!c), H1, I1, rfl, q1⟩)
def gAbs : List V → Hp → VK → Prop
  | [.int i], H, Q => Q (.int (if i < 0 then -i else i)) H
  | _, _, _ => False
def gMin : List V → Hp → VK → Prop
  | [.int i, .int j], H, Q => Q (.int (if j < i then j else i)) H
  | _, _, _ => False
theorem fc_min (hc : X.calm = true) : CallR X (.builtin "min") gMin := (call_min2 hc).imp fun x H Q h => by
  unfold gMin at h; split at h
  · exact ⟨_, _, rfl, h⟩
  · exact h.elim
def gMax : List V → Hp → VK → Prop
  | [.int i, .int j], H, Q => Q (.int (if j > i then j else i)) H
  | _, _, _ => False
theorem fc_max (hc : X.calm = true) : CallR X (.builtin "max") gMax := (call_max2 hc).imp fun x H Q h => by
  unfold gMax at h; split at h
  · exact ⟨_, _, rfl, h⟩
  · exact h.elim
def gLen (K : PySem.W.Frag) : List V → Hp → VK → Prop
  | [.str y], H, Q => (cs y).length ≤ sizeLine ∧ Q (.int (cs y).length) H
  | [.ref p], H, Q => ∃ xs, (SqL K H p xs ∨ SqT K H p xs) ∧ Q (.int xs.length) H
  | _, _, _ => False
theorem fc_len : CallR X (.builtin "len") (gLen X.K) := call_len.imp fun x H Q h => by
  unfold gLen at h; split at h
  · exact ⟨_, _, rfl, ⟨by simpa [cs, Str.length] using h.1, rfl⟩, by simpa [cs, Str.length] using h.2⟩
  · obtain ⟨xs, hx, q⟩ := h
    rcases hx with hx | hx
    · exact ⟨_, _, rfl, .inl ⟨xs, hx, rfl⟩, q⟩
    · exact ⟨_, _, rfl, .inr ⟨xs, hx, rfl⟩, q⟩
  · exact h.elim
def kindV (H : Hp) : V → Option String
  | .non => some "NoneType"
  | .bl _ => some "bool"
  | .int _ => some "int"
  | .str _ => some "str"
  | .ref p => match H p with
    | some (.lst _) => some "list"
    | some (.frz _ (.lst _)) => some "list"
    | some (.tup _) => some "tuple"
    | some (.dK _) => some "dict"
    | _ => none
  | _ => none
def isiT (t n : String) : Bool := t == n || (t == "bool" && n == "int")
def bKind (t : String) : Prop := t = "NoneType" ∨ t = "bool" ∨ t = "int" ∨ t = "str" ∨ t = "list" ∨ t = "tuple" ∨ t = "dict"
theorem kit_b {K : PySem.W.Frag} {t n : String} (h : bKind t) (hn : n = "int" ∨ n = "bool" ∨ n = "str" ∨ n = "list" ∨ n = "tuple" ∨ n = "dict") : PySem.W.kitOne K (.type t) (.type n) = some (isiT t n) := by
  rcases h with rfl | rfl | rfl | rfl | rfl | rfl | rfl <;> rcases hn with rfl | rfl | rfl | rfl | rfl | rfl <;> kernel_rfl
theorem kindV_ty {K : PySem.W.Frag} {H : Hp} {x : V} {t : String} (h : kindV H x = some t) : TyOf K H x (.type t) ∧ bKind t := by
  unfold kindV at h
  split at h
  · cases h; exact ⟨.non, by simp [bKind]⟩
  · cases h; exact ⟨.bl _, by simp [bKind]⟩
  · cases h; exact ⟨.int _, by simp [bKind]⟩
  · cases h; exact ⟨.str _, by simp [bKind]⟩
  · split at h
    · rename_i e; cases h; exact ⟨.lst e, by simp [bKind]⟩
    · rename_i e; cases h; exact ⟨.frz e, by simp [bKind]⟩
    · rename_i e; cases h; exact ⟨.tup e, by simp [bKind]⟩
    · rename_i e; cases h; exact ⟨.dK e, by simp [bKind]⟩
    · cases h
  · cases h
def clsN (n : String) : Bool := n == "int" || n == "bool" || n == "str" || n == "list" || n == "tuple" || n == "dict"
def gIsi (K : PySem.W.Frag) : List V → Hp → VK → Prop
  | [x, .ty n], H, Q => (match kindV H x with
    | some t => clsN n = true ∧ Q (.bl (isiT t n)) H
    | none => ∃ e C b, x = .ref e ∧ H e = some (ExcIs (.ref C) e) ∧ ExcCls K C ∧ PySem.W.kitOne K (.ref C) (.type n) = some b ∧ Q (.bl b) H)
  | [.ref e, .ref D], H, Q => ∃ C b, H e = some (ExcIs (.ref C) e) ∧ ExcCls K C ∧ PySem.W.kitOne K (.ref C) (.ref D) = some b ∧ Q (.bl b) H
  | _, _, _ => False
theorem fc_isi : CallR X (.builtin "isinstance") (gIsi X.K) := call_isiU.imp fun xs H Q h => by
  unfold gIsi at h
  split at h
  · rename_i x n
    split at h
    · rename_i t ht
      obtain ⟨ty, hb⟩ := kindV_ty (K := X.K) ht
      obtain ⟨hn, q⟩ := h
      refine .inl ⟨x, _, _, _, _, rfl, .ty n, ty, kit_b hb ?_, q⟩
      simpa [clsN, or_assoc] using hn
    · obtain ⟨e, C, b, rfl, he, Z, k, q⟩ := h
      exact .inr ⟨e, _, C, _, b, rfl, .ty n, he, Z, k, q⟩
  · rename_i e D
    obtain ⟨C, b, he, Z, k, q⟩ := h
    exact .inr ⟨e, _, C, _, b, rfl, .own D, he, Z, k, q⟩
  · exact h.elim
end
section
variable {X : Cx} {a b : Expr} {ta tb : TE} {pos pos' : Pos}
def gIx (K : PySem.W.Frag) : R2
  | .str z, .int i, H, Q => (cs z).length ≤ sizeLine ∧ (match atI (cs z) i with
    | some c => Q (T [c]) H
    | none => False)
  | .ref p, .int i, H, Q => ∃ xs v, (SqL K H p xs ∨ SqT K H p xs) ∧ atI xs i = some v ∧ Q v H
  | _, _, _, _ => False
theorem fx_seq : IxR X (gIx X.K) := ix_seq.imp fun x y H Q h => by
  unfold gIx at h
  split at h
  · obtain ⟨hz, h⟩ := h
    split at h
    · rename_i c hc
      exact .inr (.inr ⟨_, _, c, rfl, rfl, by simpa [cs, Str.length] using hz, hc, h⟩)
    · exact h.elim
  · obtain ⟨xs, v, hs | hs, hv, q⟩ := h
    · exact .inl ⟨_, xs, _, v, rfl, rfl, hs, hv, q⟩
    · exact .inr (.inl ⟨_, xs, _, v, rfl, rfl, hs, hv, q⟩)
  · exact h.elim
def kPick (xs : List V) (H H1 : Hp) (Q : VK) : V → Prop
  | .int i => (match atI xs i with
    | some (.ref q) => H q = none ∧ (match H1 q with
      | some o => plainO o = true ∧ Q (.ref q) (upd H q o)
      | none => False)
    | some v => Q v H
    | none => False)
  | _ => False
end
def sp0 (f : Hp → VK → XK → Prop) : Sp := fun vs H Q E => match vs with
  | [] => f H Q E
  | _ => False
def sp1 (f : V → Hp → VK → XK → Prop) : Sp := fun vs H Q E => match vs with
  | [x] => f x H Q E
  | _ => False
def sp2 (f : V → V → Hp → VK → XK → Prop) : Sp := fun vs H Q E => match vs with
  | [x, y] => f x y H Q E
  | _ => False
def sp3 (f : V → V → V → Hp → VK → XK → Prop) : Sp := fun vs H Q E => match vs with
  | [x, y, z] => f x y z H Q E
  | _ => False
def sp4 (f : V → V → V → V → Hp → VK → XK → Prop) : Sp := fun vs H Q E => match vs with
  | [x, y, z, u] => f x y z u H Q E
  | _ => False
section
variable {vs : List V} {H : Hp} {Q : VK} {E : XK}
theorem sp0.inv {f} (h : sp0 f vs H Q E) : vs = [] ∧ f H Q E := by
  unfold sp0 at h; split at h
  · exact ⟨rfl, h⟩
  · exact h.elim
theorem sp1.inv {f} (h : sp1 f vs H Q E) : ∃ x, vs = [x] ∧ f x H Q E := by
  unfold sp1 at h; split at h
  · exact ⟨_, rfl, h⟩
  · exact h.elim
theorem sp2.inv {f} (h : sp2 f vs H Q E) : ∃ x y, vs = [x, y] ∧ f x y H Q E := by
  unfold sp2 at h; split at h
  · exact ⟨_, _, rfl, h⟩
  · exact h.elim
theorem sp3.inv {f} (h : sp3 f vs H Q E) : ∃ x y z, vs = [x, y, z] ∧ f x y z H Q E := by
  unfold sp3 at h; split at h
  · exact ⟨_, _, _, rfl, h⟩
  · exact h.elim
theorem sp4.inv {f} (h : sp4 f vs H Q E) : ∃ x y z u, vs = [x, y, z, u] ∧ f x y z u H Q E := by
  unfold sp4 at h; split at h
  · exact ⟨_, _, _, _, rfl, h⟩
  · exact h.elim
theorem sp0.len {f} (h : sp0 f vs H Q E) : vs.length = 0 := by rw [(sp0.inv h).1]; rfl
theorem sp1.len {f} (h : sp1 f vs H Q E) : vs.length = 1 := by obtain ⟨_, rfl, _⟩ := sp1.inv h; rfl
theorem sp2.len {f} (h : sp2 f vs H Q E) : vs.length = 2 := by obtain ⟨_, _, rfl, _⟩ := sp2.inv h; rfl
theorem sp3.len {f} (h : sp3 f vs H Q E) : vs.length = 3 := by obtain ⟨_, _, _, rfl, _⟩ := sp3.inv h; rfl
theorem sp4.len {f} (h : sp4 f vs H Q E) : vs.length = 4 := by obtain ⟨_, _, _, _, rfl, _⟩ := sp4.inv h; rfl
end
def asI (x : V) (f : Int → Prop) : Prop := match x with
  | .int i => f i
  | _ => False
def asT (x : V) (f : List Nat → Prop) : Prop := match x with
  | .str y => f (cs y)
  | _ => False
def asB (x : V) (f : Bool → Prop) : Prop := match x with
  | .bl y => f y
  | _ => False
def asR (x : V) (f : Addr → Prop) : Prop := match x with
  | .ref y => f y
  | _ => False
theorem asI.inv {x : V} {f : Int → Prop} (h : asI x f) : ∃ i, x = .int i ∧ f i := by
  unfold asI at h; split at h
  · exact ⟨_, rfl, h⟩
  · exact h.elim
theorem asT.inv {x : V} {f : List Nat → Prop} (h : asT x f) : ∃ l, x = T l ∧ f l := by
  unfold asT at h; split at h
  · exact ⟨_, rfl, h⟩
  · exact h.elim
theorem asB.inv {x : V} {f : Bool → Prop} (h : asB x f) : ∃ i, x = .bl i ∧ f i := by
  unfold asB at h; split at h
  · exact ⟨_, rfl, h⟩
  · exact h.elim
theorem asR.inv {x : V} {f : Addr → Prop} (h : asR x f) : ∃ i, x = .ref i ∧ f i := by
  unfold asR at h; split at h
  · exact ⟨_, rfl, h⟩
  · exact h.elim
def asK (H : Hp) (x : V) (f : String → Prop) : Prop := match kindV H x with
  | some t => f t
  | none => False
theorem asK.inv {H : Hp} {x : V} {f : String → Prop} (h : asK H x f) : ∃ t, kindV H x = some t ∧ bKind t ∧ f t := by
  unfold asK at h; split at h
  · rename_i t ht
    exact ⟨t, ht, (kindV_ty (K := default) ht).2, h⟩
  · exact h.elim
theorem asK.of {H : Hp} {x : V} {f : String → Prop} {t : String} (e : kindV H x = some t) (h : f t) : asK H x f := by unfold asK; rw [e]; exact h
theorem at_get {ns : List Int} {k : Int} (h0 : 0 ≤ k) (h1 : k < ns.length) : atI (ns.map V.int) k = some (.int (ns.getD k.toNat 0)) := by
  obtain ⟨j, rfl⟩ : ∃ j : Nat, k = j := ⟨k.toNat, by omega⟩
  refine atI_nat ?_
  have l : j < ns.length := by omega
  simp [List.getD, l]
section
variable {X : Cx} (K : PySem.W.Frag)
theorem fc_isiK (h : X.K = K := by rfl) : CallR X (.builtin "isinstance") (gIsi K) := h ▸ fc_isi
theorem fc_lenK (h : X.K = K := by rfl) : CallR X (.builtin "len") (gLen K) := h ▸ fc_len
theorem fx_seqK (h : X.K = K := by rfl) : IxR X (gIx K) := h ▸ fx_seq
theorem fi_tupK {tg l : Expr} {tl : TE} (hl : PE X l tl) (h : X.K = K := by rfl) : PI X tg l (iTup K tl) := h ▸ pi_tup hl
theorem fi_listK {tg l : Expr} {tl : TE} (hl : PE X l tl) (h : X.K = K := by rfl) : PI X tg l (iList K tl) := h ▸ pi_list hl
end
theorem kd_bl {H : Hp} {b : Bool} : kindV H (.bl b) = some "bool" := rfl
theorem kd_int {H : Hp} {i : Int} : kindV H (.int i) = some "int" := rfl
theorem kd_str {H : Hp} {s : Str} : kindV H (.str s) = some "str" := rfl
theorem kd_non {H : Hp} : kindV H .non = some "NoneType" := rfl
theorem cl_int : clsN "int" = true := by decide
theorem is_NoneType_int : isiT "NoneType" "int" = false := by decide
theorem is_bool_int : isiT "bool" "int" = true := by decide
theorem is_int_int : isiT "int" "int" = true := by decide
theorem is_str_int : isiT "str" "int" = false := by decide
theorem is_list_int : isiT "list" "int" = false := by decide
theorem is_tuple_int : isiT "tuple" "int" = false := by decide
theorem is_dict_int : isiT "dict" "int" = false := by decide
theorem cl_bool : clsN "bool" = true := by decide
theorem is_NoneType_bool : isiT "NoneType" "bool" = false := by decide
theorem is_bool_bool : isiT "bool" "bool" = true := by decide
theorem is_int_bool : isiT "int" "bool" = false := by decide
theorem is_str_bool : isiT "str" "bool" = false := by decide
theorem is_list_bool : isiT "list" "bool" = false := by decide
theorem is_tuple_bool : isiT "tuple" "bool" = false := by decide
theorem is_dict_bool : isiT "dict" "bool" = false := by decide
theorem cl_str : clsN "str" = true := by decide
theorem is_NoneType_str : isiT "NoneType" "str" = false := by decide
theorem is_bool_str : isiT "bool" "str" = false := by decide
theorem is_int_str : isiT "int" "str" = false := by decide
theorem is_str_str : isiT "str" "str" = true := by decide
theorem is_list_str : isiT "list" "str" = false := by decide
theorem is_tuple_str : isiT "tuple" "str" = false := by decide
theorem is_dict_str : isiT "dict" "str" = false := by decide
theorem cl_list : clsN "list" = true := by decide
theorem is_NoneType_list : isiT "NoneType" "list" = false := by decide
theorem is_bool_list : isiT "bool" "list" = false := by decide
theorem is_int_list : isiT "int" "list" = false := by decide
theorem is_str_list : isiT "str" "list" = false := by decide
theorem is_list_list : isiT "list" "list" = true := by decide
theorem is_tuple_list : isiT "tuple" "list" = false := by decide
theorem is_dict_list : isiT "dict" "list" = false := by decide
theorem cl_tuple : clsN "tuple" = true := by decide
theorem is_NoneType_tuple : isiT "NoneType" "tuple" = false := by decide
theorem is_bool_tuple : isiT "bool" "tuple" = false := by decide
theorem is_int_tuple : isiT "int" "tuple" = false := by decide
theorem is_str_tuple : isiT "str" "tuple" = false := by decide
theorem is_list_tuple : isiT "list" "tuple" = false := by decide
theorem is_tuple_tuple : isiT "tuple" "tuple" = true := by decide
theorem is_dict_tuple : isiT "dict" "tuple" = false := by decide
theorem cl_dict : clsN "dict" = true := by decide
theorem is_NoneType_dict : isiT "NoneType" "dict" = false := by decide
theorem is_bool_dict : isiT "bool" "dict" = false := by decide
theorem is_int_dict : isiT "int" "dict" = false := by decide
theorem is_str_dict : isiT "str" "dict" = false := by decide
theorem is_list_dict : isiT "list" "dict" = false := by decide
theorem is_tuple_dict : isiT "tuple" "dict" = false := by decide
theorem is_dict_dict : isiT "dict" "dict" = true := by decide
theorem ak_bl {H : Hp} {b : Bool} {f : String → Prop} : asK H (.bl b) f = f "bool" := rfl
theorem ak_int {H : Hp} {i : Int} {f : String → Prop} : asK H (.int i) f = f "int" := rfl
theorem ak_str {H : Hp} {i : Str} {f : String → Prop} : asK H (.str i) f = f "str" := rfl
theorem ak_non {H : Hp} {f : String → Prop} : asK H .non f = f "NoneType" := rfl
def noStar : Expr → Bool
  | .Starred _ _ => false
  | _ => true
theorem star_cons {e : Expr} {es : List Expr} {env : Env} (h : noStar e = true) : starEach (e :: es) env = (false, eval e env) :: starEach es env := by
  cases e <;> first | rfl | cases h
structure FA (X : Cx) (es : List Expr) (t : TA) : Prop where
  pa : PA X es t
theorem fa_nil {X : Cx} : FA X [] tNil := ⟨pa_nil⟩
theorem fa_cons {X : Cx} {e : Expr} {es : List Expr} {te : TE} {t : TA} (ha : PE X e te) (hr : FA X es t) (h : noStar e = true := by rfl) : FA X (e :: es) (tCons te t) := ⟨pa_cons ha hr.pa (star_cons h)⟩
theorem gc_self {H : Hp} {P : Hp → Prop} : (∃ G, Gc H G H ∧ P G) ↔ P H := by
  constructor
  · rintro ⟨G, g, p⟩
    have e : G = H := by
      funext b
      cases h : H b with
      | none => exact g.b.free h
      | some o => exact g.a b o h
    rw [← e]; exact p
  · exact fun p => ⟨H, Gc.refl, p⟩
theorem cx_K {CX : CXT} {P : Program} {w : World} {K : PySem.W.Frag} {mg : Str → Option Value} {base : Heap} {N : List Str} {qual : Str} {scope : Scope} {f : Addr} {cd : Value} {A : Around} {outer : List Env} {s : Shared} {H : Hp} {E : XK} :
    (cxOf CX P w K mg base N qual scope f cd A outer s H E).K = K := rfl
def isI : V → Bool
  | .int _ => true
  | _ => false
def isS : V → Bool
  | .str _ => true
  | _ => false
theorem kind_int {H : Hp} {x : V} {t : String} (h : kindV H x = some t) : (t == "int") = isI x := by
  unfold kindV at h
  split at h
  case h_5 => split at h <;> cases h <;> simp [isI]
  all_goals (cases h <;> simp [isI])
theorem same_self {H : Hp} : Same H H ↔ True := ⟨fun _ => trivial, fun _ => Same.refl H⟩
theorem noT_upd {H : Hp} {p : Addr} {o : HO} (hN : NoT H) (d : dTfree o = true) : NoT (upd H p o) := hN.upd d
theorem isI_int {i : Int} : isI (.int i) = true := rfl
theorem isI_bl {i : Bool} : isI (.bl i) = false := rfl
theorem isI_str {i : Str} : isI (.str i) = false := rfl
theorem isI_ref {i : Addr} : isI (.ref i) = false := rfl
theorem isI_non  : isI (.non) = false := rfl
theorem isS_int {i : Int} : isS (.int i) = false := rfl
theorem isS_bl {i : Bool} : isS (.bl i) = false := rfl
theorem isS_str {i : Str} : isS (.str i) = true := rfl
theorem isS_ref {i : Addr} : isS (.ref i) = false := rfl
theorem isS_non  : isS (.non) = false := rfl
theorem noT_only {H : Hp} (h : Only H) : NoT H := fun b o e => by
  rcases h b with z | ⟨ob, xs, z⟩
  · rw [e] at z; cases z
  · rw [e] at z; cases z; rfl
def gcE (H : Hp) (E : XK) : XK := fun C d H' => ∃ G, Gc H G H' ∧ E C d G
theorem Fun.okG {P : Program} {w : World} {K : PySem.W.Frag} {mg : Str → Option Value} {base : Heap} {x qual : Str} {st : Stmt} {f : Addr} {fd : FuncData} {N ps : List Str} {k : Nat} {sp : Sp} (F : Fun K x qual st f fd) (S : FnScope N ps (defScope st))
    (len : ∀ vs H Q E, sp vs H Q E → vs.length = ps.length)
    (hbody : ∀ (cdv : Value) (A : Around) (outer : List Env) (s : Shared) (H : Hp) (vs : List V) (Q : VK) (E : XK), Room k (A.deeper (envOfC qual (defScope st) s.heap.objs.size f cdv)) → sp vs H Q E →
      NoT H ∧ ∃ t, PSs (cxOf (XE P w) P w K mg base N qual (defScope st) f cdv A outer s H (gcE H E)) (defBody st) t ∧ t { nx := fun _ H' => ∃ G, Gc H G H' ∧ Q .non G, rt := fun v H' => ∃ G, Gc H G H' ∧ Q v G } (start N vs) H) : FnOk P w K mg base (XE P w) (k + 1) f fd ps sp := by
  have F' : FnOk P w K mg base (XE P w) (k + 1) f fd ps (fun vs H Q' E' => ∃ Q E, sp vs H Q E ∧ Q' = (fun v H' => ∃ G, Gc H G H' ∧ Q v G) ∧ E' = gcE H E) := by
    refine F.okX S (fun vs H Q' E' ⟨Q, E, h, _⟩ => len vs H Q E h) (fun cdv A outer s H vs Q' E' hr h => ?_)
    obtain ⟨Q, E, h, rfl, rfl⟩ := h
    exact (hbody cdv A outer s H vs Q E hr h).2
  refine ⟨len, fun A outer s H args us vs Q E hr e0 hb r hsp => ?_⟩
  have nT : NoT H := by
    obtain ⟨oc, od, kV, doc, pm, an, cdv, ct, osl, rfl, lk, hcd⟩ := F.ex
    exact (hbody cdv A outer s H vs Q E (hr.deeper _) hsp).1
  refine codeAny_mono (F'.run A outer s H args us vs _ _ hr e0 hb r ⟨Q, E, hsp, rfl, rfl⟩) fun res s' h => ?_
  cases res with
  | error e =>
    obtain ⟨ea, C, rs, H', h1, h2, h3, un, hok, hrs, fly, G, g, q⟩ := h
    exact ⟨ea, C, rs, G, h1, h2, h3, un.gc g, HOk.gc nT e0.hok hok g, fun b hb => ⟨(hrs b hb).1, g.b.free (hrs b hb).2⟩, fly, q⟩
  | ok fl =>
    cases fl with
    | ret u =>
      obtain ⟨v, H', h1, h2, un, hok, rv, G, g, q⟩ := h
      exact ⟨v, G, h1, h2, un.gc g, HOk.gc nT e0.hok hok g, rv, q⟩
    | next => exact h
    | brk => exact h
    | cont => exact h
section
variable {K : PySem.W.Frag} {C D : Addr} {b : Bool} {cl : ClassData}
theorem kitCls_of (o : PySem.W.clsIn K D = some cl) (t : PySem.W.typeIn K (.ref D) = some (.type "type")) (m : PySem.W.mroIn K C (.ref D) = some b) : PySem.W.kitCls K (.ref C) (.ref D) = some b := by
  unfold PySem.W.kitCls
  simp only [o, t, Option.isSome_some, beq_self_eq_true, Bool.and_self, if_true]
  exact m
theorem exmOne_of (o : PySem.W.clsIn K D = some cl) (t : PySem.W.typeIn K (.ref D) = some (.type "type")) (s : PySem.W.mroIn K D (.type "BaseException") = some true) (m : PySem.W.mroIn K C (.ref D) = some b) : PySem.W.exmOne K (.ref C) (.ref D) = some b := by
  unfold PySem.W.exmOne
  have e : PySem.W.subIn K (.ref D) (.type "BaseException") = some true := s
  rw [e, if_pos (by rfl)]
  exact kitCls_of o t m
end
theorem walk_ofX {l : PySem.W.OpenLaw} {n k : Nat} {q : Program} {loose : List Str} {XP : (Str → Option Value) → Heap → Prop} {YP : World → Heap → Prop} {d : DefRec} {K : Params → PySem.W.Frag} {sp : PySem.W.Frag → Sp} {x : Str}
    (hn : l.most = some n) (hn2 : n ≤ sizeLine) (hdf : d.params.defaults = []) (hr : Room k callerA)
    (hY : ∀ (w : World) (h : Heap), YP w h → (K w.params).In h)
    (F : ∀ (w : World) (mg : Str → Option Value) (fa : Addr) (h : Heap), (K w.params).In h → h.Ns mainGlobals mg → mg d.name = some (.ref fa) →
      ∃ fd : FuncData, (∀ (s : Shared) (u : Value), BindsTo s fd ⟨[u], []⟩ [(x, u)]) ∧
        ∀ base : Heap, (K w.params).In base → base.Ns mainGlobals mg → FnOk l.prog w (K w.params) mg base (XE l.prog w) k fa fd [x] (sp (K w.params)))
    (hsp : ∀ (K : PySem.W.Frag) (H : Hp) (a : Addr) (ns : List Int), ns.length ≤ n → Only H → SqL K H a (ns.map V.int) → sp K [.ref a] H (fun v _ => v = .bl true) fun _ _ _ => False) :
    PySem.W.WalkO q loose XP YP l.row.toRowW d [] (fun f vs => PySem.call f vs) :=
  walk_of (K := K) (CX := fun w => XE l.prog w) (sp := fun w => sp (K w.params)) hn hn2 hdf hr hY F (fun w H a ns h1 h2 h3 => hsp (K w.params) H a ns h1 h2 h3) fun w H s e s' ⟨_, _, _, _, _, _, _, _, _, _, _, z⟩ => z
end L2
set_option Elab.async false
set_option linter.all false
set_option maxRecDepth 100000
namespace L2
open PySem PySem.Spec PyProof.Rows
section
variable {prog : Program} {w : World} {A : Around} {R : Result → Shared → Prop} {s : Shared}
theorem compLoop_any {elt target iter : Expr} {ifs : List Expr} {scope : Scope} {pos : Pos} {it acc : Value} {env : Env} (I : Nat → Shared → Prop)
    (turn : ∀ n s, I n s → wpAny (model prog w) A (pyNext it) (fun r s₁ => match r with
      | none => R (.ok .next) s₁
      | some v => wpAny (model prog w) A (letOwnedTupleGo target it v) (fun _ s₁' => wpAny (model prog w) A (assign target env v) (fun _ s₂ =>
          wpAny (model prog w) A (forIn ifs true fun c r => if r = true then do let ok ← isTrue c env (eval c env); pure (ForInStep.yield ok) else pure (ForInStep.yield r)) (fun ok s₃ =>
            if ok = true then wpAny (model prog w) A (eval elt env) (fun x s₄ =>
              wpAny (model prog w) A (call (.builtin "list.append") [acc, x]) (fun _ s₅ => ∃ m, m < n ∧ I m s₅) (notedBy (model prog w) A env fun e s' => R (.error e) s') s₄) (notedBy (model prog w) A env fun e s' => R (.error e) s') s₃
            else ∃ m, m < n ∧ I m s₃) (notedBy (model prog w) A env fun e s' => R (.error e) s') s₂) (notedBy (model prog w) A env fun e s' => R (.error e) s') s₁') (notedBy (model prog w) A env fun e s' => R (.error e) s') s₁) (notedBy (model prog w) A env fun e s' => R (.error e) s') s)
    (n : Nat) (h : I n s) :
    codeAny (model prog w) A (.compLoop (.ListComp elt [⟨target, iter, ifs, 0⟩] scope pos) 0 it acc env) R s := by
  refine codeAny_loop rfl I (fun n s hI => ?_) n h
  show wpAny _ A ((compTurn (.ListComp elt [⟨target, iter, ifs, 0⟩] scope pos) 0 it acc env).onRaise (fun x => do noteFrame x env; theTreesLotGoes x)) _ _ s
  refine wpAny_noted ?_
  rw [compTurn_list]
  refine wpAny_bind (wpAny_standAt (wpAny_bind (wpAny_mono (turn n s hI) (fun r s₁ h₁ => ?_) fun _ _ h' => h')))
  cases r with
  | none => exact wpAny_pure h₁
  | some v =>
    refine wpAny_bind (wpAny_mono h₁ (fun _ s₁' h₁' => ?_) fun _ _ h' => h')
    refine wpAny_bind (wpAny_mono h₁' (fun _ s₂ h₂ => wpAny_bind (wpAny_mono h₂ (fun ok s₃ h₃ => ?_) fun _ _ h' => h')) fun _ _ h' => h')
    cases ok with
    | false => exact wpAny_pure ⟨rfl, h₃⟩
    | true =>
      exact wpAny_bind (wpAny_bind (wpAny_mono h₃ (fun x s₄ h₄ => wpAny_bind (wpAny_mono h₄ (fun _ s₅ h₅ => wpAny_pure (wpAny_pure ⟨rfl, h₅⟩)) fun _ _ h' => h')) fun _ _ h' => h'))
end
def compCx (X : Cx) (N : List Str) (scope : Scope) (cl : List (Str × Addr)) (C : Addr) (s₂ : Shared) (H₂ : Hp) (ex : List Addr) (pn : List (Addr × Obj)) : Cx :=
  { X with N := N, s₀ := s₂, H₀ := H₂, env := compEnvC scope cl C X.env, outer := X.stack, stack := X.stack, ex := ex, fn := fun _ => false, pn := pn, xe := fun _ _ => False }
structure CompScope (X : Cx) (scope : Scope) (cl : List (Str × Addr)) (x : Str) (fr : List Str) : Prop where
  clos : closureFor scope X.env = pure cl
  nocell : ∀ y ∈ scope.names, y.2 ≠ .cell
  kind : scope.kind = .function
  names : ∀ y ∈ scope.names, y.2 = .local → scope.names.lookup y.1 = some .local
  own : scope.names.lookup x = some .local
  keys : ∀ y ∈ cl, y.1 ∈ fr
  cells : fr.map (fun y => cl.lookup y) = fr.map (fun y => X.env.cells.lookup y)
  kinds : ∀ y ∈ fr, X.env.kindOf y = some .cell ∨ X.env.kindOf y = some .free
  kin : ∀ y ∈ fr, (relabel scope X.env).names.lookup y = some .cell ∨ (relabel scope X.env).names.lookup y = some .free
  only : ∀ y, ((relabel scope X.env).names.lookup y = some .cell ∨ (relabel scope X.env).names.lookup y = some .free) → y ∈ fr
theorem lookup_mem {α : Type} {l : List (Str × α)} {y : Str} {c : α} (h : l.lookup y = some c) : (y, c) ∈ l := PySem.mem_of_lookup h
theorem CompScope.cell {X : Cx} {scope : Scope} {cl : List (Str × Addr)} {x : Str} {fr : List Str} (S : CompScope X scope cl x fr) {y : Str} (h : y ∈ fr) : cl.lookup y = X.env.cells.lookup y := by
  have e := S.cells
  obtain ⟨i, hi, rfl⟩ := List.getElem_of_mem h
  have := congrArg (fun l => l[i]?) e
  simpa [hi] using this
theorem CompScope.sub {X : Cx} {scope : Scope} {cl : List (Str × Addr)} {x : Str} {fr : List Str} (S : CompScope X scope cl x fr) {y : Str} {c : Addr} (h : cl.lookup y = some c) : X.env.cells.lookup y = some c := by
  rw [← S.cell (S.keys _ (lookup_mem h))]; exact h
def PTs (X : Cx) (ifs : List Expr) (t : TT) : Prop :=
  ∀ (pins : List (Addr × Obj)) (s : Shared) (σ : St) (H : Hp) (Q : Bool → Hp → Prop), Inv X pins σ H s → t σ H Q →
    wpAny (model X.prog X.w) X.A (forIn ifs true fun c r => if r = true then do let ok ← isTrue c X.env (eval c X.env); pure (ForInStep.yield ok) else pure (ForInStep.yield r)) (TP X pins σ Q) X.xe s
theorem pts_nil {X : Cx} : PTs X [] (fun _ H Q => Q true H) := fun pins s σ H Q I h => wpAny_tests_nil ⟨H, I, h⟩
theorem pts_one {X : Cx} {c : Expr} {t : TT} (h : PT X c t) : PTs X [c] t := fun pins s σ H Q I hw => wpAny_tests_one (h pins s σ H Q I hw)
def tComp (wi : TI) (ks : List Nat) (tt : TT) (te : TE) : TE := fun σ H Q => wi σ H fun J H1 => ∀ D, H1 D = none → ∃ W : Nat → Nat → List V → Hp → Prop, (∃ m, W 0 m [] (upd H1 D (.lst []))) ∧
  ∀ i m ys H2, W i m ys H2 → H2 D = some (.lst ys) ∧ ((J.stop i H2 ∧ Q (.ref D) H2) ∨ (J.go i H2 ∧ ∀ x H3, J.yld i H2 x H3 →
    tt (some x :: ks.map fun k => (σ[k]?).join) H3 fun b H4 => if b = true then te (some x :: ks.map fun k => (σ[k]?).join) H4 fun y H5 => H5 D = some (.lst ys) ∧ ys.length < sizeLine ∧ ∃ m', m' < m ∧ W (i + 1) m' (ys ++ [y]) (upd H5 D (.lst (ys ++ [y])))
      else ∃ m', m' < m ∧ W (i + 1) m' ys H4))
theorem comp_run {X : Cx} {elt iter : Expr} {x : Str} {px pos : Pos} {ifs : List Expr} {scope : Scope} {cl : List (Str × Addr)} {fr : List Str} {ks : List Nat} {wi : TI} {tt : TT} {te : TE} (hc : X.calm = true) (S : CompScope X scope cl x fr)
    (hks : ks.map (fun k => X.N[k]?) = fr.map some) (hnd : (x :: fr).Nodup) (hi : PI X (.Name x px) iter wi)
    (ht : ∀ C s₂ H₂ ex pn, PTs (compCx X (x :: fr) scope cl C s₂ H₂ ex pn) ifs tt) (he : ∀ C s₂ H₂ ex pn, PE (compCx X (x :: fr) scope cl C s₂ H₂ ex pn) elt te)
    (hs : ∀ x, foldedSetIterable iter X.env x = pure x := by intro _; rfl)
    {pins : List (Addr × Obj)} {s : Shared} {σ : St} {H : Hp} {Q : VK} (I : Inv X pins σ H s) (h : tComp wi ks tt te σ H Q) (use : Option (Value → Sem Unit)) (Qp : Value → Shared → Prop)
    (hend : ∀ (D C : Addr) (H' : Hp) (s' : Shared) (mC : Str → Option Value) (f : Flow), Inv X pins σ H' s' → FpOk X pins H' C → s'.heap.Ns C mC → Q (.ref D) H' → compPost (model X.prog X.w) X.A X.xe use Qp (.ref D) C (.ok f) s') :
    wpAny (model X.prog X.w) X.A (comprehension (.ListComp elt [⟨.Name x px, iter, ifs, 0⟩] scope pos) scope X.env (firstIterPos [⟨.Name x px, iter, ifs, 0⟩] pos) (newList []) false (firstIter [⟨.Name x px, iter, ifs, 0⟩] X.env) use) Qp X.xe s := by
  refine wpAny_comprehension_free (use := use) rfl hs S.clos S.kind S.names (thn (hi pins s σ H _ I h) fun v s1 h1 => thn h1 fun itv s2 h2 => ?_)
  obtain ⟨it, fp, tn, J, H2, e, I2, T, st2, f2, hW⟩ := h2
  subst e
  refine wpAny_newObj_type (wpAny_newFunctionEnv S.nocell (by intro y hy; simp at hy) (fun h₁ hns₁ hsb₁ => ?_) S.kind)
  dsimp only at hns₁ hsb₁ ⊢
  have hD0 : H2 s2.heap.objs.size = none := I2.hok.fresh (Nat.le_refl _)
  obtain ⟨W, ⟨m0, w0⟩, turn⟩ := hW s2.heap.objs.size hD0
  generalize hs3 : s2.heap.push { cls := .type "list", dict := none, data := .seq ([] : List Value).toArray } = g3 at hns₁ hsb₁ ⊢
  have hsz3 : g3.objs.size = s2.heap.objs.size + 1 := by rw [← hs3, Heap.size_push]
  have up3 : ∀ b o, s2.heap.get? b = some o → g3.get? b = some o := fun b o e => by rw [← hs3]; exact Heap.get?_push_of_some _ e
  have gD : g3.get? s2.heap.objs.size = some { cls := .type "list", dict := none, data := .seq ([] : List Value).toArray } := by rw [← hs3]; exact Heap.get?_push_size _ rfl
  have I3 : Inv X pins σ (upd H2 s2.heap.objs.size (.lst [])) { s2 with heap := g3 } := I2.laid (t' := s2.toks) up3 (Nat.le_refl _) ⟨by simp, [], 0, .nil, gD⟩
  have keep4 : ∀ b o, g3.get? b = some o → h₁.get? b = some o := fun b o e => (hsb₁.2 b (Nat.ne_of_lt (Heap.lt_size e))).trans (Heap.get?_push_of_some _ e)
  have hCn : (upd H2 s2.heap.objs.size (.lst [])) g3.objs.size = none := I3.hok.fresh (Nat.le_refl _)
  have fpD : ∀ b ∈ fp, b ≠ s2.heap.objs.size := fun b hb z => by
    obtain ⟨o, e, _⟩ := T.obj 0 _ st2 b hb
    exact absurd (Heap.lt_size e) (by rw [z]; exact Nat.lt_irrefl _)
  have fpC : ∀ b ∈ fp, b ≠ g3.objs.size := fun b hb z => by
    obtain ⟨o, e, _⟩ := T.obj 0 _ st2 b hb
    exact absurd (Heap.lt_size (up3 b o e)) (by rw [z]; exact Nat.lt_irrefl _)
  have fpN : ∀ b ∈ fp, (upd H2 s2.heap.objs.size (.lst [])) b = none := fun b hb => by rw [upd_ne (fpD b hb)]; exact (f2 b hb).1
  have Ok : (compCx X (x :: fr) scope cl g3.objs.size { s2 with heap := g3 } (upd H2 s2.heap.objs.size (.lst [])) fp (X.pn ++ pins)).Ok := by
    refine ⟨I.ok.mod, S.kind, I.ok.glob, I.ok.blt, Nat.le_refl _, fun y z c e1 e2 => I.ok.inj y z c (S.sub e1) (S.sub e2), fun y hy => ?_, (fun y c z => nomatch z), I.ok.hd, I.ok.frames, .inl rfl, fun b hb => ⟨fpC b hb, fun y c e => (f2 b hb).2.2.2.2.1 y c (S.sub e)⟩, I3.bs, Nat.le_trans I.ok.bsz I3.sz, fun b o e hb => ?_, fun b hb z => ?_, I3.stack, I3.stkFree⟩
    · have hy' : y ∈ fr := S.only y hy
      obtain ⟨c, e⟩ := I.ok.has y (S.kinds y hy')
      exact ⟨c, (S.cell hy').trans e⟩
    · rcases (f2 b hb).2.2.2.1 with q | q
      · exact I.ok.noex b o e q
      · exact absurd (Heap.lt_size e) (Nat.not_lt.mpr (Nat.le_trans I.ok.bsz q))
    · rcases List.mem_cons.mp (I3.stkSub b z) with q | q
      · exact (f2 b hb).2.1 q
      · exact (f2 b hb).2.2.1 q
  have I4 : Inv (compCx X (x :: fr) scope cl g3.objs.size { s2 with heap := g3 } (upd H2 s2.heap.objs.size (.lst [])) fp (X.pn ++ pins)) [] (none :: ks.map fun k => (σ[k]?).join) (upd H2 s2.heap.objs.size (.lst [])) { s2 with heap := h₁, toks := s2.toks + ([] : List (Str × Value)).length } := by
    refine ⟨Ok, rfl, I3.bare, Un.kept keep4, ⟨_, hns₁, fun i y v e1 e2 e3 => ?_⟩, fun y c e => ?_, hCn, fun y c e => I3.freeC y c (S.sub e), fun p hp => ?_, I3.hok.kept keep4, ?_⟩
    · cases i with
      | zero => simp at e2
      | succ i =>
        have e1' : fr[i]? = some y := by simpa [compCx] using e1
        have hy : y ∈ fr := List.mem_of_getElem? e1'
        have ek : (ks.map (fun k => X.N[k]?))[i]? = (fr.map some)[i]? := by rw [hks]
        rw [List.getElem?_map, List.getElem?_map, e1'] at ek
        have e2' : (ks.map fun k => (σ[k]?).join)[i]? = some (some v) := by simpa using e2
        rw [List.getElem?_map] at e2'
        cases hk : ks[i]? with
        | none => rw [hk] at ek; cases ek
        | some k =>
          rw [hk] at ek e2'
          have ek' : X.N[k]? = some y := by simpa using ek
          have e2'' : (σ[k]?).join = some v := by simpa using e2'
          have es : σ[k]? = some (some v) := by
            cases q : σ[k]? with
            | none => rw [q] at e2''; cases e2''
            | some z => rw [q] at e2''; rw [show z = some v from e2'']
          obtain ⟨m, hn, hl⟩ := I3.loc
          have hkd := S.kinds y hy
          obtain ⟨u, r, lk⟩ := hl k y v ek' es (by rcases hkd with q | q; exact .inr (.inl q); exact .inr (.inr q))
          refine ⟨u, r, .inr ⟨S.kin y hy, ?_⟩⟩
          rcases lk with ⟨q, _⟩ | ⟨_, c, ec, hcell⟩
          · rcases hkd with z | z <;> (rw [q] at z; cases z)
          · obtain ⟨o, ho, hd⟩ := hcell
            exact ⟨c, (S.cell hy).trans ec, o, keep4 _ _ ho, hd⟩
    · obtain ⟨v, o, ho, hd⟩ := I3.cell y c (S.sub e)
      exact ⟨v, o, keep4 _ _ ho, hd⟩
    · have hp' : p ∈ X.pn ++ pins := by simpa [compCx] using hp
      obtain ⟨a1, a2, a3, a4, a5⟩ := I3.pin p hp'
      refine ⟨keep4 _ _ a1, a2, Nat.ne_of_lt (Heap.lt_size a1), fun z => ?_, a5⟩
      rcases List.mem_cons.mp (I3.stkSub p.1 z) with q | q
      · exact a3 q
      · exact a4 q
    · show (none :: ks.map _).length = (x :: fr).length
      have := congrArg List.length hks
      simp at this
      simp [this]
  have st4 : tn 0 h₁ := T.keep 0 _ _ st2 fun b hb o e => keep4 _ _ (up3 _ _ e)
  have stat : ∀ {H' : Hp}, (∀ b ∈ fp, H' b = none) → ∀ b ∈ fp, FpOk (compCx X (x :: fr) scope cl g3.objs.size { s2 with heap := g3 } (upd H2 s2.heap.objs.size (.lst [])) fp (X.pn ++ pins)) [] H' b := fun hn b hb =>
    ⟨hn b hb, fpC b hb, Ok.exfs b hb, .inl hb, fun y c e => (f2 b hb).2.2.2.2.1 y c (S.sub e), fun p hp => (f2 b hb).2.2.2.2.2 p (by simpa [compCx] using hp)⟩
  have loop : codeAny (model X.prog X.w) X.A (.compLoop (.ListComp elt [⟨.Name x px, iter, ifs, 0⟩] scope pos) 0 (.ref it) (.ref s2.heap.objs.size) (compEnvC scope cl g3.objs.size X.env))
      (compPost (model X.prog X.w) X.A X.xe use Qp (.ref s2.heap.objs.size) g3.objs.size) { s2 with heap := h₁, toks := s2.toks + ([] : List (Str × Value)).length } := by
    refine compLoop_any (fun n s' => ∃ i ys σ' H', Inv (compCx X (x :: fr) scope cl g3.objs.size { s2 with heap := g3 } (upd H2 s2.heap.objs.size (.lst [])) fp (X.pn ++ pins)) [] σ' H' s' ∧ (∃ z, σ' = z :: ks.map fun k => (σ[k]?).join) ∧ tn i s'.heap ∧ (∀ b ∈ fp, H' b = none) ∧ W i n ys H') ?_ m0
      ⟨0, [], _, _, I4, ⟨none, rfl⟩, st4, fpN, w0⟩
    rintro n s' ⟨i, ys, σ', H', I5, ⟨z, rfl⟩, st5, fr5, w5⟩
    obtain ⟨hD, hor⟩ := turn i n ys H' w5
    rcases hor with ⟨stop, qn⟩ | ⟨go, step⟩
    · refine wpAny_mono (T.done (compCx X (x :: fr) scope cl g3.objs.size { s2 with heap := g3 } (upd H2 s2.heap.objs.size (.lst [])) fp (X.pn ++ pins)) rfl rfl rfl hc i [] s' _ H' (fun _ _ => False) I5 (stat fr5) st5 stop) (fun r s6 ⟨hr, I6⟩ => ?_) (fun _ _ f => f.elim)
      subst hr
      obtain ⟨mC, hnC, _⟩ := I6.loc
      have tr : ∀ b o, b ≠ g3.objs.size → s6.heap.get? b = some o → s6.heap.get? b = some o := fun b o hb e => e
      have U := I6.base
      have neC : ∀ b o, g3.get? b = some o → b ≠ g3.objs.size := fun b o e => Nat.ne_of_lt (Heap.lt_size e)
      have U' : Un (frs X.stack) fp (upd H2 s2.heap.objs.size (.lst [])) H' g3 s6.heap := ⟨fun b o q n hb hx => tr b o (neC b o q) (U.keep b o q n hb hx), fun b o q n hb hx => let ⟨sl, e⟩ := U.slot b o q n hb hx; ⟨sl, tr _ _ (neC b o q) e⟩, U.free, fun b o q hx => let ⟨o', e⟩ := U.there b o q hx; ⟨o', tr _ _ (neC b o q) e⟩, U.tups, U.frzs, U.tbls⟩
      have ok' : HOk X.prog X.w H' s6.heap := fun a o e => (I6.hok a o e).stay (fun b u hb q => tr b u (fun z => by
          have fC : H' g3.objs.size = none := I6.free
          rcases hb with r | r
          · rw [← z, r, e] at fC; cases fC
          · rw [← z, r] at fC; cases fC) q) (fun _ q => q) fun _ _ q => q
      have J6 : Inv X pins σ H' s6 := I3.call' (s' := s6) (ch := fp) I6.os U' ok' I6.bare fun b hb => ⟨(f2 b hb).2.2.2.1, (f2 b hb).2.1, (f2 b hb).2.2.2.2.1, (f2 b hb).2.2.2.2.2⟩
      exact hend s2.heap.objs.size g3.objs.size H' s6 mC _ J6 (I3.fpOk (Nat.le_refl _) I6.free) hnC qn
    · refine wpAny_mono (T.item (compCx X (x :: fr) scope cl g3.objs.size { s2 with heap := g3 } (upd H2 s2.heap.objs.size (.lst [])) fp (X.pn ++ pins)) rfl rfl rfl hc i [] s' _ H' (fun _ _ => False) I5 (stat fr5) st5 go) (fun r s6 ⟨u, hr, h6⟩ => ?_) (fun _ _ f => f.elim)
      subst hr
      refine wpAny_mono h6 (fun _ s7 ⟨xv, H7, I7, r7, y7, st7, fr7⟩ => ?_) (fun _ _ f => f.elim)
      have I7' := I7.pinned (stat fr7) (T.obj _ _ st7)
      have own : Loc (compEnvC scope cl g3.objs.size X.env).scope x := .inl (lookup_relabel_local S.own)
      refine wpAny_assign_Name (store_ok (i := 0) I7' hnd rfl own r7 (fun s8 I8 => ?_) (.inr (lookup_relabel_local S.own)))
      have pinsTo : ∀ {σ9 : St} {H9 : Hp} {s9 : Shared}, Inv (compCx X (x :: fr) scope cl g3.objs.size { s2 with heap := g3 } (upd H2 s2.heap.objs.size (.lst [])) fp (X.pn ++ pins)) ([] ++ pinsAt fp s7.heap) σ9 H9 s9 → tn (i + 1) s9.heap ∧ ∀ b ∈ fp, H9 b = none := fun {σ9 H9 s9} I9 =>
        ⟨T.keep _ _ _ st7 fun b hb o e => (I9.pin (b, o) (List.mem_append_right _ (List.mem_append_right _ (mem_pinsAt hb e)))).1, fun b hb => by
          obtain ⟨o, e, d⟩ := T.obj _ _ st7 b hb
          exact (I9.pin (b, o) (List.mem_append_right _ (List.mem_append_right _ (mem_pinsAt hb e)))).2.1⟩
      refine wpAny_mono (ht _ _ _ _ _ _ s8 _ H7 _ I8 (step xv H7 y7)) (fun ok s9 ⟨H9, I9, q9⟩ => ?_) (fun _ _ f => f.elim)
      cases ok with
      | false =>
        rw [if_neg Bool.false_ne_true] at q9 ⊢
        obtain ⟨m', hm, w9⟩ := q9
        obtain ⟨t9, f9⟩ := pinsTo I9
        exact ⟨m', hm, i + 1, ys, _, H9, I9.unpinned, ⟨_, rfl⟩, t9, f9, w9⟩
      | true =>
        rw [if_pos rfl] at q9 ⊢
        refine wpAny_mono (he _ _ _ _ _ _ s9 _ H9 _ I9 q9) (fun yv s10 ⟨y, H10, I10, r10, hD10, hlen, m', hm, w10⟩ => ?_) (fun _ _ f => f.elim)
        refine wpAny_mono (mt_append (X := compCx X (x :: fr) scope cl g3.objs.size { s2 with heap := g3 } (upd H2 s2.heap.objs.size (.lst [])) fp (X.pn ++ pins)) _ s10 _ H10 (.ref s2.heap.objs.size) [y] (.ref s2.heap.objs.size) [yv]
          (fun _ H' => H' = upd H10 s2.heap.objs.size (.lst (ys ++ [y]))) I10 rfl (.cons r10 .nil) ⟨_, ys, y, rfl, rfl, hD10, hlen, rfl⟩) (fun _ s11 ⟨_, H11, I11, _, e11⟩ => ?_) (fun _ _ f => f.elim)
        subst e11
        obtain ⟨t11, f11⟩ := pinsTo I11
        exact ⟨m', hm, i + 1, ys ++ [y], _, _, I11.unpinned, ⟨_, rfl⟩, t11, f11, w10⟩
  exact codeAny_compStart_list loop (T.self X.A 0 _ _ _ st4 loop)
theorem pe_comp {X : Cx} {elt iter : Expr} {x : Str} {px pos : Pos} {ifs : List Expr} {scope : Scope} {cl : List (Str × Addr)} {fr : List Str} {ks : List Nat} {wi : TI} {tt : TT} {te : TE} (hc : X.calm = true) (S : CompScope X scope cl x fr)
    (hks : ks.map (fun k => X.N[k]?) = fr.map some) (hnd : (x :: fr).Nodup) (hi : PI X (.Name x px) iter wi)
    (ht : ∀ C s₂ H₂ ex pn, PTs (compCx X (x :: fr) scope cl C s₂ H₂ ex pn) ifs tt) (he : ∀ C s₂ H₂ ex pn, PE (compCx X (x :: fr) scope cl C s₂ H₂ ex pn) elt te)
    (hs : ∀ x, foldedSetIterable iter X.env x = pure x := by intro _; rfl) : PE X (.ListComp elt [⟨.Name x px, iter, ifs, 0⟩] scope pos) (tComp wi ks tt te) := by
  intro pins s σ H Q I h
  rw [eval_ListComp]
  refine comp_run hc S hks hnd hi ht he hs I h none _ fun D C H' s' mC f J fp hn q => ⟨mC, hn, fun h' sb => ?_⟩
  obtain ⟨f0, f1, f2, f3, f4, f5⟩ := fp
  exact ⟨.ref D, H', J.turned (t' := s'.toks) (fun b o hb e => (sb.2 b hb).trans e) f0 f1 f3 f4 f5, rfl, q⟩
theorem ps_setC {X : Cx} {i0 : Nat} {x0 : Str} {px0 pos0 : Pos} {elt iter : Expr} {x : Str} {px pos : Pos} {ifs : List Expr} {scope : Scope} {cl : List (Str × Addr)} {fr : List Str} {ks : List Nat} {wi : TI} {tt : TT} {te : TE} (hN : X.N.Nodup) (hi0 : X.N[i0]? = some x0) (hx0 : Loc X.env.scope x0) (hc : X.calm = true) (S : CompScope X scope cl x fr)
    (hks : ks.map (fun k => X.N[k]?) = fr.map some) (hnd : (x :: fr).Nodup) (hi : PI X (.Name x px) iter wi)
    (ht : ∀ C s₂ H₂ ex pn, PTs (compCx X (x :: fr) scope cl C s₂ H₂ ex pn) ifs tt) (he : ∀ C s₂ H₂ ex pn, PE (compCx X (x :: fr) scope cl C s₂ H₂ ex pn) elt te)
    (hs : ∀ x, foldedSetIterable iter X.env x = pure x := by intro _; rfl)
    (hsw : swapsWith (.ListComp elt [⟨.Name x px, iter, ifs, 0⟩] scope pos) (some (.Name x0 px0)) pos0.line X.env = pure true := by rfl) (hf : X.fn x0 = true ∨ X.env.scope.names.lookup x0 = some .local := by first | exact .inl rfl | exact .inr rfl | assumption) :
    PS X (.Assign [.Name x0 px0] (.ListComp elt [⟨.Name x px, iter, ifs, 0⟩] scope pos) pos0) (tAsg (tComp wi ks tt te) (gName i0)) := by
  intro pins s σ H D I h
  rw [exec_Assign_Name_used _ _ _ _ hsw]
  refine wpAny_bind (wpAny_standAt (wpAny_bind (wpAny_bind ?_)))
  refine comp_run hc S hks hnd hi ht he hs I h (some (assign (.Name x0 px0) X.env)) _ fun D' C H' s' mC f J fp hn q => ?_
  obtain ⟨f0, f1, f2, f3, f4, f5⟩ := fp
  refine wpAny_assign_Name (store_ok2 J hN hi0 hx0 (v := .ref D') rfl (fun s7 I7 ⟨a, sb, ha⟩ => ?_) hf)
  have hCa : C ≠ a := by
    rcases ha with e | e
    · rw [e]; exact f1
    · exact fun z => f4 _ _ e z.symm
  refine ⟨mC, hn.sameBut sb hCa, fun h' sb2 => ?_⟩
  have J2 := I7.turned (t' := s7.toks) (fun b o hb e => (sb2.2 b hb).trans e) f0 f1 f3 f4 f5
  exact wpAny_pure (wpAny_pure ⟨_, H', J2, q⟩)
end L2
set_option Elab.async false
set_option maxHeartbeats 4000000
namespace MT
theorem dc {n : Nat} (h : n < 10) : (Nat.digitChar n).toNat = 48 + n := by
  have hc : n = 0 ∨ n = 1 ∨ n = 2 ∨ n = 3 ∨ n = 4 ∨ n = 5 ∨ n = 6 ∨ n = 7 ∨ n = 8 ∨ n = 9 := by omega
  rcases hc with h | h | h | h | h | h | h | h | h | h <;> subst h <;> decide
def isD (c : Nat) : Bool := decide (48 ≤ c) && decide (c ≤ 57)
def vl (t : List Nat) : Nat := t.foldl (fun n c => 10 * n + (c - 48)) 0
def nin (t : List Nat) : Nat := t.foldl (fun n c => if isD c then 10 * n + (c - 48) else n) 0
def fg (t : List Nat) : List Nat := if t.take 1 = [45] then t.drop 1 else t
def good (t : List Nat) : Prop := fg t ≠ [] ∧ (∀ c ∈ fg t, isD c = true) ∧ ((fg t).head? = some 48 → t = [48])
end MT
set_option Elab.async false
set_option linter.all false
set_option maxRecDepth 100000
namespace L2
open PySem PySem.Spec PyProof.Rows Builtin Builtin.Str
section
variable {X : Cx} {e a b c : Expr} {pos : Pos}
def gIn (neg : Bool) : R2
  | .str i, .str j, H, Q => (match cs i with
    | [c] => Q (.bl (neg ^^ decide (c ∈ cs j))) H
    | _ => False)
  | _, _, _, _ => False
theorem one_of {i : Str} {c : Nat} (h : cs i = [c]) : i = ⟨#[c]⟩ := by
  obtain ⟨⟨l⟩⟩ := i
  have h' : l = [c] := h
  rw [h']
theorem fo_notin : OpR X (compareOp .NotIn) (gIn true) := op_notin_str.imp fun x y H Q h => by
  unfold gIn at h; split at h
  · split at h
    · rename_i i j c hc
      refine ⟨_, _, rfl, rfl, ?_⟩
      rw [one_of hc, PySem.StrLaws.found_one]
      simpa [cs] using h
    · exact h.elim
  · exact h.elim
def gIdx : V → List V → Hp → VK → Prop
  | .str x, [.str y], H, Q => (match cs y with
    | [c] => c ∈ cs x ∧ ∀ i : Nat, (cs x)[i]? = some c → Q (.int i) H
    | _ => False)
  | _, _, _, _ => False
theorem gIdx.inv {x : V} {xs : List V} {H : Hp} {Q : VK} (h : gIdx x xs H Q) : ∃ x0 y c, x = .str x0 ∧ xs = [.str y] ∧ cs y = [c] ∧ c ∈ cs x0 ∧ ∀ i : Nat, (cs x0)[i]? = some c → Q (.int i) H := by
  unfold gIdx at h
  split at h
  · split at h
    · exact ⟨_, _, _, rfl, rfl, by assumption, h.1, h.2⟩
    · exact h.elim
  · exact h.elim
end
end L2
set_option Elab.async false
set_option linter.all false
set_option maxRecDepth 100000
namespace L2
open PySem PySem.Spec PyProof.Rows
def Its (x : Str) : It := ⟨fun i _ => i < x.cps.size, fun i H v H' => H' = H ∧ ∃ c, x.cps[i]? = some c ∧ v = .str ⟨#[c]⟩, fun i _ => x.cps.size ≤ i⟩
theorem turn_str {P : Program} {w : World} {K : PySem.W.Frag} {tg : Expr} (x : Str) (t : Tok) (it : Addr) : Turn P w K tg (Its x) [it] it (fun i h => h.IsStrIter it "str_ascii_iterator" x t i) where
  mem := by simp
  obj := fun i h st b hb => by
    have e : b = it := by simpa using hb
    subst e
    obtain ⟨o, e, c, d⟩ := st
    exact ⟨o, e, fun v z => by rw [d] at z; cases z⟩
  keep := fun i h h' st k => by
    obtain ⟨o, e, c, d⟩ := st
    exact ⟨o, k it (by simp) o e, c, d⟩
  item := by
    intro X hP hw hK hc i pins s σ H E I hf st hg
    subst hP hw hK
    have hg' : i < x.cps.size := hg
    obtain ⟨f0, f1, f2, f3, f4, f5⟩ := hf it (by simp)
    have hx : x.cps[i]? = some x.cps[i] := by simp [hg']
    refine wpAny_pyNext_ascii_item st hx fun h' st' sb => ?_
    have I1 : Inv X pins σ H { s with heap := h', toks := s.toks + 1 } := I.turned (fun b o hb e => (sb.2 b hb).trans e) f0 f1 f3 f4 f5
    obtain ⟨o, e, c, d⟩ := id st'
    exact ⟨_, rfl, go_of (s := { s with heap := h', toks := s.toks + 1 }) e c d (by decide) ⟨.str ⟨#[x.cps[i]]⟩, H, I1, ⟨_, rfl⟩, ⟨rfl, _, hx, rfl⟩, st', fun b hb => (hf b hb).1⟩⟩
  done := by
    intro X hP hw hK hc i pins s σ H E I hf st hg
    subst hP hw hK
    have hg' : x.cps.size ≤ i := hg
    obtain ⟨f0, f1, f2, f3, f4, f5⟩ := hf it (by simp)
    have hx : x.cps[i]? = none := by simp [hg']
    exact wpAny_pyNext_ascii_end (I.ok.hd hc) st hx fun h' eb => ⟨rfl, I.turned (fun b o hb e => eb b o hb e) f0 f1 f3 f4 f5⟩
  self := fun _ _ _ _ _ st h => wpAny_pyIter_striter_ascii st h
def iStr (tl : TE) : TI := fun σ H R => tl σ H fun v H1 => match v with
  | .str x => (∀ c ∈ cs x, c < 128) ∧ R (Its x) H1
  | _ => False
theorem pi_str {X : Cx} {tg l : Expr} {tl : TE} (hl : PE X l tl) : PI X tg l (iStr tl) := by
  intro pins s σ H R I h
  refine thn (hl pins s σ H _ I h) fun v s1 ⟨y, H1, I1, r1, q⟩ => ?_
  dsimp only at q
  split at q
  · rename_i x
    obtain ⟨ha, q⟩ := q
    obtain ⟨t, rfl⟩ := r1
    have ha' : x.cps.all (· < 128) = true := by
      rw [Array.all_eq_true]
      intro i hi
      exact decide_eq_true (ha _ (by unfold cs; rw [Array.mem_toList_iff]; exact Array.getElem_mem hi))
    refine wpAny_pyIter_ascii ha' ?_
    refine ⟨s1.heap.objs.size, [s1.heap.objs.size], _, _, H1, rfl, I1.kept (t' := s1.toks) fun b o e => Heap.get?_push_of_some _ e, turn_str x t _, ⟨_, Heap.get?_push_size _ rfl, rfl, rfl⟩, fun b hb => ?_, q⟩
    have e : b = s1.heap.objs.size := by simpa using hb
    subst e
    exact I1.fpOk (Nat.le_refl _) (I1.hok.fresh (Nat.le_refl _))
  · exact q.elim
section
variable {X : Cx}
theorem bools_of : ∀ {bs : List Bool} {us : List Value}, Vals (bs.map V.bl) us → LSm.BoolsAre us bs
  | [], _, .nil => .nil
  | b :: r, _, .cons e t => by
    cases (show _ = Value.bool b from e)
    exact .cons b (bools_of t)
def gAll (K : PySem.W.Frag) : List V → Hp → VK → Prop
  | [.ref p], H, Q => ∃ bs : List Bool, SqL K H p (bs.map V.bl) ∧ Q (.bl (bs.all id)) H
  | _, _, _ => False
theorem fc_allK (K : PySem.W.Frag) (hc : X.calm = true) (hK : X.K = K := by rfl) : CallR X (.builtin "all") (gAll K) := by
  subst hK
  intro pins s σ H xs us Q I r h
  unfold gAll at h
  split at h
  · rename_i p
    obtain ⟨bs, hq, q⟩ := h
    obtain ⟨u, rfl, rx⟩ := vals1 r
    cases (show u = Value.ref p from rx)
    obtain ⟨its, rv, pl, hz⟩ := I.list hq
    have hne : p ≠ s.heap.objs.size := Nat.ne_of_lt (by obtain ⟨_, e, _⟩ := pl.isList; exact Heap.lt_size e)
    have hb : LSm.BoolsAre its bs := bools_of rv
    refine call_all_walk (wpAny_pyIter_list pl.isList ?_)
    refine ⟨s.heap.objs.size, [s.heap.objs.size, p], [s.heap.objs.size], its.toArray.size, _, _, fun i => (bs[i]?).getD true, rfl, Walks.list (A := X.A.in1) (I.ok.hd hc) _ p hne its.toArray,
      ⟨⟨_, Heap.get?_push_size _ rfl, rfl, rfl⟩, pl.isList.push _⟩, fun i v s' Q' E' hP hQ => ?_, fun h' tk hk => ?_⟩
    · obtain ⟨b, e, rfl⟩ := hb.get i v (by simpa using hP)
      simp only [e, Option.getD_some] at hQ
      exact wpAny_truthy_bool hQ
    · have e : ((List.range its.toArray.size).all fun i => (bs[i]?).getD true) = bs.all id := by
        rw [List.size_toArray, hb.length]; exact LSm.range_all bs
      rw [e]
      exact ⟨.bl (bs.all id), H, I.kept (LSm.kept_iter hk), rfl, q⟩
  · exact h.elim
end
end L2
set_option Elab.async false
set_option linter.all false
set_option maxRecDepth 100000
namespace L2
open PySem PySem.Spec PyProof.Rows Builtin Builtin.Str
def joinN (sep : List Nat) : List (List Nat) → List Nat
  | [] => []
  | [x] => x
  | x :: y :: r => x ++ sep ++ joinN sep (y :: r)
theorem joinN_nil : ∀ ls : List (List Nat), joinN [] ls = ls.flatten
  | [] => rfl
  | [x] => by simp [joinN]
  | x :: y :: r => by rw [joinN, joinN_nil (y :: r)]; simp
def S (l : List Nat) : Str := ⟨⟨l⟩⟩
theorem join_fold (sep : List Nat) : ∀ (r : List (List Nat)) (x : List Nat), ((r.map S).foldl (fun acc p => acc ++ (S sep).cps ++ p.cps) (S x).cps) = (S (joinN sep (x :: r))).cps
  | [], x => rfl
  | y :: r, x => by
    rw [List.map_cons, List.foldl_cons]
    have e : (S x).cps ++ (S sep).cps ++ (S y).cps = (S (x ++ sep ++ y)).cps := by
      apply Array.ext'; simp [S]
    rw [e, join_fold sep r]
    congr 1
    cases r with
    | nil => rfl
    | cons z r' => unfold joinN; simp [joinN, List.append_assoc]
theorem join_eq (sep : List Nat) (ls : List (List Nat)) : Txt.join (S sep) (ls.map S) = S (joinN sep ls) := by
  unfold Txt.join glued
  cases ls with
  | nil => rfl
  | cons x r =>
    show (⟨((x :: r).map S).drop 1 |>.foldl _ _⟩ : Str) = _
    rw [List.map_cons, List.drop_one, List.tail_cons, List.headD_cons, join_fold]
theorem strs_of : ∀ {ls : List (List Nat)} {us : List Value}, Vals (ls.map T) us → StrsAre us (ls.map S)
  | [], _, .nil => .nil
  | l :: r, _, .cons e t => by
    obtain ⟨k, rfl⟩ := e
    exact .cons _ k (strs_of t)
def fitJ (sep : List Nat) (ls : List (List Nat)) : Prop := (ls.map List.length).sum + ls.length * sep.length ≤ 16777216
theorem fitJ_to {sep : List Nat} {ls : List (List Nat)} (h : fitJ sep ls) : (((ls.map S).map (·.length)).sum + (ls.map S).length * (S sep).length ≤ 16777216) := by
  have e : (ls.map S).map (·.length) = ls.map List.length := by rw [List.map_map]; apply List.map_congr_left; intro l _; rfl
  rw [e, List.length_map]; exact h
section
variable {X : Cx}
def gJoin (K : PySem.W.Frag) : V → List V → Hp → VK → Prop
  | .str x, [.ref p], H, Q => ∃ ls : List (List Nat), SqL K H p (ls.map T) ∧ fitJ (cs x) ls ∧ Q (T (joinN (cs x) ls)) H
  | _, _, _, _ => False
theorem fm_joinK (K : PySem.W.Frag) (hK : X.K = K := by rfl) : MtR X "str.join" (gJoin K) := by
  subst hK
  intro pins s σ H x xs v us Q I rx rs h
  unfold gJoin at h
  split at h
  · rename_i y p
    obtain ⟨ls, hq, hf, q⟩ := h
    obtain ⟨t, rfl⟩ := rx
    obtain ⟨u, rfl, ru⟩ := vals1 rs
    cases (show u = Value.ref p from ru)
    obtain ⟨its, rv, pl, hz⟩ := I.list hq
    refine join_list pl.isList (strs_of rv) (fitJ_to hf) fun t' k => ?_
    exact ⟨.str (Txt.join y (ls.map S)), H, I.tok _, ⟨_, rfl⟩, by rw [show y = S (cs y) from rfl, join_eq]; exact q⟩
  · exact h.elim
end
end L2
namespace PySem
open Sem (wp)
open Builtin Builtin.Str Builtin.Int
set_option maxRecDepth 100000
namespace F
end F
section
variable {prog : Program} {w : World} {A : Around} {E : Value → Shared → Prop} {s : Shared} {I : Addr} {fp wr : List Addr} {G : Array GenState → Array GenState → Prop} {n : Nat} {P : Nat → Value → Prop} {St : Nat → Shared → Prop}
end
end PySem
set_option Elab.async false
set_option linter.all false
set_option maxRecDepth 100000
namespace L2
open PySem PySem.Spec PyProof.Rows Builtin Builtin.Str
section
variable {X : Cx} {o e : Expr} {to te : TE} {apos cpos p pos : Pos}
end
end L2
set_option Elab.async false
set_option linter.all false
set_option maxRecDepth 100000
namespace L2
open PySem PySem.Spec PyProof.Rows Builtin Builtin.Str
section
variable {X : Cx}
structure Enum (J : It) (vs : List V) : Prop where
  go : ∀ i H, i < vs.length → J.go i H
  yld : ∀ i H x H', i < vs.length → J.yld i H x H' → H' = H ∧ vs[i]? = some x
  stop : ∀ H, J.stop vs.length H
theorem enum_str (l : List Nat) : Enum (Its ⟨⟨l⟩⟩) (l.map fun c => T [c]) := by
  refine ⟨fun i H h => by simpa [Its] using h, fun i H x H' _ y => ?_, fun H => by simp [Its]⟩
  obtain ⟨e, c, hc, rfl⟩ := y
  refine ⟨e, ?_⟩
  have : l[i]? = some c := by simpa using hc
  rw [List.getElem?_map, this]; rfl
theorem enum_rng (n : Nat) : Enum (Itr 0 n) ((List.range n).map fun k => .int (k : Nat)) := by
  refine ⟨fun i H h => by simpa [Itr] using h, fun i H x H' hi y => ?_, fun H => by simp [Itr]⟩
  obtain ⟨e, rfl⟩ := y
  refine ⟨e, ?_⟩
  have hi' : i < n := by simpa using hi
  simp [hi']
theorem comp_enum {J : It} {vs : List V} (E : Enum J vs) {σ' : St} {H1 : Hp} {Q : VK} {tt : TT} {te : TE} (C : Hp → Prop) (p : V → Bool) (f : V → V) (hlen : vs.length ≤ sizeLine)
    (hp : ∀ x ∈ vs, ∀ H (R : Bool → Hp → Prop), C H → R (p x) H → tt (some x :: σ') H R) (hf : ∀ x ∈ vs, p x = true → ∀ H (R : VK), C H → R (f x) H → te (some x :: σ') H R)
    (D : Addr) (hD : H1 D = none) (hC : ∀ ys, C (upd H1 D (.lst ys))) (q : Q (.ref D) (upd H1 D (.lst ((vs.filter p).map f)))) :
    ∃ W : Nat → Nat → List V → Hp → Prop, (∃ m, W 0 m [] (upd H1 D (.lst []))) ∧
      ∀ i m ys H2, W i m ys H2 → H2 D = some (.lst ys) ∧ ((J.stop i H2 ∧ Q (.ref D) H2) ∨ (J.go i H2 ∧ ∀ x H3, J.yld i H2 x H3 →
        tt (some x :: σ') H3 fun b H4 => if b = true then te (some x :: σ') H4 fun y H5 => H5 D = some (.lst ys) ∧ ys.length < sizeLine ∧ ∃ m', m' < m ∧ W (i + 1) m' (ys ++ [y]) (upd H5 D (.lst (ys ++ [y])))
          else ∃ m', m' < m ∧ W (i + 1) m' ys H4)) := by
  refine ⟨fun i m ys H2 => m = vs.length - i ∧ i ≤ vs.length ∧ ys = ((vs.take i).filter p).map f ∧ H2 = upd H1 D (.lst ys), ⟨vs.length, by simp, Nat.zero_le _, by simp, rfl⟩, ?_⟩
  rintro i m ys H2 ⟨rfl, hi, hys, rfl⟩
  refine ⟨upd_same, ?_⟩
  by_cases hlt : i < vs.length
  · refine .inr ⟨E.go i _ hlt, fun x H3 y => ?_⟩
    obtain ⟨e, hx⟩ := E.yld i _ x H3 hlt y
    subst e
    have hm : x ∈ vs := List.mem_of_getElem? hx
    have htk : vs.take (i + 1) = vs.take i ++ [x] := by
      rw [List.take_succ, hx]; rfl
    have hyl : ys.length ≤ i := by
      rw [hys, List.length_map]
      exact Nat.le_trans (List.length_filter_le _ _) (by simp [List.length_take]; omega)
    refine hp x hm _ _ (hC _) ?_
    cases hb : p x with
    | true =>
      rw [if_pos rfl]
      refine hf x hm hb _ _ (hC _) ⟨upd_same, by omega, vs.length - (i + 1), by omega, rfl, hlt, ?_, ?_⟩
      · rw [htk, List.filter_append, List.map_append, ← hys]
        simp [hb]
      · funext z
        by_cases hz : z = D
        · subst hz; rw [upd_same, upd_same]
        · rw [upd_ne hz, upd_ne hz, upd_ne hz]
    | false =>
      rw [if_neg Bool.false_ne_true]
      refine ⟨vs.length - (i + 1), by omega, rfl, hlt, ?_, rfl⟩
      rw [htk, List.filter_append, List.map_append, ← hys]
      simp [hb]
  · have e : i = vs.length := by omega
    subst e
    refine .inl ⟨E.stop _, ?_⟩
    rw [List.take_length] at hys
    rw [hys]; exact q
end
theorem comp_str {tl : TE} {ks : List Nat} {σ : St} {H : Hp} {Q : VK} {tt : TT} {te : TE} (C : Hp → Prop) (hC : ∀ D ys, H D = none → C (upd H D (.lst ys))) (l : List Nat) (p : Nat → Bool) (f : Nat → V) (hl : ∀ R : VK, R (T l) H → tl σ H R) (ha : ∀ c ∈ l, c < 128) (hz : l.length ≤ sizeLine)
    (hp : ∀ c ∈ l, ∀ H (R : Bool → Hp → Prop), C H → R (p c) H → tt (some (T [c]) :: ks.map fun k => (σ[k]?).join) H R) (hf : ∀ c ∈ l, p c = true → ∀ H (R : VK), C H → R (f c) H → te (some (T [c]) :: ks.map fun k => (σ[k]?).join) H R)
    (q : ∀ D, H D = none → Q (.ref D) (upd H D (.lst ((l.filter p).map f)))) : tComp (iStr tl) ks tt te σ H Q := by
  refine hl _ ⟨by simpa [cs] using ha, fun D hD => ?_⟩
  have P : ∀ x ∈ l.map fun c => T [c], ∃ c ∈ l, x = T [c] := fun x hx => by
    obtain ⟨c, hc, rfl⟩ := List.mem_map.mp hx; exact ⟨c, hc, rfl⟩
  let hd : V → Nat := fun v => match v with | .str y => (cs y).headD 0 | _ => 0
  have hhd : ∀ c, hd (T [c]) = c := fun c => rfl
  refine comp_enum (enum_str l) C (fun v => p (hd v)) (fun v => f (hd v)) (by simpa using hz) (fun x hx H R c r => ?_) (fun x hx hb H R c r => ?_) D hD (fun ys => hC D ys hD) ?_
  · obtain ⟨y, hy, rfl⟩ := P x hx
    exact hp y hy H R c r
  · obtain ⟨y, hy, rfl⟩ := P x hx
    exact hf y hy hb H R c r
  · have e : ((l.map fun c => T [c]).filter fun v => p (hd v)).map (fun v => f (hd v)) = (l.filter p).map f := by
      rw [List.filter_map, List.map_map]
      rfl
    rw [e]; exact q D hD
theorem comp_rng {ta : TA} {ks : List Nat} {σ : St} {H : Hp} {Q : VK} {tt : TT} {te : TE} (C : Hp → Prop) (hC : ∀ D ys, H D = none → C (upd H D (.lst ys))) (n : Nat) (p : Nat → Bool) (f : Nat → V) (hl : ∀ R : List V → Hp → Prop, R [.int n] H → ta σ H R) (hz : n ≤ sizeLine)
    (hp : ∀ k, k < n → ∀ H (R : Bool → Hp → Prop), C H → R (p k) H → tt (some (.int k) :: ks.map fun k => (σ[k]?).join) H R) (hf : ∀ k, k < n → p k = true → ∀ H (R : VK), C H → R (f k) H → te (some (.int k) :: ks.map fun k => (σ[k]?).join) H R)
    (q : ∀ D, H D = none → Q (.ref D) (upd H D (.lst (((List.range n).filter p).map f)))) : tComp (iRng1 ta) ks tt te σ H Q := by
  have hz' : (n : Int) < 2 ^ 62 := by
    have : sizeLine < 2 ^ 62 := by rw [sizeLine_eq]; decide
    have h2 : n < 2 ^ 62 := by omega
    have e : ((2 ^ 62 : Nat) : Int) = (2 : Int) ^ 62 := by decide
    omega
  refine hl _ ⟨n, rfl, by omega, hz', ?_⟩
  rw [Int.toNat_natCast]
  intro D hD
  have P : ∀ x ∈ (List.range n).map fun k => V.int (k : Nat), ∃ k, k < n ∧ x = .int (k : Nat) := fun x hx => by
    obtain ⟨c, hc, rfl⟩ := List.mem_map.mp hx; exact ⟨c, by simpa using hc, rfl⟩
  let hd : V → Nat := fun v => match v with | .int i => i.toNat | _ => 0
  have hhd : ∀ c : Nat, hd (.int c) = c := fun c => Int.toNat_natCast c
  refine comp_enum (enum_rng n) C (fun v => p (hd v)) (fun v => f (hd v)) (by simpa using hz) (fun x hx H R c' r => ?_) (fun x hx hb H R c' r => ?_) D hD (fun ys => hC D ys hD) ?_
  · obtain ⟨c, hc, rfl⟩ := P x hx
    rw [hhd] at r
    exact hp c hc H R c' r
  · obtain ⟨c, hc, rfl⟩ := P x hx
    rw [hhd] at r hb
    exact hf c hc hb H R c' r
  · have e : (((List.range n).map fun k => V.int (k : Nat)).filter fun v => p (hd v)).map (fun v => f (hd v)) = ((List.range n).filter p).map f := by
      rw [List.filter_map, List.map_map]
      have e1 : ((fun v => p (hd v)) ∘ fun k : Nat => V.int (k : Nat)) = p := by funext k; simp only [Function.comp, hhd]
      have e2 : ((fun v => f (hd v)) ∘ fun k : Nat => V.int (k : Nat)) = f := by funext k; simp only [Function.comp, hhd]
      rw [e1, e2]
    rw [e]; exact q D hD
theorem SqL.same {K : PySem.W.Frag} {H H' : Hp} {a : Addr} {xs : List V} (s : Same H H') (h : SqL K H a xs) : SqL K H' a xs := by
  rcases h with (h | ⟨o, h⟩) | h
  · exact .inl (.inl (s _ _ h))
  · exact .inl (.inr ⟨o, s _ _ h⟩)
  · exact .inr h
theorem flat_one (g : Nat → Nat) : ∀ l : List Nat, (l.map fun k => [g k]).flatten = l.map g
  | [] => rfl
  | a :: r => by rw [List.map_cons, List.flatten_cons, flat_one g r]; rfl
theorem sum_one (g : Nat → Nat) : ∀ l : List Nat, ((l.map fun k => [g k]).map List.length).sum = l.length
  | [] => rfl
  | a :: r => by have := sum_one g r; simp only [List.map_cons, List.sum_cons, List.length_cons, List.length_nil, this]; omega
theorem join_one {K : PySem.W.Frag} {H1 : Hp} {D : Addr} {Q : VK} (l : List Nat) (g : Nat → Nat) (hs : H1 D = some (.lst (l.map fun k => T [g k]))) (hl : l.length ≤ 1000) (q : Q (T (l.map g)) H1) : gJoin K (T []) [.ref D] H1 Q := by
  refine ⟨l.map fun k => [g k], SqL.of (by rw [hs, List.map_map]; rfl), ?_, ?_⟩
  · unfold fitJ; rw [sum_one]; simp [cs]; omega
  · show Q (T (joinN [] _)) H1
    rw [joinN_nil, flat_one]; exact q
theorem passF {P : Program} {w : World} {X : Cx} : Passes' (XE P w) X (fun _ _ _ _ => False) := fun _ _ _ _ _ _ _ ⟨_, _, _, _, _, _, _, _, _, _, _, q⟩ => q.elim
def isCF : Option NameKind → Bool
  | some .cell => true
  | some .free => true
  | _ => false
theorem isCF_iff {k : Option NameKind} : isCF k = true ↔ (k = some .cell ∨ k = some .free) := by
  cases k with
  | none => simp [isCF]
  | some k => cases k <;> simp [isCF]
theorem keys_of {cl : List (Str × Addr)} {fr : List Str} (h : (cl.map (·.1)).all (fun y => fr.elem y) = true) : ∀ y ∈ cl, y.1 ∈ fr := fun y hy => by
  have := List.all_eq_true.mp h y.1 (List.mem_map_of_mem hy)
  simpa using this
theorem kinds_of {fr : List Str} {k : Str → Option NameKind} (h : fr.all (fun y => isCF (k y)) = true) : ∀ y ∈ fr, k y = some .cell ∨ k y = some .free := fun y hy => isCF_iff.mp (List.all_eq_true.mp h y hy)
theorem only_of {names : List (Str × NameKind)} {fr : List Str} (h : names.all (fun p => !isCF (some p.2) || fr.elem p.1) = true) : ∀ y, (names.lookup y = some .cell ∨ names.lookup y = some .free) → y ∈ fr := fun y hy => by
  have hy' := isCF_iff.mpr hy
  cases e : names.lookup y with
  | none => rw [e] at hy'; cases hy'
  | some k =>
    rw [e] at hy'
    have := List.all_eq_true.mp h (y, k) (PySem.mem_of_lookup e)
    simpa [hy'] using this
end L2
set_option Elab.async false
set_option linter.all false
set_option maxRecDepth 100000
namespace L2
open PySem PySem.Spec PyProof.Rows Builtin Builtin.Str
section
variable {X : Cx} {pos : Pos}
theorem big_of {pins : List (Addr × Obj)} {σ : St} {H : Hp} {s : Shared} (I : Inv X pins σ H s) : sysModules < s.heap.objs.size :=
  Nat.lt_trans (by decide) (show mainGlobals < s.heap.objs.size from (I.mod.glob.keeps I.bk).lt)
def fDnew : TE := fun _ H Q => ∀ p, H p = none → Q (.ref p) (upd H p (.dK []))
theorem fe_dnew : PE X (.Dict [] [] pos) fDnew := by
  intro pins s σ H Q I h
  have new : ObjOk X.prog X.w (upd H s.heap.objs.size (.dK [])) (s.heap.push { cls := .type "dict", data := .dict #[] }) s.heap.objs.size (.dK []) :=
    ⟨Nat.zero_le _, beq_eq_false_iff_ne.mpr (Ne.symm (Nat.ne_of_lt (big_of I))), [], .nil, Heap.DictOf.new s.heap⟩
  exact wpAny_Dict_empty ⟨.ref s.heap.objs.size, _, I.laid (t' := s.toks) (fun _ _ q => Heap.get?_push_of_some _ q) (Nat.le_refl _) new, rfl, h _ (I.hok.fresh (Nat.le_refl _))⟩
end
end L2
set_option Elab.async false
set_option linter.all false
set_option maxRecDepth 100000
namespace L2
open PySem PySem.Spec PyProof.Rows Builtin Builtin.Str
section
variable {X : Cx}
structure EnumC (C : Hp → Prop) (J : It) (vs : List V) : Prop where
  go : ∀ i H, C H → i < vs.length → J.go i H
  yld : ∀ i H x H', C H → i < vs.length → J.yld i H x H' → H' = H ∧ vs[i]? = some x
  stop : ∀ H, C H → J.stop vs.length H
theorem comp_enumC {J : It} {vs : List V} {σ' : St} {H1 : Hp} {Q : VK} {tt : TT} {te : TE} (C : Hp → Prop) (E : EnumC C J vs) (p : V → Bool) (f : V → V) (hlen : vs.length ≤ sizeLine)
    (hp : ∀ x ∈ vs, ∀ H (R : Bool → Hp → Prop), C H → R (p x) H → tt (some x :: σ') H R) (hf : ∀ x ∈ vs, p x = true → ∀ H (R : VK), C H → R (f x) H → te (some x :: σ') H R)
    (D : Addr) (hD : H1 D = none) (hC : ∀ ys, C (upd H1 D (.lst ys))) (q : Q (.ref D) (upd H1 D (.lst ((vs.filter p).map f)))) :
    ∃ W : Nat → Nat → List V → Hp → Prop, (∃ m, W 0 m [] (upd H1 D (.lst []))) ∧
      ∀ i m ys H2, W i m ys H2 → H2 D = some (.lst ys) ∧ ((J.stop i H2 ∧ Q (.ref D) H2) ∨ (J.go i H2 ∧ ∀ x H3, J.yld i H2 x H3 →
        tt (some x :: σ') H3 fun b H4 => if b = true then te (some x :: σ') H4 fun y H5 => H5 D = some (.lst ys) ∧ ys.length < sizeLine ∧ ∃ m', m' < m ∧ W (i + 1) m' (ys ++ [y]) (upd H5 D (.lst (ys ++ [y])))
          else ∃ m', m' < m ∧ W (i + 1) m' ys H4)) := by
  refine ⟨fun i m ys H2 => m = vs.length - i ∧ i ≤ vs.length ∧ ys = ((vs.take i).filter p).map f ∧ H2 = upd H1 D (.lst ys), ⟨vs.length, by simp, Nat.zero_le _, by simp, rfl⟩, ?_⟩
  rintro i m ys H2 ⟨rfl, hi, hys, rfl⟩
  refine ⟨upd_same, ?_⟩
  by_cases hlt : i < vs.length
  · refine .inr ⟨E.go i _ (hC _) hlt, fun x H3 y => ?_⟩
    obtain ⟨e, hx⟩ := E.yld i _ x H3 (hC _) hlt y
    subst e
    have hm : x ∈ vs := List.mem_of_getElem? hx
    have htk : vs.take (i + 1) = vs.take i ++ [x] := by
      rw [List.take_succ, hx]; rfl
    have hyl : ys.length ≤ i := by
      rw [hys, List.length_map]
      exact Nat.le_trans (List.length_filter_le _ _) (by simp [List.length_take]; omega)
    refine hp x hm _ _ (hC _) ?_
    cases hb : p x with
    | true =>
      rw [if_pos rfl]
      refine hf x hm hb _ _ (hC _) ⟨upd_same, by omega, vs.length - (i + 1), by omega, rfl, hlt, ?_, ?_⟩
      · rw [htk, List.filter_append, List.map_append, ← hys]
        simp [hb]
      · funext z
        by_cases hz : z = D
        · subst hz; rw [upd_same, upd_same]
        · rw [upd_ne hz, upd_ne hz, upd_ne hz]
    | false =>
      rw [if_neg Bool.false_ne_true]
      refine ⟨vs.length - (i + 1), by omega, rfl, hlt, ?_, rfl⟩
      rw [htk, List.filter_append, List.map_append, ← hys]
      simp [hb]
  · have e : i = vs.length := by omega
    subst e
    refine .inl ⟨E.stop _ (hC _), ?_⟩
    rw [List.take_length] at hys
    rw [hys]; exact q
theorem enum_lst {K : PySem.W.Frag} {C : Hp → Prop} {a : Addr} {vs : List V} (h : ∀ H, C H → SqL K H a vs) : EnumC C (Itl K a) vs :=
  ⟨fun i H c hi => ⟨vs, vs[i], h H c, List.getElem?_eq_getElem hi⟩, fun i H x H' c _ y => ⟨y.1, y.2 vs (h H c)⟩, fun H c => ⟨vs, h H c, Nat.le_refl _⟩⟩
theorem comp_lst {K : PySem.W.Frag} {tl : TE} {ks : List Nat} {σ : St} {H H1 : Hp} {Q : VK} {tt : TT} {te : TE} (a : Addr) (vs : List V) (C : Hp → Prop) (hC : ∀ D ys, H1 D = none → C (upd H1 D (.lst ys))) (hT : ∀ H, C H → SqL K H a vs) (p : V → Bool) (f : V → V)
    (hl : ∀ R : VK, R (.ref a) H1 → tl σ H R) (h1 : SqL K H1 a vs) (hz : vs.length ≤ sizeLine)
    (hp : ∀ x ∈ vs, ∀ H (R : Bool → Hp → Prop), C H → R (p x) H → tt (some x :: ks.map fun k => (σ[k]?).join) H R) (hf : ∀ x ∈ vs, p x = true → ∀ H (R : VK), C H → R (f x) H → te (some x :: ks.map fun k => (σ[k]?).join) H R)
    (q : ∀ D, H1 D = none → Q (.ref D) (upd H1 D (.lst ((vs.filter p).map f)))) : tComp (iList K tl) ks tt te σ H Q :=
  hl _ ⟨a, rfl, ⟨vs, h1⟩, fun D hD => comp_enumC C (enum_lst hT) p f hz hp hf D hD (fun ys => hC D ys hD) (q D hD)⟩
end
end L2
set_option Elab.async false
set_option linter.all false
set_option maxRecDepth 100000
namespace L2
open PySem PySem.Spec PyProof.Rows
section
variable {X : Cx} {K : PySem.W.Frag} {pos : Pos}
theorem fg_tupK (K : PySem.W.Frag) {es : List Expr} {k : Nat} {t : TGs} {n : Nat} (hc : X.calm = true) (h : PGs X es t) (hK : X.K = K := by rfl)
    (hn : (assignEach es X.env).length = n := by rfl) (hst : (assignEach es X.env).findIdx? (·.1) = none := by rfl) : PG X (.Tuple es k pos) (gTup K n t) := by
  subst hK; exact pg_tup hc h hn hst
end
section
variable {X : Cx} {T name id : String} {r : V → List V → Hp → VK → Prop} {o e : Expr} {es : List Expr} {to : TE} {t : TA} {apos cpos : Pos}
theorem pe_bmK (K : PySem.W.Frag) (pa : PlainAttrs T) (slot : Slot T name id) (hty : typeOf (.builtin id) = pure (.type "method_descriptor")) (hm : MtR X id r) (ho : PE X o to) (ha : PA X (e :: es) t) (hK : X.K = K := by rfl)
    (hbase : attributeBase o name X.env (eval o X.env) = eval o X.env := by rfl)
    (hfew : ((backTo cpos (starEach (e :: es) X.env)).all (fun x => !x.1) && (backToKw cpos (keywordEach [] X.env)).all (fun x => x.1.isSome)
      && decide ((e :: es).length + ([] : List Keyword).length + (if ([] : List Keyword).isEmpty then 0 else 1) < 30)) = true := by rfl)
    (hline : (apos.endLine == cpos.line) = true := by rfl) (hs : starEach (e :: es) X.env = (false, eval e X.env) :: starEach es X.env := by rfl) (hplain : (backTo cpos (starEach es X.env)).any (·.1) = false := by rfl) :
    PE X (.Call (.Attribute o name apos) (e :: es) [] cpos) (tBM K T r to t) := by
  subst hK; exact pe_bm pa slot hty hm ho ha hbase hfew hline hs hplain
end
section
variable {K : PySem.W.Frag} {tl : TE} {ks : List Nat} {σ : St} {H : Hp} {Q : VK} {tt : TT} {te : TE}
theorem comp_lstB (h : tl σ H fun v H1 => tComp (iList K (tC v)) ks tt te σ H1 Q) : tComp (iList K tl) ks tt te σ H Q := h
end
end L2
set_option Elab.async false
set_option linter.all false
set_option maxRecDepth 100000
namespace L2
end L2
set_option Elab.async false
set_option linter.all false
set_option maxRecDepth 100000
namespace L2
open PySem PySem.Spec PyProof.Rows Builtin Builtin.Str
def spN (c : Nat) : List Nat → List (List Nat)
  | [] => [[]]
  | a :: r => if a = c then [] :: spN c r else match spN c r with
    | h :: t => (a :: h) :: t
    | [] => [[a]]
theorem spN_ne (c : Nat) : ∀ l, spN c l ≠ []
  | [] => by simp [spN]
  | a :: r => by
    unfold spN
    split
    · simp
    · split <;> simp
theorem spN_free (c : Nat) : ∀ l : List Nat, c ∉ l → spN c l = [l]
  | [], _ => rfl
  | a :: r, h => by
    have h1 : ¬ a = c := fun z => h (by rw [z]; simp)
    have h2 : c ∉ r := fun z => h (List.mem_cons_of_mem _ z)
    unfold spN
    rw [if_neg h1, spN_free c r h2]
theorem spN_app (c : Nat) : ∀ (l r : List Nat), c ∉ l → spN c (l ++ c :: r) = l :: spN c r
  | [], r, _ => by simp [spN]
  | a :: l, r, h => by
    have h1 : ¬ a = c := fun z => h (by rw [z]; simp)
    have h2 : c ∉ l := fun z => h (List.mem_cons_of_mem _ z)
    rw [List.cons_append]
    show (if a = c then _ else _) = _
    rw [if_neg h1, spN_app c l r h2]
theorem spN_join (c : Nat) : ∀ ps : List (List Nat), ps ≠ [] → (∀ p ∈ ps, c ∉ p) → spN c (joinN [c] ps) = ps
  | [], h, _ => absurd rfl h
  | [p], _, h => spN_free c p (h p (by simp))
  | p :: q :: r, _, h => by
    rw [joinN, List.append_assoc, List.singleton_append, spN_app c p _ (h p (by simp)), spN_join c (q :: r) (by simp) fun x hx => h x (List.mem_cons_of_mem _ hx)]
theorem join_spN (c : Nat) : ∀ l : List Nat, joinN [c] (spN c l) = l
  | [] => rfl
  | a :: r => by
    have ih := join_spN c r
    unfold spN
    split
    · rename_i e
      cases es : spN c r with
      | nil => exact absurd es (spN_ne c r)
      | cons h t => rw [es] at ih; rw [joinN, ih, e]; rfl
    · cases es : spN c r with
      | nil => exact absurd es (spN_ne c r)
      | cons h t =>
        rw [es] at ih
        cases t with
        | nil => simp [joinN] at ih ⊢; exact ih
        | cons h2 t => rw [joinN] at ih ⊢; rw [← ih]; simp
theorem spN_nfree (c : Nat) : ∀ (l : List Nat), ∀ p ∈ spN c l, c ∉ p
  | [], p, hp => by simp [spN] at hp; rw [hp]; simp
  | a :: r, p, hp => by
    unfold spN at hp
    split at hp
    · rcases List.mem_cons.mp hp with h | h
      · rw [h]; simp
      · exact spN_nfree c r p h
    · rename_i hne
      split at hp
      · rename_i h t es
        rcases List.mem_cons.mp hp with e | e
        · rw [e]
          have := spN_nfree c r h (by rw [es]; simp)
          simp only [List.mem_cons, not_or]
          exact ⟨fun z => hne z.symm, this⟩
        · exact spN_nfree c r p (by rw [es]; exact List.mem_cons_of_mem _ e)
      · rename_i es; exact absurd es (spN_ne c r)
theorem spN_len (c : Nat) : ∀ l : List Nat, (spN c l).length ≤ l.length + 1
  | [] => by simp [spN]
  | a :: r => by
    have ih := spN_len c r
    unfold spN
    split
    · simp; omega
    · split
      · rename_i es; rw [es] at ih; simp at ih ⊢; omega
      · simp
theorem spN_mem (c : Nat) : ∀ l : List Nat, ∀ p ∈ spN c l, p.length ≤ l.length ∧ ∀ d ∈ p, d ∈ l
  | [], p, hp => by simp [spN] at hp; rw [hp]; simp
  | a :: r, p, hp => by
    unfold spN at hp
    split at hp
    · rcases List.mem_cons.mp hp with h | h
      · rw [h]; simp
      · obtain ⟨h1, h2⟩ := spN_mem c r p h
        exact ⟨by rw [List.length_cons]; omega, fun d hd => List.mem_cons_of_mem _ (h2 d hd)⟩
    · split at hp
      · rename_i h t es
        rcases List.mem_cons.mp hp with e | e
        · obtain ⟨h1, h2⟩ := spN_mem c r h (by rw [es]; simp)
          rw [e]
          refine ⟨by rw [List.length_cons, List.length_cons]; omega, fun d hd => ?_⟩
          rcases List.mem_cons.mp hd with z | z
          · rw [z]; simp
          · exact List.mem_cons_of_mem _ (h2 d z)
        · obtain ⟨h1, h2⟩ := spN_mem c r p (by rw [es]; exact List.mem_cons_of_mem _ e)
          exact ⟨by rw [List.length_cons]; omega, fun d hd => List.mem_cons_of_mem _ (h2 d hd)⟩
      · rename_i es; exact absurd es (spN_ne c r)
theorem split_ne (x y : Str) : Txt.split x y ≠ [] := by
  unfold Txt.split
  split
  · simp
  · split
    · simp
    · rw [StrLaws.partsBetween_eq]
      obtain ⟨p, r, e⟩ := StrLaws.partsFrom_ne x y.length 0 (occurrences x y 0 x.length (x.length + 1))
      rw [e]; simp
theorem split_eq (l : List Nat) (c : Nat) : (Txt.split ⟨⟨l⟩⟩ ⟨#[c]⟩).map (fun x => cs x) = spN c l := by
  have h1 := StrLaws.join_split ⟨⟨l⟩⟩ ⟨#[c]⟩
  have h2 := StrLaws.split_free ⟨⟨l⟩⟩ c
  have h0 := split_ne ⟨⟨l⟩⟩ ⟨#[c]⟩
  generalize Txt.split ⟨⟨l⟩⟩ ⟨#[c]⟩ = ps at h0 h1 h2
  have hj : joinN [c] (ps.map fun x => cs x) = l := by
    have e : ps = (ps.map fun x => cs x).map S := by rw [List.map_map]; conv => lhs; rw [← List.map_id ps]
                                                     apply List.map_congr_left; intro x _; rfl
    rw [e] at h1
    have h3 : Str.join (S [c]) ((ps.map fun x => cs x).map S) = S (joinN [c] (ps.map fun x => cs x)) := by
      have := join_eq [c] (ps.map fun x => cs x)
      exact (StrLaws.glued_eq_join _ _).symm.trans this
    have h4 : S (joinN [c] (ps.map fun x => cs x)) = ⟨⟨l⟩⟩ := h3.symm.trans h1
    have h5 := congrArg cs h4
    exact h5
  have hne : (ps.map fun x => cs x) ≠ [] := by
    intro z
    exact h0 (List.map_eq_nil_iff.mp z)
  rw [← hj, spN_join c _ hne]
  intro p hp
  obtain ⟨x, hx, rfl⟩ := List.mem_map.mp hp
  exact h2 x hx
section
variable {X : Cx} {e a b c : Expr} {pos : Pos}
def gSpl : V → List V → Hp → VK → Prop
  | .str x, [.str y], H, Q => (∃ c, cs y = [c] ∧ (cs x).length + 2 ≤ sizeLine ∧ ∀ p, H p = none → Q (.ref p) (upd H p (.lst ((spN c (cs x)).map T))))
  | _, _, _, _ => False
theorem vals_strs : ∀ (l : List (Str × Tok)), Vals (l.map fun p => V.str p.1) (strValues l)
  | [] => .nil
  | p :: r => .cons ⟨p.2, rfl⟩ (vals_strs r)
theorem fm_split : MtR X "str.split" gSpl := by
  intro pins s σ H x xs v us Q I rx rs h
  unfold gSpl at h
  split at h
  · rename_i x y
    obtain ⟨c, hc, hz, q⟩ := h
    obtain ⟨t, rfl⟩ := rx
    obtain ⟨u, rfl, t', rfl⟩ := vals1 rs
    have hy := one_of hc
    subst hy
    obtain ⟨⟨l⟩⟩ := x
    have hx : (⟨⟨l⟩⟩ : Str).length + 2 ≤ sizeLine := hz
    have fin : ∀ (l' : List (Str × Tok)) (k : Nat), l'.map (·.1) = Txt.split ⟨⟨l⟩⟩ ⟨#[c]⟩ → EP X pins σ Q (.ref s.heap.objs.size) { s with toks := k, heap := s.heap.push { cls := .type "list", data := .seq (strValues l').toArray } } := fun l' k hl => by
      have e : (spN c l).map T = l'.map fun p => V.str p.1 := by
        rw [← split_eq, ← hl, List.map_map, List.map_map]
        apply List.map_congr_left
        intro p _; rfl
      have hlen : ((spN c l).map T).length ≤ sizeLine := by
        rw [List.length_map]
        have := spN_len c l
        have hz' : l.length + 2 ≤ sizeLine := hz
        omega
      have hv : Vals ((spN c l).map T) (strValues l') := by rw [e]; exact vals_strs l'
      exact ⟨.ref s.heap.objs.size, _, I.lnew (t' := k) hv hlen, rfl, q _ I.fresh⟩
    have hn : (partsBetween ⟨⟨l⟩⟩ (occurrences ⟨⟨l⟩⟩ ⟨#[c]⟩ 0 (⟨⟨l⟩⟩ : Str).length ((⟨⟨l⟩⟩ : Str).length + 1)) (⟨#[c]⟩ : Str).length).length ≤ sizeLine := by
      have e1 := StrLaws.occ_length_le ⟨⟨l⟩⟩ ⟨#[c]⟩ 0 (⟨⟨l⟩⟩ : Str).length ((⟨⟨l⟩⟩ : Str).length + 1)
      rw [length_partsBetween]; omega
    have hy : ((⟨#[c]⟩ : Str).length == 0) = false := rfl
    cases h1 : (decide ((⟨⟨l⟩⟩ : Str).length < (⟨#[c]⟩ : Str).length) || decide (strKind ⟨⟨l⟩⟩ < strKind ⟨#[c]⟩))
    · cases hf : (occurrences ⟨⟨l⟩⟩ ⟨#[c]⟩ 0 (⟨⟨l⟩⟩ : Str).length ((⟨⟨l⟩⟩ : Str).length + 1)).isEmpty
      · refine call_meets F.slot_str_split (typeIs_str _ _ _) F.entry_str_split (F.args_str_split_2 _ _) (meets_str_split_sep ⟨⟨l⟩⟩ ⟨#[c]⟩ t t' h1 hy hf (by omega) hn) ?_
        show wants _ _ _ { s with toks := _, heap := s.heap.push { cls := .type "list", data := .seq (strsFrom s.toks (partsBetween ⟨⟨l⟩⟩ (occurrences ⟨⟨l⟩⟩ ⟨#[c]⟩ 0 (⟨⟨l⟩⟩ : Str).length ((⟨⟨l⟩⟩ : Str).length + 1)) (⟨#[c]⟩ : Str).length)).toArray } }
        rw [strsFrom_eq]
        exact fin (numbered s.toks _) _ ((numbered_texts _ _).trans ((if_neg (ne_true_of_eq_false h1)).trans (if_neg (ne_true_of_eq_false hf))).symm)
      · refine call_meets F.slot_str_split (typeIs_str _ _ _) F.entry_str_split (F.args_str_split_2 _ _) (meets_str_split_not_found ⟨⟨l⟩⟩ ⟨#[c]⟩ t t' h1 hy hf) ?_
        exact fin [(⟨⟨l⟩⟩, t)] s.toks ((if_neg (ne_true_of_eq_false h1)).trans (if_pos hf)).symm
    · refine call_meets F.slot_str_split (typeIs_str _ _ _) F.entry_str_split (F.args_str_split_2 _ _) (meets_str_split_cannot_occur ⟨⟨l⟩⟩ ⟨#[c]⟩ t t' h1) ?_
      exact fin [(⟨⟨l⟩⟩, t)] s.toks (if_pos h1).symm
  · exact h.elim
def gCat : R2
  | .ref l, .ref b, H, Q => ∃ xs zs, H l = some (.lst xs) ∧ H b = some (.lst zs) ∧ xs.length + zs.length ≤ sizeLine ∧ ∀ p, H p = none → Q (.ref p) (upd H p (.lst (xs ++ zs)))
  | _, _, _, _ => False
theorem fo_cat : OpR X (binaryOp .Add) gCat := op_cat.imp fun x y H Q h => by
  unfold gCat at h; split at h
  · obtain ⟨xs, zs, h1, h2, h3, q⟩ := h
    exact ⟨_, _, xs, zs, rfl, rfl, h1, h2, h3, q⟩
  · exact h.elim
theorem fs_listK (K : PySem.W.Frag) (h : X.K = K := by rfl) : SlR X (rSlL K) := h ▸ sl_list
inductive EqH (K : PySem.W.Frag) (H : Hp) : Nat → V → V → Bool → Prop
  | flat {n x y} : flatV x = true → flatV y = true → EqH K H n x y (eqV x y)
  | same {n p} : EqH K H n (.ref p) (.ref p) true
  | lst {n p q xs ys} {e : Nat → Bool} : p ≠ q → SqL K H p xs → SqL K H q ys → xs.length = ys.length → (∀ j x y, xs[j]? = some x → ys[j]? = some y → EqH K H n x y (e j)) → EqH K H (n + 1) (.ref p) (.ref q) ((List.range xs.length).all e)
  | len {n p q xs ys} : p ≠ q → SqL K H p xs → SqL K H q ys → xs.length ≠ ys.length → EqH K H (n + 1) (.ref p) (.ref q) false
  | tup {n p q xs ys} {e : Nat → Bool} : p ≠ q → SqT K H p xs → SqT K H q ys → (∀ j x y, xs[j]? = some x → ys[j]? = some y → EqH K H n x y (e j)) → EqH K H (n + 1) (.ref p) (.ref q) ((List.range (min xs.length ys.length)).all e && xs.length == ys.length)
  | lt {n p q xs ys} : SqL K H p xs → SqT K H q ys → EqH K H (n + 1) (.ref p) (.ref q) false
  | tl {n p q xs ys} : SqT K H p xs → SqL K H q ys → EqH K H (n + 1) (.ref p) (.ref q) false
theorem at_items {P : Value → Value → Bool → Prop} {xs ys : List V} {its its' : List Value} {e : Nat → Bool} (r : Vals xs its) (r' : Vals ys its') (h : ∀ j x y u v, xs[j]? = some x → ys[j]? = some y → RelV x u → RelV y v → P u v (e j)) :
    ∀ j (h1 : j < its.toArray.size) (h2 : j < its'.toArray.size), P its.toArray[j] its'.toArray[j] (e j) := fun j g1 g2 => by
  have h1 : xs.length = its.length := r.length
  have h2 : ys.length = its'.length := r'.length
  have g1' : j < its.length := by simpa using g1
  have g2' : j < its'.length := by simpa using g2
  have l1 : j < xs.length := by omega
  have l2 : j < ys.length := by omega
  obtain ⟨w1, e1, r1⟩ := r.get (List.getElem?_eq_getElem l1)
  obtain ⟨w2, e2, r2⟩ := r'.get (List.getElem?_eq_getElem l2)
  have z1 : its.toArray[j] = w1 := by
    have : its[j]? = some its[j] := List.getElem?_eq_getElem g1'
    rw [this] at e1; simpa using Option.some.inj e1
  have z2 : its'.toArray[j] = w2 := by
    have : its'[j]? = some its'[j] := List.getElem?_eq_getElem g2'
    rw [this] at e2; simpa using Option.some.inj e2
  rw [z1, z2]
  exact h j _ _ _ _ (List.getElem?_eq_getElem l1) (List.getElem?_eq_getElem l2) r1 r2
theorem EqH.at {K : PySem.W.Frag} {H : Hp} {n : Nat} {x y : V} {b : Bool} (h : EqH K H n x y b) : ∀ {X : Cx} {pins : List (Addr × Obj)} {σ : St} {s : Shared} {A : Around} {u v : Value}, X.K = K → Inv X pins σ H s → A.units + n < cLine → RelV x u → RelV y v → SeqAt.EqAt A s u v b := by
  induction h with
  | flat fx fy =>
    intro X pins σ s A u v hK I hu rx ry
    exact eqAt_V rx ry fx fy
  | same =>
    intro X pins σ s A u v hK I hu rx ry
    cases rx; cases ry
    exact SeqAt.EqAt.same _
  | @lst n p q xs ys e hpq hx hy hl _ ih =>
    intro X pins σ s A u v hK I hu rx ry
    cases rx; cases ry
    subst hK
    obtain ⟨its, r, pl, hz⟩ := I.list hx
    obtain ⟨its', r', pl', hz'⟩ := I.list hy
    have h1 : xs.length = its.length := r.length
    have h2 : ys.length = its'.length := r'.length
    have := SeqAt.RcAt.lists (A := A) (e := e) pl.isList pl'.isList (by simp; omega) (by omega) (at_items r r' fun j x y u v g1 g2 r1 r2 => ih j x y g1 g2 rfl I (by show A.units + 1 + n < cLine; omega) r1 r2)
    rw [List.size_toArray, ← h1] at this
    exact .of_refs hpq this
  | @len n p q xs ys hpq hx hy hl =>
    intro X pins σ s A u v hK I hu rx ry
    cases rx; cases ry
    subst hK
    obtain ⟨its, r, pl, hz⟩ := I.list hx
    obtain ⟨its', r', pl', hz'⟩ := I.list hy
    have h1 : xs.length = its.length := r.length
    have h2 : ys.length = its'.length := r'.length
    exact .of_refs hpq (SeqAt.RcAt.lists_lengths pl.isList pl'.isList (by simp; omega) (by omega))
  | @tup n p q xs ys e hpq hx hy _ ih =>
    intro X pins σ s A u v hK I hu rx ry
    cases rx; cases ry
    subst hK
    obtain ⟨its, r, pl, hz⟩ := I.tuple hx
    obtain ⟨its', r', pl', hz'⟩ := I.tuple hy
    have h1 : xs.length = its.length := r.length
    have h2 : ys.length = its'.length := r'.length
    have := SeqAt.RcAt.tuples (A := A) (e := e) pl pl' (by omega) (at_items r r' fun j x y u v g1 g2 r1 r2 => ih j x y g1 g2 rfl I (by show A.units + 1 + n < cLine; omega) r1 r2)
    rw [List.size_toArray, List.size_toArray, ← h1, ← h2] at this
    exact .of_refs hpq this
  | lt hx hy =>
    intro X pins σ s A u v hK I hu rx ry
    cases rx; cases ry
    subst hK
    obtain ⟨its, r, pl, hz⟩ := I.list hx
    obtain ⟨its', r', pl', hz'⟩ := I.tuple hy
    exact SeqAt.EqAt.list_tuple pl.isList pl' (by omega)
  | tl hx hy =>
    intro X pins σ s A u v hK I hu rx ry
    cases rx; cases ry
    subst hK
    obtain ⟨its, r, pl, hz⟩ := I.tuple hx
    obtain ⟨its', r', pl', hz'⟩ := I.list hy
    exact SeqAt.EqAt.tuple_list pl pl'.isList (by omega)
inductive EqR (K : PySem.W.Frag) (H : Hp) (p q : Addr) : Bool → Prop
  | lst {xs ys} {e : Nat → Bool} : SqL K H p xs → SqL K H q ys → xs.length = ys.length → (∀ j x y, xs[j]? = some x → ys[j]? = some y → EqH K H 50 x y (e j)) → EqR K H p q ((List.range xs.length).all e)
  | len {xs ys} : SqL K H p xs → SqL K H q ys → xs.length ≠ ys.length → EqR K H p q false
  | tup {xs ys} {e : Nat → Bool} : SqT K H p xs → SqT K H q ys → (∀ j x y, xs[j]? = some x → ys[j]? = some y → EqH K H 50 x y (e j)) → EqR K H p q ((List.range (min xs.length ys.length)).all e && xs.length == ys.length)
def gEqA (K : PySem.W.Frag) (neg : Bool) : R2
  | .ref p, .ref q, H, Q => ∃ b, EqR K H p q b ∧ Q (.bl (neg ^^ b)) H
  | _, _, _, _ => False
theorem fo_eqA (K : PySem.W.Frag) (hu : X.A.units + 100 < cLine) (hK : X.K = K := by rfl) : OpR X (compareOp .Eq) (gEqA K false) := by
  subst hK
  intro pins s σ H x y v u Q I rx ry h
  unfold gEqA at h
  split at h
  · rename_i p q
    obtain ⟨b, hb, q⟩ := h
    cases rx; cases ry
    cases hb with
    | @lst xs ys e hx hy hl he =>
      obtain ⟨its, r, pl, hz⟩ := I.list hx
      obtain ⟨its', r', pl', hz'⟩ := I.list hy
      have h1 : xs.length = its.length := r.length
      have h2 : ys.length = its'.length := r'.length
      refine SeqAt.eq_listAt (e := e) pl.isList pl'.isList (by simp; omega) (by omega) (at_items r r' fun j x y u v g1 g2 r1 r2 => (he j x y g1 g2).at rfl I (by show X.A.units + 1 + 50 < cLine; omega) r1 r2) ⟨.bl _, H, I, rfl, ?_⟩
      rw [List.size_toArray, ← h1]; simpa using q
    | @len xs ys hx hy hl =>
      obtain ⟨its, r, pl, hz⟩ := I.list hx
      obtain ⟨its', r', pl', hz'⟩ := I.list hy
      have h1 : xs.length = its.length := r.length
      have h2 : ys.length = its'.length := r'.length
      exact SeqAt.eq_list_lengthsAt pl.isList pl'.isList (by simp; omega) (by omega) ⟨.bl false, H, I, rfl, by simpa using q⟩
    | @tup xs ys e hx hy he =>
      obtain ⟨its, r, pl, hz⟩ := I.tuple hx
      obtain ⟨its', r', pl', hz'⟩ := I.tuple hy
      have h1 : xs.length = its.length := r.length
      have h2 : ys.length = its'.length := r'.length
      refine SeqAt.eq_tupleAt (e := e) pl pl' (by omega) (at_items r r' fun j x y u v g1 g2 r1 r2 => (he j x y g1 g2).at rfl I (by show X.A.units + 1 + 50 < cLine; omega) r1 r2) ⟨.bl _, H, I, rfl, ?_⟩
      rw [List.size_toArray, List.size_toArray, ← h1, ← h2]; simpa using q
  · exact h.elim
theorem fo_neA (K : PySem.W.Frag) (hu : X.A.units + 100 < cLine) (hK : X.K = K := by rfl) : OpR X (compareOp .NotEq) (gEqA K true) := by
  subst hK
  intro pins s σ H x y v u Q I rx ry h
  unfold gEqA at h
  split at h
  · rename_i p q
    obtain ⟨b, hb, q⟩ := h
    cases rx; cases ry
    cases hb with
    | @lst xs ys e hx hy hl he =>
      obtain ⟨its, r, pl, hz⟩ := I.list hx
      obtain ⟨its', r', pl', hz'⟩ := I.list hy
      have h1 : xs.length = its.length := r.length
      have h2 : ys.length = its'.length := r'.length
      refine SeqAt.RcNeAt.lists (e := e) pl.isList pl'.isList (by simp; omega) (by omega) (at_items r r' fun j x y u v g1 g2 r1 r2 => (he j x y g1 g2).at rfl I (by show X.A.units + 1 + 50 < cLine; omega) r1 r2) X.prog X.w X.xe _ ⟨.bl _, H, I, rfl, ?_⟩
      rw [List.size_toArray, ← h1]; simpa using q
    | @len xs ys hx hy hl =>
      obtain ⟨its, r, pl, hz⟩ := I.list hx
      obtain ⟨its', r', pl', hz'⟩ := I.list hy
      have h1 : xs.length = its.length := r.length
      have h2 : ys.length = its'.length := r'.length
      exact SeqAt.RcNeAt.lists_lengths pl.isList pl'.isList (by simp; omega) (by omega) X.prog X.w X.xe _ ⟨.bl true, H, I, rfl, by simpa using q⟩
    | @tup xs ys e hx hy he =>
      obtain ⟨its, r, pl, hz⟩ := I.tuple hx
      obtain ⟨its', r', pl', hz'⟩ := I.tuple hy
      have h1 : xs.length = its.length := r.length
      have h2 : ys.length = its'.length := r'.length
      refine SeqAt.RcNeAt.tuples (e := e) pl pl' (by omega) (at_items r r' fun j x y u v g1 g2 r1 r2 => (he j x y g1 g2).at rfl I (by show X.A.units + 1 + 50 < cLine; omega) r1 r2) X.prog X.w X.xe _ ⟨.bl _, H, I, rfl, ?_⟩
      rw [List.size_toArray, List.size_toArray, ← h1, ← h2]; simpa using q
  · exact h.elim
theorem EqR.flatL {K : PySem.W.Frag} {H : Hp} {p q : Addr} {xs : List V} (hx : SqL K H p xs) (hy : SqL K H q xs) (f : xs.all flatV = true) : EqR K H p q true := by
  have h := EqR.lst (K := K) (H := H) (e := fun j => eqV (xs.getD j .non) (xs.getD j .non)) hx hy rfl fun j x y gx gy => by
    have e1 : xs.getD j .non = x := by simp [List.getD, gx]
    rw [e1]
    rw [gx] at gy
    cases gy
    exact .flat (List.all_eq_true.mp f _ (List.mem_of_getElem? gx)) (List.all_eq_true.mp f _ (List.mem_of_getElem? gx))
  have e : (List.range xs.length).all (fun j => eqV (xs.getD j .non) (xs.getD j .non)) = true := by
    rw [List.all_eq_true]
    intro j hj
    have hf : flatV (xs.getD j .non) = true := by
      have hj' : j < xs.length := by simpa using hj
      have : xs.getD j .non ∈ xs := by
        have e1 : xs.getD j .non = xs[j] := by simp [List.getD, hj']
        rw [e1]; exact List.getElem_mem hj'
      exact List.all_eq_true.mp f _ this
    generalize xs.getD j .non = z at hf
    cases z <;> simp [eqV] at hf ⊢ <;> simp [flatV] at hf
  rw [e] at h; exact h
end
end L2
set_option Elab.async false
set_option linter.all false
set_option maxRecDepth 100000
namespace PySem
open Sem (wp)
open Builtin
end PySem
namespace L2
open PySem PySem.Spec PyProof.Rows Builtin Builtin.Str
section
variable {X : Cx} {e a b c : Expr} {pos : Pos}
def gEqQ (K : PySem.W.Frag) (neg : Bool) : R2 := fun x y H Q => match eqS x y with
  | some k => Q (.bl (neg ^^ k)) H
  | none => gEqA K neg x y H Q
theorem fo_eqQ (K : PySem.W.Frag) (hu : X.A.units + 100 < cLine) (hK : X.K = K := by rfl) : OpR X (compareOp .Eq) (gEqQ K false) := ((op_eqU (by omega)).or (fo_eqA K hu hK)).imp fun x y H Q h => by
  unfold gEqQ at h
  split at h
  · rename_i k hk
    obtain ⟨h1, h2⟩ := eqS_scal hk
    exact .inl (.inl ⟨h1, by rw [h2]; simpa using h⟩)
  · exact .inr h
theorem fo_neQ (K : PySem.W.Frag) (hu : X.A.units + 100 < cLine) (hK : X.K = K := by rfl) : OpR X (compareOp .NotEq) (gEqQ K true) := ((op_neU (by omega)).or (fo_neA K hu hK)).imp fun x y H Q h => by
  unfold gEqQ at h
  split at h
  · rename_i k hk
    obtain ⟨h1, h2⟩ := eqS_scal hk
    exact .inl (.inl ⟨h1, by rw [h2]; simpa using h⟩)
  · exact .inr h
variable {K : PySem.W.Frag} {neg : Bool} {H : Hp} {Q : VK}
theorem eqQ_int {i j : Int} : gEqQ K neg (.int i) (.int j) H Q = Q (.bl (neg ^^ decide (i = j))) H := rfl
theorem eqQ_bl {i j : Bool} : gEqQ K neg (.bl i) (.bl j) H Q = Q (.bl (neg ^^ decide (i = j))) H := rfl
theorem eqQ_str {i j : Str} : gEqQ K neg (.str i) (.str j) H Q = Q (.bl (neg ^^ decide (i.cps.toList = j.cps.toList))) H := rfl
theorem eqQ_ref {p q : Addr} : gEqQ K neg (.ref p) (.ref q) H Q = ∃ b, EqR K H p q b ∧ Q (.bl (neg ^^ b)) H := rfl
theorem eqQ_nn : gEqQ K neg .non .non H Q = Q (.bl (neg ^^ true)) H := rfl
theorem eqQ_ni {i : Int} : gEqQ K neg .non (.int i) H Q = Q (.bl (neg ^^ false)) H := rfl
theorem eqQ_in {i : Int} : gEqQ K neg (.int i) .non H Q = Q (.bl (neg ^^ false)) H := rfl
theorem eqQ_is {i : Int} {s : Str} : gEqQ K neg (.int i) (.str s) H Q = Q (.bl (neg ^^ false)) H := rfl
theorem eqQ_si {i : Int} {s : Str} : gEqQ K neg (.str s) (.int i) H Q = Q (.bl (neg ^^ false)) H := rfl
end
theorem for_tupB {K : PySem.W.Frag} {tl : TE} {g : TG} {tb : TS} {D : Ends} {σ : St} {H : Hp} (h : tl σ H fun v H1 => tFor (iTup K (tC v)) g tb D σ H1) : tFor (iTup K tl) g tb D σ H := h
theorem for_lstB {K : PySem.W.Frag} {tl : TE} {g : TG} {tb : TS} {D : Ends} {σ : St} {H : Hp} (h : tl σ H fun v H1 => tFor (iList K (tC v)) g tb D σ H1) : tFor (iList K tl) g tb D σ H := h
theorem for_tupC {K : PySem.W.Frag} {a : Addr} {xs : List V} {g : TG} {tb : TS} {D : Ends} {σ : St} {H : Hp} (hq : SqT K H a xs) (h : ∃ W : Nat → Nat → St → Hp → Prop, (∃ m, W 0 m σ H) ∧ ∀ i m σ H, W i m σ H →
      ((Itt K a).stop i H ∧ D.nx σ H) ∨ ((Itt K a).go i H ∧ ∃ N : St → Hp → Prop, (∀ σ' H', N σ' H' → ∃ m', m' < m ∧ W (i + 1) m' σ' H') ∧ ∀ x H', (Itt K a).yld i H x H' → g x σ H' fun σ2 H2 => tb { D with nx := N, ct := N, bk := D.nx } σ2 H2)) : tFor (iTup K (tC (.ref a))) g tb D σ H := ⟨a, rfl, ⟨xs, hq⟩, h⟩
theorem for_lstC {K : PySem.W.Frag} {a : Addr} {xs : List V} {g : TG} {tb : TS} {D : Ends} {σ : St} {H : Hp} (hq : SqL K H a xs) (h : ∃ W : Nat → Nat → St → Hp → Prop, (∃ m, W 0 m σ H) ∧ ∀ i m σ H, W i m σ H →
      ((Itl K a).stop i H ∧ D.nx σ H) ∨ ((Itl K a).go i H ∧ ∃ N : St → Hp → Prop, (∀ σ' H', N σ' H' → ∃ m', m' < m ∧ W (i + 1) m' σ' H') ∧ ∀ x H', (Itl K a).yld i H x H' → g x σ H' fun σ2 H2 => tb { D with nx := N, ct := N, bk := D.nx } σ2 H2)) : tFor (iList K (tC (.ref a))) g tb D σ H := ⟨a, rfl, ⟨xs, hq⟩, h⟩
theorem kind_same {H H' : Hp} {x : V} {t : String} (s : Same H H') (h : kindV H x = some t) : kindV H' x = some t := by
  cases x with
  | ref p =>
    unfold kindV at h ⊢
    dsimp only at h ⊢
    cases e : H p with
    | none => rw [e] at h; cases h
    | some o => rw [e] at h; rw [s _ _ e]; exact h
  | _ => exact h
theorem ixN_nat' {n j : Nat} (h : j < n) : ixN n (j : Int) = some j := by
  unfold ixN
  rw [if_pos (by omega)]
  simp [h]
theorem enum_rng2 (lo : Int) (n : Nat) : Enum (Itr lo n) ((List.range n).map fun k => V.int (lo + (k : Nat))) := by
  refine ⟨fun i H h => by simpa [Itr] using h, fun i H x H' hi y => ?_, fun H => by simp [Itr]⟩
  obtain ⟨e, rfl⟩ := y
  refine ⟨e, ?_⟩
  have hi' : i < n := by simpa using hi
  simp [hi']
theorem comp_rng2 {ta : TA} {ks : List Nat} {σ : St} {H : Hp} {Q : VK} {tt : TT} {te : TE} (C : Hp → Prop) (hC : ∀ D ys, H D = none → C (upd H D (.lst ys))) (lo hi : Int) (n : Nat) (hn : (hi - lo).toNat = n) (p : V → Bool) (f : V → V) (hl : ∀ R : List V → Hp → Prop, R [.int lo, .int hi] H → ta σ H R) (hb : -(2 ^ 62) ≤ lo ∧ lo < 2 ^ 62 ∧ -(2 ^ 62) ≤ hi ∧ hi < 2 ^ 62) (hz : n ≤ sizeLine)
    (hp : ∀ k : Nat, k < n → ∀ H (R : Bool → Hp → Prop), C H → R (p (.int (lo + k))) H → tt (some (.int (lo + k)) :: ks.map fun k => (σ[k]?).join) H R) (hf : ∀ k : Nat, k < n → p (.int (lo + k)) = true → ∀ H (R : VK), C H → R (f (.int (lo + k))) H → te (some (.int (lo + k)) :: ks.map fun k => (σ[k]?).join) H R)
    (q : ∀ D, H D = none → Q (.ref D) (upd H D (.lst ((((List.range n).map fun k : Nat => V.int (lo + k)).filter p).map f)))) : tComp (iRng2 ta) ks tt te σ H Q := by
  refine hl _ ⟨lo, hi, rfl, hb, ?_⟩
  rw [hn]
  intro D hD
  have P : ∀ x ∈ (List.range n).map fun k : Nat => V.int (lo + k), ∃ k : Nat, k < n ∧ x = .int (lo + k) := fun x hx => by
    obtain ⟨c, hc, rfl⟩ := List.mem_map.mp hx; exact ⟨c, by simpa using hc, rfl⟩
  refine comp_enum (enum_rng2 lo n) C p f (by simpa using hz) (fun x hx H R c' r => ?_) (fun x hx hb H R c' r => ?_) D hD (fun ys => hC D ys hD) (q D hD)
  · obtain ⟨c, hc, rfl⟩ := P x hx
    exact hp c hc H R c' r
  · obtain ⟨c, hc, rfl⟩ := P x hx
    exact hf c hc hb H R c' r
end L2
namespace L2
theorem units100 {k : Nat} {A : PySem.Around} (r : Room k A) : A.units + 100 < PySem.cLine := by have := r.un; omega
end L2
set_option Elab.async false
set_option linter.all false
set_option maxRecDepth 100000
namespace L2
open PySem PySem.Spec PyProof.Rows
section
variable {κ : Type} [DecidableEq κ]
def valV (kvs : List (κ × V)) (k : κ) : Option V := (kvs.find? fun kv => decide (kv.1 = k)).map (·.2)
def putK (kvs : List (κ × V)) (k : κ) (v : V) : List (κ × V) :=
  if (kvs.any fun kv => decide (kv.1 = k)) = true then kvs.map (fun kv => if kv.1 = k then (kv.1, v) else kv) else kvs ++ [(k, v)]
def dropK (kvs : List (κ × V)) (k : κ) : List (κ × V) := kvs.filter fun kv => decide (kv.1 ≠ k)
theorem valV_pos {p : κ × V} {r : List (κ × V)} {k : κ} (e : p.1 = k) : valV (p :: r) k = some p.2 := by simp [valV, List.find?_cons, e]
theorem valV_neg {p : κ × V} {r : List (κ × V)} {k : κ} (e : ¬ p.1 = k) : valV (p :: r) k = valV r k := by simp [valV, List.find?_cons, e]
theorem valV_any (k : κ) : ∀ kvs : List (κ × V), (kvs.any fun kv => decide (kv.1 = k)) = (valV kvs k).isSome
  | [] => rfl
  | p :: r => by
    rw [List.any_cons]
    by_cases e : p.1 = k
    · simp only [valV_pos e, decide_eq_true e, Bool.true_or, Option.isSome_some]
    · rw [valV_neg e, decide_eq_false e, Bool.false_or]; exact valV_any k r
theorem length_putK (kvs : List (κ × V)) (k : κ) (v : V) : (putK kvs k v).length ≤ kvs.length + 1 := by
  unfold putK
  split
  · rw [List.length_map]; omega
  · rw [List.length_append, List.length_cons, List.length_nil]; omega
theorem putK_new {kvs : List (κ × V)} {k : κ} (v : V) (h : valV kvs k = none) : putK kvs k v = kvs ++ [(k, v)] := by
  unfold putK
  rw [valV_any, h]
  exact if_neg (by decide)
theorem RelO.isSome_eq {o : Option V} {u : Option Value} (r : RelO o u) : o.isSome = u.isSome := by
  cases o with
  | none => cases u with
    | none => rfl
    | some _ => exact (show False from r).elim
  | some _ => cases u with
    | none => exact (show False from r).elim
    | some _ => rfl
theorem RelO.getD {o : Option V} {u : Option Value} {d : V} {d' : Value} (r : RelO o u) (rd : RelV d d') : RelV (o.getD d) (u.getD d') := by
  cases o with
  | none => cases u with
    | none => exact rd
    | some _ => exact (show False from r).elim
  | some _ => cases u with
    | none => exact (show False from r).elim
    | some _ => exact r
theorem KV.val {kvs : List (κ × V)} {vs : List (κ × Value)} (r : KV kvs vs) (k : κ) : RelO (valV kvs k) (valueAt vs k) := by
  unfold KV at r
  induction r with
  | nil => exact True.intro
  | @cons p q ps qs h t ih =>
    obtain ⟨h1, h2⟩ := h
    by_cases e : p.1 = k
    · have e' : q.1 = k := h1.symm.trans e
      have b : valueAt (q :: qs) k = some q.2 := by simp [valueAt, List.find?_cons, e']
      rw [valV_pos e, b]; exact h2
    · have e' : ¬ q.1 = k := fun z => e (h1.trans z)
      have b : valueAt (q :: qs) k = valueAt qs k := by simp [valueAt, List.find?_cons, e']
      rw [valV_neg e, b]; exact ih
theorem KV.any {kvs : List (κ × V)} {vs : List (κ × Value)} (r : KV kvs vs) (k : κ) : (kvs.any fun kv => decide (kv.1 = k)) = vs.any fun kv => decide (kv.1 = k) := by
  unfold KV at r
  induction r with
  | nil => rfl
  | cons h t ih => rw [List.any_cons, List.any_cons, ih, h.1]
theorem KV.repl {kvs : List (κ × V)} {vs : List (κ × Value)} (r : KV kvs vs) (k : κ) {y : V} {u : Value} (ry : RelV y u) :
    KV (kvs.map fun kv => if kv.1 = k then (kv.1, y) else kv) (vs.map fun kv => if kv.1 = k then (kv.1, u) else kv) := by
  unfold KV at r ⊢
  induction r with
  | nil => exact .nil
  | @cons p q ps qs h t ih =>
    rw [List.map_cons, List.map_cons]
    refine .cons ?_ ih
    obtain ⟨h1, h2⟩ := h
    by_cases e : p.1 = k
    · rw [if_pos e, if_pos (h1.symm.trans e)]; exact ⟨h1, ry⟩
    · rw [if_neg e, if_neg (fun z => e (h1.trans z))]; exact ⟨h1, h2⟩
theorem KV.put {kvs : List (κ × V)} {vs : List (κ × Value)} (r : KV kvs vs) (k : κ) {y : V} {u : Value} (ry : RelV y u) : KV (putK kvs k y) (stored vs k u) := by
  unfold putK stored
  rw [r.any k]
  by_cases e : (vs.any fun kv => decide (kv.1 = k)) = true
  · rw [if_pos e, if_pos e]; exact r.repl k ry
  · rw [if_neg e, if_neg e]; exact Paired.snoc r ⟨rfl, ry⟩
theorem KV.drop {kvs : List (κ × V)} {vs : List (κ × Value)} (r : KV kvs vs) (k : κ) : KV (dropK kvs k) (without vs k) := by
  unfold KV at r ⊢
  unfold dropK without
  induction r with
  | nil => exact .nil
  | @cons p q ps qs h t ih =>
    obtain ⟨h1, h2⟩ := h
    rw [List.filter_cons, List.filter_cons]
    by_cases e : p.1 = k
    · have a : ¬ decide (p.1 ≠ k) = true := by simp [e]
      have b : ¬ decide (q.1 ≠ k) = true := by simp [h1.symm.trans e]
      rw [if_neg a, if_neg b]; exact ih
    · have e' : ¬ q.1 = k := fun z => e (h1.trans z)
      have a : decide (p.1 ≠ k) = true := by simp [e]
      have b : decide (q.1 ≠ k) = true := by simp [e']
      rw [if_pos a, if_pos b]; exact .cons ⟨h1, h2⟩ ih
theorem KV.keys {kvs : List (κ × V)} {vs : List (κ × Value)} (r : KV kvs vs) : kvs.map (·.1) = vs.map (·.1) := by
  unfold KV at r
  induction r with
  | nil => rfl
  | cons h t ih => rw [List.map_cons, List.map_cons, ih, h.1]
theorem KV.length {kvs : List (κ × V)} {vs : List (κ × Value)} (r : KV kvs vs) : kvs.length = vs.length := Paired.length r
end
theorem kV_is {P : Program} {w : World} {k : Key} {u : Value} (r : RelV (kV k) u) : (mixKind P w).is k u = true := by
  cases k with
  | inl i => obtain ⟨t, e⟩ := (show ∃ t, u = Value.int i t from r); subst e; exact mixKind_int P w i t
  | inr x => obtain ⟨t, e⟩ := (show ∃ t, u = Value.str x t from r); subst e; exact mixKind_str P w x t
theorem items_are {P : Program} {w : World} : ∀ {ks : List Key} {us : List Value}, Vals (ks.map kV) us → ItemsAre (mixKind P w) ks us
  | [], _, r => by rw [List.map_nil] at r; cases r; exact .nil
  | k :: ks, _, r => by
    rw [List.map_cons] at r
    cases r with
    | cons h t => exact .cons (kV_is h) (items_are t)
abbrev KT (H : Hp) : List (List Key × V) → List (List Key × Addr × Value) → Prop := Paired fun p q => p.1 = q.1 ∧ H q.2.1 = some (.tup (p.1.map kV)) ∧ RelV p.2 q.2.2
theorem KT.val {H : Hp} {kvs : List (List Key × V)} {xs : List (List Key × Addr × Value)} (r : KT H kvs xs) (k : List Key) : RelO (valV kvs k) ((atKey xs k).map (·.2)) := by
  induction r with
  | nil => exact True.intro
  | @cons p q ps qs h t ih =>
    obtain ⟨h1, _, h2⟩ := h
    by_cases e : p.1 = k
    · have e' : q.1 = k := h1.symm.trans e
      have b : atKey (q :: qs) k = some q.2 := by simp [atKey, List.find?_cons, e']
      rw [valV_pos e, b]; exact h2
    · have e' : ¬ q.1 = k := fun z => e (h1.trans z)
      have b : atKey (q :: qs) k = atKey qs k := by simp [atKey, List.find?_cons, e']
      rw [valV_neg e, b]; exact ih
theorem KT.repl {H : Hp} {kvs : List (List Key × V)} {xs : List (List Key × Addr × Value)} (r : KT H kvs xs) (k : List Key) {y : V} {u : Value} (ry : RelV y u) :
    KT H (kvs.map fun kv => if kv.1 = k then (kv.1, y) else kv) (xs.map (putAt k u)) := by
  induction r with
  | nil => exact .nil
  | @cons p q ps qs h t ih =>
    rw [List.map_cons, List.map_cons]
    refine .cons ?_ ih
    obtain ⟨h1, h2, h3⟩ := h
    unfold putAt
    by_cases e : p.1 = k
    · rw [if_pos e, if_pos (h1.symm.trans e)]; exact ⟨h1, h2, ry⟩
    · rw [if_neg e, if_neg (fun z => e (h1.trans z))]; exact ⟨h1, h2, h3⟩
theorem KT.put {H : Hp} {kvs : List (List Key × V)} {xs : List (List Key × Addr × Value)} (r : KT H kvs xs) (k : List Key) {b : Addr} {y : V} {u : Value} (hb : H b = some (.tup (k.map kV))) (ry : RelV y u) :
    KT H (putK kvs k y) (storedH xs k b u) := by
  have e : (kvs.any fun kv => decide (kv.1 = k)) = (atKey xs k).isSome := by
    rw [valV_any, (r.val k).isSome_eq, Option.isSome_map]
  unfold putK storedH
  rw [e]
  by_cases q : (atKey xs k).isSome = true
  · rw [if_pos q, if_pos q]; exact r.repl k ry
  · rw [if_neg q, if_neg q]; exact Paired.snoc r ⟨rfl, hb, ry⟩
theorem KT.keeps {H H' : Hp} {kvs : List (List Key × V)} {xs : List (List Key × Addr × Value)} (r : KT H kvs xs) (ht : ∀ b ys, H b = some (.tup ys) → H' b = some (.tup ys)) : KT H' kvs xs :=
  Paired.mapP r fun _ _ z => ⟨z.1, ht _ _ z.2.1, z.2.2⟩
section
variable {P : Program} {w : World} {H : Hp} {h : Heap} {a : Addr}
theorem rd_of {u : HO} (ok : HOk P w H h) (e : Rd H a u) : ObjOk P w H h a u := e.ok ok
theorem dk_rd {kvs : List (Key × V)} (ok : HOk P w H h) (e : Rd H a (.dK kvs)) : kvs.length ≤ sizeLine ∧ (a == sysModules) = false ∧ ∃ vs, KV kvs vs ∧ h.DictOf (mixKind P w) a vs :=
  show ObjOk P w H h a (.dK kvs) from rd_of ok e
theorem dk_of {kvs : List (Key × V)} (ok : HOk P w H h) (e : H a = some (.dK kvs)) : kvs.length ≤ sizeLine ∧ (a == sysModules) = false ∧ ∃ vs, KV kvs vs ∧ h.DictOf (mixKind P w) a vs := dk_rd ok (.inl e)
theorem key_of {ks : List Key} (ok : HOk P w H h) (e : H a = some (.tup (ks.map kV))) : (tupleKind (mixKind P w)).is h ks a := by
  obtain ⟨_, its, r, o, h1, h2, n, h3⟩ := (show ObjOk P w H h a (.tup (ks.map kV)) from ok a _ e)
  exact ⟨o, its.toArray, n, h1, h2, h3, by simpa using items_are r⟩
theorem dt_rd {kvs : List (List Key × V)} (ok : HOk P w H h) (e : Rd H a (.dT kvs)) : kvs.length ≤ sizeLine ∧ (a == sysModules) = false ∧
    ∃ xs, KT H kvs xs ∧ h.DictOfH (tupleKind (mixKind P w)) a xs := by
  obtain ⟨z, y, xs, r, o, es, ep, h1, h2, h3, h4, h5⟩ := (show ObjOk P w H h a (.dT kvs) from rd_of ok e)
  refine ⟨z, y, xs, r, o, es, ep, h1, h2, h3, h4, fun x hx => ?_, h5⟩
  have all : ∀ {l : List (List Key × V)} {m : List (List Key × Addr × Value)}, KT H l m → ∀ x ∈ m, (tupleKind (mixKind P w)).is h x.1 x.2.1 := by
    intro l m q
    induction q with
    | nil => intro x hx; exact nomatch hx
    | @cons p q ps qs hq t ih =>
      intro x hx
      rcases List.mem_cons.mp hx with e | hx
      · subst e
        exact key_of ok (by rw [← hq.1]; exact hq.2.1)
      · exact ih x hx
  exact all r x hx
theorem dt_of {kvs : List (List Key × V)} (ok : HOk P w H h) (e : H a = some (.dT kvs)) : kvs.length ≤ sizeLine ∧ (a == sysModules) = false ∧
    ∃ xs, KT H kvs xs ∧ h.DictOfH (tupleKind (mixKind P w)) a xs := dt_rd ok (.inl e)
end
def DGet (H : Hp) (a : Addr) (y : V) (r : Option V) : Prop :=
  (∃ kvs k, Rd H a (.dK kvs) ∧ y = kV k ∧ r = valV kvs k) ∨ ∃ kvs k b, Rd H a (.dT kvs) ∧ y = .ref b ∧ H b = some (.tup (k.map kV)) ∧ r = valV kvs k
def DPut (H : Hp) (a : Addr) (y v : V) (H' : Hp) : Prop :=
  (∃ kvs k, H a = some (.dK kvs) ∧ y = kV k ∧ kvs.length < sizeLine ∧ H' = upd H a (.dK (putK kvs k v))) ∨
  ∃ kvs k b, H a = some (.dT kvs) ∧ y = .ref b ∧ H b = some (.tup (k.map kV)) ∧ kvs.length < sizeLine ∧ H' = upd H a (.dT (putK kvs k v))
theorem DGet.k {H : Hp} {a : Addr} {kvs : List (Key × V)} {k : Key} (e : H a = some (.dK kvs)) : DGet H a (kV k) (valV kvs k) := .inl ⟨kvs, k, .inl e, rfl, rfl⟩
theorem DGet.t {H : Hp} {a b : Addr} {kvs : List (List Key × V)} {k : List Key} (e : H a = some (.dT kvs)) (eb : H b = some (.tup (k.map kV))) : DGet H a (.ref b) (valV kvs k) := .inr ⟨kvs, k, b, .inl e, rfl, eb, rfl⟩
theorem DPut.k {H : Hp} {a : Addr} {kvs : List (Key × V)} {k : Key} {v : V} (e : H a = some (.dK kvs)) (hl : kvs.length < sizeLine) : DPut H a (kV k) v (upd H a (.dK (putK kvs k v))) := .inl ⟨kvs, k, e, rfl, hl, rfl⟩
theorem DPut.t {H : Hp} {a b : Addr} {kvs : List (List Key × V)} {k : List Key} {v : V} (e : H a = some (.dT kvs)) (eb : H b = some (.tup (k.map kV))) (hl : kvs.length < sizeLine) :
    DPut H a (.ref b) v (upd H a (.dT (putK kvs k v))) := .inr ⟨kvs, k, b, e, rfl, eb, hl, rfl⟩
section
variable {X : Cx} {pins : List (Addr × Obj)} {σ : St} {H : Hp} {s : Shared} {a : Addr} {y v : V} {u r : Value} {o : Option V} {A : Around} {E : Value → Shared → Prop}
theorem Inv.big (I : Inv X pins σ H s) : sysModules < s.heap.objs.size := by
  have h : mainGlobals < s.heap.objs.size := (I.mod.glob.keeps I.bk).lt
  exact Nat.lt_trans (by decide) h
theorem d_getItem {Q : Value → Shared → Prop} (hu : A.units + 1 < cLine) (I : Inv X pins σ H s) (g : DGet H a y (some v)) (ry : RelV y u) (h : ∀ w' s', Inv X pins σ H s' → RelV v w' → Q w' s') :
    wpAny (model X.prog X.w) A (getItem (.ref a) u) Q E s := by
  rcases g with ⟨kvs, k, e, ey, l⟩ | ⟨kvs, k, b, e, ey, eb, l⟩
  · subst ey
    obtain ⟨z, hd, vs, rel, dd⟩ := dk_rd I.hok e
    obtain ⟨w', hw, rw'⟩ := RelO.some_of (v := v) (o := valueAt vs k) (by rw [l]; exact rel.val k)
    exact wpAny_getItem_of (kV_is ry) dd.mapOf hw (h w' _ (I.tok _) rw')
  · subst ey
    cases (show u = Value.ref b from ry)
    obtain ⟨z, hd, xs, rel, dd⟩ := dt_rd I.hok e
    obtain ⟨w', hw, rw'⟩ := RelO.some_of (v := v) (o := (atKey xs k).map (·.2)) (by rw [l]; exact rel.val k)
    obtain ⟨p, hp, hp2⟩ := Option.map_eq_some_iff.mp hw
    refine wpAny_getItem_heap (tupleKind_room_in1 hu) (key_of I.hok eb) dd hp ?_
    rw [hp2]
    exact h w' _ (I.tok _) rw'
theorem d_in {Q : Value → Shared → Prop} (hu : A.units + 1 < cLine) (I : Inv X pins σ H s) (g : DGet H a y o) (ry : RelV y u) (h : ∀ s', Inv X pins σ H s' → Q (.bool o.isSome) s') :
    wpAny (model X.prog X.w) A (compareOp .In u (.ref a)) Q E s := by
  rcases g with ⟨kvs, k, e, ey, l⟩ | ⟨kvs, k, b, e, ey, eb, l⟩
  · subst ey
    obtain ⟨z, hd, vs, rel, dd⟩ := dk_rd I.hok e
    refine wpAny_in_of (kV_is ry) hd dd.mapOf ?_
    rw [← (rel.val k).isSome_eq, ← l]
    exact h _ (I.tok _)
  · subst ey
    cases (show u = Value.ref b from ry)
    obtain ⟨z, hd, xs, rel, dd⟩ := dt_rd I.hok e
    refine wpAny_in_heap (tupleKind_room_in1 hu) (key_of I.hok eb) hd dd ?_
    have q := (rel.val k).isSome_eq
    rw [Option.isSome_map] at q
    rw [← q, ← l]
    exact h _ (I.tok _)
theorem d_write {h' : Heap} {t' : Nat} {ob : HO} (I : Inv X pins σ H s) (mu : Mut (H a)) (hs : Heap.SameBut a s.heap h') (he : ∃ q, h'.get? a = some q) (new : ObjOk X.prog X.w (upd H a ob) h' a ob) :
    Inv X pins σ (upd H a ob) { s with heap := h', toks := t' } :=
  I.write (x := a) (e := a) mu (.inl rfl) (fun b q hb z => (hs.2 b hb).trans z) he new
theorem dk_new {P : Program} {w : World} {H' : Hp} {h' : Heap} {kvs : List (Key × V)} {vs : List (Key × Value)} (z : kvs.length ≤ sizeLine) (hd : (a == sysModules) = false) (rel : KV kvs vs) (dd : h'.DictOf (mixKind P w) a vs) :
    ObjOk P w H' h' a (.dK kvs) := ⟨z, hd, vs, rel, dd⟩
theorem d_setItem {H' : Hp} {Q : Unit → Shared → Prop} (hu : A.units + 1 < cLine) (I : Inv X pins σ H s) (g : DPut H a y v H') (ry : RelV y u) (rv : RelV v r) (h : ∀ s', Inv X pins σ H' s' → Q () s') :
    wpAny (model X.prog X.w) A (setItem (.ref a) u r) Q E s := by
  rcases g with ⟨kvs, k, e, ey, l, eH⟩ | ⟨kvs, k, b, e, ey, eb, l, eH⟩
  · subst ey eH
    obtain ⟨z, hd, vs, rel, dd⟩ := dk_of I.hok e
    have hz : vs.length ≤ sizeLine := by rw [← rel.length]; exact z
    have hl : (putK kvs k v).length ≤ sizeLine := by have := length_putK kvs k v; omega
    refine wpAny_setItem_pairs (hsz := hz) (kV_is ry) dd fun h' dd' hs => h _ ?_
    have he : ∃ q, h'.get? a = some q := let ⟨q, _, _, hq, _⟩ := dd'; ⟨q, hq⟩
    exact d_write I (by rw [e]; exact True.intro) hs he (dk_new hl hd (rel.put k rv) dd')
  · subst ey eH
    cases (show u = Value.ref b from ry)
    obtain ⟨z, hd, xs, rel, dd⟩ := dt_of I.hok e
    have hz : xs.length ≤ sizeLine := by rw [← Paired.length rel]; exact z
    have hl : (putK kvs k v).length ≤ sizeLine := by have := length_putK kvs k v; omega
    refine wpAny_setItem_heap (hsz := hz) (tupleKind_room_in1 hu) (key_of I.hok eb) dd fun h' dd' hs => h _ ?_
    obtain ⟨q, es, ep, hq, h2, h3, h4, _, h5⟩ := dd'
    refine d_write I (by rw [e]; exact True.intro) hs ⟨q, hq⟩ ⟨hl, hd, _, (rel.put k eb rv).keeps fun c ys ec => ?_, q, es, ep, hq, h2, h3, h4, h5⟩
    rw [upd_ne (ne_of ec e (fun z => nomatch z))]
    exact ec
end
section
variable {X : Cx} {pins : List (Addr × Obj)} {σ : St} {H : Hp} {s : Shared} {a : Addr} {kvs : List (Key × V)} {k : Key} {u : Value} {A : Around} {E : Value → Shared → Prop}
end
def NoSl (i : Expr) : Prop := ∀ ov iv, subscripted i false ov iv = operate [ov, iv] (getItem ov iv)
theorem subD_of {prog : Program} {w : World} {A : Around} {E : Value → Shared → Prop} {s : Shared} {env : Env} {value slice : Expr} {pos : Pos} {T id : String} {Q : Value → Shared → Prop}
    (hl : typeLookup (.type T) "__getitem__" = pure (some (.builtin id))) (hs : NoSl slice)
    (h : wpAny (model prog w) A (eval value env) (fun o s₁ => wpAny (model prog w) A (eval slice env) (fun i s₂ => s₂.TypeIs o T ∧ wpAny (model prog w) A (getItem o i) Q E s₂) E s₁) E s) :
    wpAny (model prog w) A (eval (.Subscript value slice pos) env) Q E s := by
  refine Subscript_ (wpAny_mono h (fun o s₁ h₁ => wpAny_mono h₁ (fun i s₂ h₂ => ?_) fun _ _ x => x) fun _ _ x => x)
  obtain ⟨hT, h₂⟩ := h₂
  unfold subscriptTail
  refine wpAny_bind ?_
  rw [getitemInPython_of_ne hT.not_modules]
  refine wpAny_bind (wpAny_specialOf hT hl ?_)
  have fin : wpAny (model prog w) A (subscripted slice false o i) (fun r s₃ => wpAny (model prog w) A (letTemporaryGo value o r >>= fun _ => pure r) Q E s₃) E s₂ := by
    rw [hs o i]
    exact wpAny_operating (wpAny_mono h₂ (fun r s₃ h₃ => wpAny_bind (wpAny_letTemporaryGo (wpAny_pure h₃))) fun _ _ x => x)
  first
    | exact wpAny_pure (wpAny_bind fin)
    | exact wpAny_bind (wpAny_pure (wpAny_bind fin))
    | exact wpAny_bind fin
theorem dict_typeIs {X : Cx} {pins : List (Addr × Obj)} {σ : St} {H : Hp} {s : Shared} {a : Addr} {y : V} {o : Option V} (I : Inv X pins σ H s) (g : DGet H a y o) : s.TypeIs (.ref a) "dict" := by
  rcases g with ⟨kvs, k, e, _, _⟩ | ⟨kvs, k, b, e, _, _, _⟩
  · obtain ⟨_, _, vs, _, dd⟩ := dk_rd I.hok e
    exact dd.typeIs
  · obtain ⟨_, _, xs, _, dd⟩ := dt_rd I.hok e
    exact dd.typeIs
def tDGet (td ty : TE) : TE := fun σ H Q => td σ H fun x H1 => ty σ H1 fun y H2 => ∃ a v, x = .ref a ∧ DGet H2 a y (some v) ∧ Q v H2
def tDIn (ty td : TE) : TE := fun σ H Q => ty σ H fun y H1 => td σ H1 fun x H2 => ∃ a o, x = .ref a ∧ DGet H2 a y o ∧ Q (.bl o.isSome) H2
def sDPut (td ty tv : TE) : TS := fun D σ H => tv σ H fun v H1 => td σ H1 fun x H2 => ty σ H2 fun y H3 => ∃ a H4, x = .ref a ∧ DPut H3 a y v H4 ∧ D.nx σ H4
section
variable {X : Cx} {o i e value : Expr} {pos pos' tpos : Pos} {td ty tv : TE}
theorem pe_dget (hu : X.A.units + 1 < cLine) (ho : PE X o td) (hi : PE X i ty) (hs : NoSl i) : PE X (.Subscript o i pos) (tDGet td ty) := by
  intro pins s σ H Q I h
  refine subD_of PySem.F.slot_dict_getitem.lookup hs (thn (ho pins s σ H _ I h) fun u s1 ⟨x, H1, I1, rx, q1⟩ => thn (hi pins s1 σ H1 _ I1 q1) fun iv s2 ⟨y, H2, I2, ry, a, v, ex, g, q2⟩ => ?_)
  subst ex
  obtain rfl : u = Value.ref a := rx
  exact ⟨dict_typeIs I2 g, d_getItem hu I2 g ry fun w' s3 I3 rw' => ⟨v, H2, I3, rw', q2⟩⟩
theorem pc_din (hu : X.A.units + 1 < cLine) (hi : PE X i ty) (ho : PE X o td) : PC X .In i o (tDIn ty td) := by
  intro pins s σ H Q I h
  refine thn (hi pins s σ H _ I h) fun iv s1 ⟨y, H1, I1, ry, q1⟩ => thn (ho pins s1 σ H1 _ I1 q1) fun u s2 ⟨x, H2, I2, rx, a, ov, ex, g, q2⟩ => ?_
  subst ex
  obtain rfl : u = Value.ref a := rx
  exact d_in hu I2 g ry fun s3 I3 => ⟨.bl ov.isSome, H2, I3, rfl, q2⟩
theorem ps_dput (hu : X.A.units + 1 < cLine) (ho : PE X o td) (hi : PE X i ty) (hv : PE X value tv) (hs : swapsWith value (some (.Subscript o i pos')) pos.line X.env = pure false) :
    PS X (.Assign [.Subscript o i pos'] value pos) (sDPut td ty tv) := by
  intro pins s σ H D I h
  refine wpAny_Assign_Subscript (thn (hv pins s σ H _ I h) fun r s1 ⟨v, H1, I1, rv, q1⟩ => thn (ho pins s1 σ H1 _ I1 q1) fun u s2 ⟨x, H2, I2, rx, q2⟩ => thn (hi pins s2 σ H2 _ I2 q2) fun iv s3 ⟨y, H3, I3, ry, a, H4, ex, g, q3⟩ => ?_) hs
  subst ex
  obtain rfl : u = Value.ref a := rx
  exact d_setItem hu I3 g ry rv fun s4 I4 => ⟨σ, H4, I4, q3⟩
end
theorem dk_empty {P : Program} {w : World} {H : Hp} (h : Heap) (hb : sysModules < h.objs.size) : ObjOk P w H (h.push { cls := .type "dict", data := .dict #[] }) h.objs.size (.dK []) :=
  ⟨Nat.zero_le _, beq_eq_false_iff_ne.mpr (Ne.symm (Nat.ne_of_lt hb)), [], .nil, Heap.DictOf.new h⟩
section
variable {X : Cx} {pos : Pos}
end
def tPairs : List (TE × TE) → St → Hp → (List (V × V) → Hp → Prop) → Prop
  | [], _, H, Q => Q [] H
  | (tk, tv) :: r, σ, H, Q => tk σ H fun x H1 => tv σ H1 fun y H2 => tPairs r σ H2 fun ps H3 => Q ((x, y) :: ps) H3
abbrev VV : List (V × V) → List (Value × Value) → Prop := Paired fun p q => RelV p.1 q.1 ∧ RelV p.2 q.2
def PPs (X : Cx) (pos : Pos) (keys : List (Option Expr)) (values : List Expr) (trs : List (TE × TE)) : Prop :=
  ∀ (pins : List (Addr × Obj)) (s : Shared) (σ : St) (H : Hp) (Q : List (V × V) → Hp → Prop), Inv X pins σ H s → tPairs trs σ H Q →
    wpAny (model X.prog X.w) X.A (evalPairs (pairTrees keys values X.env pos)) (fun vs s' => ∃ ps H', Inv X pins σ H' s' ∧ VV ps vs ∧ Q ps H') X.xe s
theorem pps_nil {X : Cx} {pos : Pos} : PPs X pos [] [] [] := fun pins s σ H Q I h => pairTrees_nil_walk ⟨[], H, I, .nil, h⟩
theorem pps_cons {X : Cx} {pos : Pos} {k v : Expr} {ks : List (Option Expr)} {vs : List Expr} {tk tv : TE} {trs : List (TE × TE)} (hk : PE X k tk) (hv : PE X v tv) (hr : PPs X pos ks vs trs) :
    PPs X pos (some k :: ks) (v :: vs) ((tk, tv) :: trs) := fun pins s σ H Q I h =>
  pairTrees_cons_walk (thn (hk pins s σ H _ I h) fun u s1 ⟨x, H1, I1, rx, q1⟩ => thn (hv pins s1 σ H1 _ I1 q1) fun w2 s2 ⟨y, H2, I2, ry, q2⟩ =>
    thn (hr pins s2 σ H2 _ I2 q2) fun ws s3 ⟨ps, H3, I3, rel, q3⟩ => ⟨(x, y) :: ps, H3, I3, .cons ⟨rx, ry⟩ rel, q3⟩)
def mergeK (kvs more : List (Key × V)) : List (Key × V) := more.foldl (fun acc kv => putK acc kv.1 kv.2) kvs
theorem KV.merge : ∀ {more : List (Key × V)} {rs : List (Key × Value)} {kvs : List (Key × V)} {vs : List (Key × Value)}, KV more rs → KV kvs vs → KV (mergeK kvs more) (merged vs rs) := by
  intro more rs kvs vs r
  unfold KV at r
  induction r generalizing kvs vs with
  | nil => intro q; exact q
  | @cons p q ps qs h t ih =>
    intro r0
    have e : KV (putK kvs p.1 p.2) (stored vs q.1 q.2) := by
      have := r0.put p.1 h.2
      rw [← h.1]; exact this
    exact ih e
theorem length_mergeK : ∀ (more kvs : List (Key × V)), (mergeK kvs more).length ≤ kvs.length + more.length
  | [], kvs => by show kvs.length ≤ kvs.length + 0; omega
  | p :: r, kvs => by
    have h1 := length_mergeK r (putK kvs p.1 p.2)
    have h2 := length_putK kvs p.1 p.2
    show (mergeK (putK kvs p.1 p.2) r).length ≤ _
    rw [List.length_cons]; omega
theorem carries_of {P : Program} {w : World} : ∀ {kvs : List (Key × V)} {ws : List (Value × Value)}, VV (kvs.map fun kv => (kV kv.1, kv.2)) ws → ∃ rs, Carries (mixKind P w) ws rs ∧ KV kvs rs
  | [], _, r => by rw [List.map_nil] at r; cases r; exact ⟨[], True.intro, .nil⟩
  | p :: kvs, _, r => by
    rw [List.map_cons] at r
    cases r with
    | @cons a b as bs h t =>
      obtain ⟨rs, c, q⟩ := carries_of (P := P) (w := w) t
      obtain ⟨b1, b2⟩ := b
      exact ⟨(p.1, b2) :: rs, ⟨kV_is h.1, rfl, c⟩, .cons ⟨rfl, h.2⟩ q⟩
def tDisp (trs : List (TE × TE)) : TE := fun σ H Q => ∀ p, H p = none → tPairs trs σ (upd H p (.dK [])) fun ps H2 => H2 p = some (.dK []) ∧ ∃ kvs : List (Key × V), ps = kvs.map (fun kv => (kV kv.1, kv.2)) ∧ kvs.length ≤ 15 ∧ Q (.ref p) (upd H2 p (.dK (mergeK [] kvs)))
theorem pe_disp {X : Cx} {pos : Pos} {keys : List (Option Expr)} {values : List Expr} {trs : List (TE × TE)} (h : PPs X pos keys values trs) (hall : keys.all (·.isSome) = true) (hl : keys.length = values.length) (h0 : keys ≠ [])
    (h15 : keys.length ≤ 15) : PE X (.Dict keys values pos) (tDisp trs) := by
  intro pins s σ H Q I q
  have hn := I.hok.fresh (Nat.le_refl s.heap.objs.size)
  have I1 := I.laid (a := s.heap.objs.size) (o := .dK []) (h' := s.heap.push { cls := .type "dict", data := .dict #[] }) (t' := s.toks) (fun _ _ q => Heap.get?_push_of_some _ q) (Nat.le_refl _) (dk_empty s.heap I.big)
  refine wpAny_Dict_walk (knd := mixKind X.prog X.w) hall hl h0 h15 (thn (h pins _ σ _ _ I1 (q _ hn)) fun ws s2 ⟨ps, H2, I2, rel, e, kvs, ep, lk, q2⟩ => ?_)
  subst ep
  obtain ⟨rs, c, rk⟩ := carries_of (P := X.prog) (w := X.w) rel
  obtain ⟨z, hd, vs0, r0, dd⟩ := dk_of I2.hok e
  cases r0
  refine ⟨rs, c, dd, fun h' dd' hs => ⟨.ref s.heap.objs.size, _, ?_, rfl, q2⟩⟩
  have hz : (mergeK [] kvs).length ≤ sizeLine := by
    have h1 := length_mergeK kvs []
    rw [List.length_nil] at h1
    rw [sizeLine_eq]; omega
  have he : ∃ q, h'.get? s.heap.objs.size = some q := let ⟨q, _, _, hq, _⟩ := dd'; ⟨q, hq⟩
  exact d_write I2 (by rw [e]; exact True.intro) hs he (dk_new hz hd (rk.merge .nil) dd')
section
variable {X : Cx} {pins : List (Addr × Obj)} {σ : St} {H : Hp} {s : Shared} {a : Addr} {y d : V} {u r : Value} {o : Option V} {A : Around} {E : Value → Shared → Prop}
end
section
variable {X : Cx} {o e f : Expr} {apos cpos : Pos} {td ty tx : TE}
end
section
variable {X : Cx} {pins : List (Addr × Obj)} {σ : St} {H : Hp} {s : Shared} {a : Addr} {kvs : List (Key × V)} {A : Around} {E : Value → Shared → Prop}
end
section
variable {X : Cx} {pins : List (Addr × Obj)} {σ : St} {H : Hp} {s : Shared} {a : Addr} {y : V} {u : Value} {A : Around} {E : Value → Shared → Prop}
end
end L2
set_option Elab.async false
set_option linter.all false
set_option maxRecDepth 100000
namespace L2
open PySem PySem.Spec PyProof.Rows
section
variable {X : Cx} {e o value : Expr} {f : Str} {ta tv : TE} {pos pos' : Pos}
def gFld (K : PySem.W.Frag) (f : Str) : V → Hp → VK → Prop
  | .ref p, H, Q => ∃ C dx fs v, H p = some (.ins C dx fs) ∧ Cls K C ∧ NoAttr K C f ∧ fs.lookup f = some v ∧ Q v H
  | _, _, _ => False
def tFldG (K : PySem.W.Frag) (ta : TE) (f : Str) : TE := fun σ H Q => ta σ H fun x H1 => gFld K f x H1 Q
theorem pe_fldK (K : PySem.W.Frag) (he : PE X e ta) (hK : X.K = K := by rfl) (hb : attributeBase e f X.env (eval e X.env) = eval e X.env := by rfl) : PE X (.Attribute e f pos) (tFldG K ta f) := by
  subst hK
  intro pins s σ H Q I h
  refine attr_of hb (thn (he pins s σ H _ I h) fun u s1 ⟨x, H1, I1, rx, q⟩ => ?_)
  dsimp only at q
  unfold gFld at q
  split at q
  · rename_i a
    obtain ⟨C, dx, fs, v, ea, c, n, l, q⟩ := q
    obtain rfl : u = Value.ref a := rx
    exact getattr_ok I1 ea c n l fun u' s2 I2 ru => ⟨v, H1, I2, ru, q⟩
  · exact q.elim
def gPutF (K : PySem.W.Frag) (f : Str) (y : V) : V → Hp → (Hp → Prop) → Prop
  | .ref p, H, Q => ∃ C dx fs, H p = some (.ins C dx fs) ∧ Cls K C ∧ NoAttr K C f ∧ fs.length < 1000 ∧ Q (upd H p (.ins C dx (putF f y fs)))
  | _, _, _ => False
def sFldG (K : PySem.W.Frag) (ta tv : TE) (f : Str) : TS := fun D σ H => tv σ H fun y H1 => ta σ H1 fun x H2 => gPutF K f y x H2 fun H3 => D.nx σ H3
theorem ps_fldK (K : PySem.W.Frag) (ha : PE X o ta) (hv : PE X value tv) (hK : X.K = K := by rfl) (hs : swapsWith value (some (.Attribute o f pos')) pos.line X.env = pure false := by rfl) : PS X (.Assign [.Attribute o f pos'] value pos) (sFldG K ta tv f) := by
  subst hK
  intro pins s σ H D I h
  refine plainObj_wpAny_Assign_Attribute (thn (hv pins s σ H _ I h) fun u s1 ⟨y, H1, I1, ry, q⟩ => thn (ha pins s1 σ H1 _ I1 q) fun ov s2 ⟨x, H2, I2, rx, q2⟩ => ?_) hs
  dsimp only at q2
  unfold gPutF at q2
  split at q2
  · rename_i a
    obtain ⟨C, dx, fs, ea, c, n, l, q2⟩ := q2
    obtain rfl : ov = Value.ref a := rx
    exact setattr_ok I2 ea c n l ry fun s3 I3 => ⟨σ, _, I3, q2⟩
  · exact q2.elim
end
section
variable {X : Cx} {CX : CXT} {k : Nat} {f C : Addr} {fd : FuncData} {ps : List Str} {sp : Sp} {dvs : List V} {ds : List Value} {E : XKs} {x m : Str} {p pos apos : Pos} {e o : Expr} {es : List Expr} {ta : TE} {t : TA}
def gMeth (C : Addr) (m : Str) : V → Hp → (V → Prop) → Prop
  | .ref p, H, Q => ∃ dx fs, H p = some (.ins C dx fs) ∧ fs.lookup m = none ∧ Q (.ref p)
  | _, _, _ => False
def tMethX (C : Addr) (m : Str) (sp : Sp) (dvs : List V) (E : XKs) (ta : TE) (t : TA) : TE := fun σ H Q => ta σ H fun x0 H1 => gMeth C m x0 H1 (fun x => t σ H1 fun vs H2 => sp (x :: (vs ++ dvs)) H2 Q (E σ))
theorem pe_methX {pl : Sem Bool} (he : PE X o ta) (c : Cls X.K C) (hm : Meth X.K C m f) (F : FnOk X.prog X.w X.K X.mg X.base CX k f fd ps sp) (hr : Room k X.A) (hb : Binds X.K fd ps ds) (hd : Vals dvs ds) (hx : Passes' CX X E) (ha : PA X (e :: es) t)
    (hst : starEach (e :: es) X.env = (false, eval e X.env) :: starEach es X.env := by rfl) (hpl : (backTo pos (starEach es X.env)).any (·.1) = false := by rfl)
    (ht : eval (.Call (.Attribute o m apos) (e :: es) [] pos) X.env = (do
      let ov ← eval o X.env
      standAt apos.atName
      let (f, first) ← holding [ov] (getMethod ov m pl)
      callWith pos f first (backTo pos (starEach (e :: es) X.env)) (backToKw pos (keywordEach [] X.env))) := by rfl) :
    PE X (.Call (.Attribute o m apos) (e :: es) [] pos) (tMethX C m sp dvs E ta t) := by
  intro pins s σ H Q I h
  refine PySem.W.methodCall_KW (pl := pl) (thn (he pins s σ H _ I h) fun u s1 ⟨xo, H1, I1, rx, q⟩ => ?_) ht
  dsimp only at q
  unfold gMeth at q
  split at q
  · rename_i a
    obtain ⟨dx, fs, ea, l, q⟩ := q
    obtain rfl : u = Value.ref a := rx
    refine getmeth_ok I1 ea c hm l ?_
    refine PySem.W.callWith_K (first := [.ref a]) (h₀ := X.base) I.ok.mod.kin hm.kp (thn (ha pos pins s1 σ _ _ I1 q) fun us s2 ⟨vs, H2, I2, r, q2⟩ => ⟨I2.kIn, ?_⟩) hst hpl
    exact run_fnX (us := .ref a :: us) (vs := .ref a :: vs) F hr hb hd hx I2 (.cons rfl r) q2
  · exact q.elim
theorem pe_methX0 {pl : Sem Bool} (he : PE X o ta) (c : Cls X.K C) (hm : Meth X.K C m f) (F : FnOk X.prog X.w X.K X.mg X.base CX k f fd ps sp) (hr : Room k X.A) (hb : Binds X.K fd ps ds) (hd : Vals dvs ds) (hx : Passes' CX X E)
    (ht : eval (.Call (.Attribute o m apos) [] [] pos) X.env = (do
      let ov ← eval o X.env
      standAt apos.atName
      let (f, first) ← holding [ov] (getMethod ov m pl)
      callWith pos f first (backTo pos (starEach [] X.env)) (backToKw pos (keywordEach [] X.env))) := by rfl) :
    PE X (.Call (.Attribute o m apos) [] [] pos) (tMethX C m sp dvs E ta tNil) := by
  intro pins s σ H Q I h
  refine PySem.W.methodCall_KW (pl := pl) (thn (he pins s σ H _ I h) fun u s1 ⟨xo, H1, I1, rx, q⟩ => ?_) ht
  dsimp only at q
  unfold gMeth at q
  split at q
  · rename_i a
    obtain ⟨dx, fs, ea, l, q⟩ := q
    obtain rfl : u = Value.ref a := rx
    refine getmeth_ok I1 ea c hm l ?_
    exact PySem.W.callWith_K0 (first := [.ref a]) I1.kIn hm.kp (run_fnX (us := [.ref a]) (vs := [.ref a]) F hr hb hd hx I1 (.cons rfl .nil) q)
  · exact q.elim
def tMakeX (C : Addr) (sp : Sp) (dvs : List V) (E : XKs) (t : TA) : TE := fun σ H Q => t σ H fun vs H1 => ∀ x dx, H1 x = none → H1 dx = none → dx ≠ x →
  sp (.ref x :: (vs ++ dvs)) (upd (upd H1 dx (.own x)) x (.ins C dx [])) (fun v H2 => v = .non ∧ Q (.ref x) H2) (E σ)
theorem run_makeX {pins : List (Addr × Obj)} {σ : St} {H : Hp} {s : Shared} {Q : VK} {us : List Value} {vs : List V} (M : Mk X.K C f) (F : FnOk X.prog X.w X.K X.mg X.base CX k f fd ps sp) (hr : Room (k + 1) X.A) (hb : Binds X.K fd ps ds) (hd : Vals dvs ds)
    (hx : Passes' CX X E) (I : Inv X pins σ H s) (r : Vals vs us)
    (h : ∀ x dx, H x = none → H dx = none → dx ≠ x → sp (.ref x :: (vs ++ dvs)) (upd (upd H dx (.own x)) x (.ins C dx [])) (fun v H2 => v = .non ∧ Q (.ref x) H2) (E σ)) :
    wpAny (model X.prog X.w) X.A (call (.ref C) us) (EP X pins σ Q) X.xe s := by
  have hq := h (s.heap.objs.size + 1) s.heap.objs.size (I.hok.fresh (Nat.le_succ _)) (I.hok.fresh (Nat.le_refl _)) (Nat.ne_of_lt (Nat.lt_succ_self _))
  have I2 := Inv.made (C := C) I
  have r2 : Vals (V.ref (s.heap.objs.size + 1) :: (vs ++ dvs)) (Value.ref (s.heap.objs.size + 1) :: (us ++ ds)) := .cons rfl (r.append hd)
  have hl : (Value.ref (s.heap.objs.size + 1) :: us ++ ds).length = ps.length := by
    have e := r2.length
    rw [F.len _ _ _ _ hq] at e
    exact e.symm
  refine wpAny_call (make_map (f := f) I.kIn M.makes M.init (beq_iff_eq.mp M.fn) (codeAny_mono (F.run _ X.stack _ _ ⟨Value.ref (s.heap.objs.size + 1) :: us, []⟩ (Value.ref (s.heap.objs.size + 1) :: (us ++ ds)) _ _ (E σ) (hr.make C us [])
    (I2.env0.make C us []) (hb _ (Value.ref (s.heap.objs.size + 1) :: us) I2.kIn hl) r2 hq) fun r s' hq' => ?_))
  cases r with
  | error e => exact hx pins σ _ _ e s' I2 hq'
  | ok fl =>
    cases fl with
    | ret u =>
      obtain ⟨v, H', I3, rv, ev, q3⟩ := I2.after hq'
      subst ev
      exact ⟨rv, ⟨V.ref (s.heap.objs.size + 1), H', I3, rfl, q3⟩⟩
    | next => exact False.elim hq'
    | brk => exact False.elim hq'
    | cont => exact False.elim hq'
theorem pe_makeX (M : Mk X.K C f) (F : FnOk X.prog X.w X.K X.mg X.base CX k f fd ps sp) (hr : Room (k + 1) X.A) (hg : Gl X x) (hm : X.mg x = some (.ref C)) (hb : Binds X.K fd ps ds) (hd : Vals dvs ds) (hx : Passes' CX X E)
    (ha : PA X (e :: es) t) (hdb : (x == ("__debug__" : Str)) = false := by decide) (he : starEach (e :: es) X.env = (false, eval e X.env) :: starEach es X.env := by rfl) (hpl : (backTo pos (starEach es X.env)).any (·.1) = false := by rfl) :
    PE X (.Call (.Name x p) (e :: es) [] pos) (tMakeX C sp dvs E t) := by
  intro pins s σ H Q I h
  refine wpAny_Call_Name_kw (ld_glob I hg hm ?_ hdb)
  refine PySem.W.callWith_K (h₀ := X.base) I.ok.mod.kin M.kp (thn (ha pos pins s σ H _ I h) fun us s1 ⟨vs, H1, I1, r, q⟩ => ⟨I1.kIn, ?_⟩) he hpl
  exact run_makeX M F hr hb hd hx I1 r q
theorem pe_makeX0 (M : Mk X.K C f) (F : FnOk X.prog X.w X.K X.mg X.base CX k f fd ps sp) (hr : Room (k + 1) X.A) (hg : Gl X x) (hm : X.mg x = some (.ref C)) (hb : Binds X.K fd ps ds) (hd : Vals dvs ds) (hx : Passes' CX X E)
    (hdb : (x == ("__debug__" : Str)) = false := by decide) : PE X (.Call (.Name x p) [] [] pos) (tMakeX C sp dvs E tNil) := by
  intro pins s σ H Q I h
  refine wpAny_Call_Name_kw (ld_glob I hg hm ?_ hdb)
  exact PySem.W.callWith_K0 I.kIn M.kp (run_makeX (us := []) M F hr hb hd hx I .nil h)
end
end L2
set_option Elab.async false
set_option linter.all false
set_option maxRecDepth 100000
namespace L2
open PySem PySem.Spec PyProof.Rows
end L2
set_option Elab.async false
set_option linter.all false
set_option maxRecDepth 100000
namespace L2
open PySem PySem.Spec PyProof.Rows Builtin Builtin.Str
section
variable {prog : Program} {w : World} {A : Around} {E : Value → Shared → Prop} {s : Shared} {t : Addr}
end
section
variable {X : Cx} {e a b c : Expr} {pos : Pos}
def gSum (K : PySem.W.Frag) : List V → Hp → VK → Prop
  | [.ref p], H, Q => ∃ ns : List Int, (SqL K H p (ns.map V.int) ∨ SqT K H p (ns.map V.int)) ∧ Q (.int ns.sum) H
  | _, _, _ => False
def gInL (K : PySem.W.Frag) (neg : Bool) : R2
  | x, .ref p, H, Q => ∃ xs, (SqL K H p xs ∨ SqT K H p xs) ∧ flatV x = true ∧ xs.all flatV = true ∧ Q (.bl (neg ^^ inV x xs)) H
  | _, _, _, _ => False
theorem fo_notinL (K : PySem.W.Frag) (hK : X.K = K := by rfl) : OpR X (compareOp .NotIn) (gInL K true) := by
  subst hK
  refine op_notIn_seq.imp fun x y H Q h => ?_
  unfold gInL at h
  split at h
  · obtain ⟨xs, h1, h2, h3, q⟩ := h
    exact ⟨_, xs, rfl, h1, h2, h3, by simpa using q⟩
  · exact h.elim
section
variable {T name id : String} {r : V → List V → Hp → VK → Prop} {o : Expr} {to : TE} {apos cpos : Pos}
end
end
end L2
namespace L2
end L2
namespace L2
def sp5 (f : V → V → V → V → V → Hp → VK → XK → Prop) : Sp := fun vs H Q E => match vs with
  | [x, y, z, u, v] => f x y z u v H Q E
  | _ => False
theorem sp5.inv {vs : List V} {H : Hp} {Q : VK} {E : XK} {f} (h : sp5 f vs H Q E) : ∃ x y z u v, vs = [x, y, z, u, v] ∧ f x y z u v H Q E := by
  unfold sp5 at h; split at h
  · exact ⟨_, _, _, _, _, rfl, h⟩
  · exact h.elim
theorem sp5.len {vs : List V} {H : Hp} {Q : VK} {E : XK} {f} (h : sp5 f vs H Q E) : vs.length = 5 := by obtain ⟨_, _, _, _, _, rfl, _⟩ := sp5.inv h; rfl
theorem lk_hit {n : PySem.Str} {v : V} {l : List (PySem.Str × V)} : List.lookup n ((n, v) :: l) = some v := by simp [List.lookup]
theorem lk_miss {n m : PySem.Str} {v : V} {l : List (PySem.Str × V)} (h : (n == m) = false) : List.lookup n ((m, v) :: l) = List.lookup n l := by simp [List.lookup, h]
end L2
set_option Elab.async false
set_option linter.all false
set_option maxRecDepth 100000
set_option maxHeartbeats 1000000
namespace L2
open PySem PySem.Spec PyProof.Rows
structure RoomC (k : Nat) (A : Around) : Prop where
  dp : A.depth + 3 * k + 5 < recursionLimit
  un : A.units + 16 * k + 200 < cLine
theorem RoomC.mono {j k : Nat} {A : Around} (r : RoomC k A) (h : j ≤ k) : RoomC j A := ⟨by have := r.dp; omega, by have := r.un; omega⟩
theorem RoomC.deeper {k : Nat} {A : Around} (r : RoomC (k + 1) A) (env : Env) : RoomC k (A.deeper env) :=
  ⟨by have := r.dp; show A.depth + 1 + 3 * k + 5 < _; omega, by have := r.un; show A.units + 3 + 16 * k + 200 < _; omega⟩
section
variable {X : Cx} {CX : CXT} {k : Nat} {f : Addr} {fd : FuncData} {ps : List Str} {sp : Sp} {dvs : List V} {ds : List Value} {E : XKs} {x : Str} {p pos : Pos} {e : Expr} {es : List Expr} {t : TA}
end
end L2
set_option Elab.async false
set_option linter.all false
set_option maxRecDepth 100000
set_option maxHeartbeats 1000000
namespace L2
open PySem PySem.Spec PyProof.Rows
def Itr3 (lo d : Int) (n : Nat) : It := ⟨fun i _ => i < n, fun i H x H' => H' = H ∧ x = .int (lo + i * d), fun i _ => n ≤ i⟩
theorem turn_range3 {P : Program} {w : World} {K : PySem.W.Frag} {tg : Expr} (it : Addr) (lo d : Int) (n : Nat) : Turn P w K tg (Itr3 lo d n) [it] it (fun i h => IsRangeIter h it (lo + (i : Nat) * d) ((n : Int) - (i : Nat)) d) where
  mem := by simp
  obj := fun i h st b hb => by
    have e : b = it := by simpa using hb
    subst e
    exact ⟨_, st, fun v z => by
      have z' : Data.fields _ = Data.cell v := z
      cases z'⟩
  keep := fun i h h' st k => k it (by simp) _ st
  item := by
    intro X hP hw hK hc i pins s σ H E I hf st hg
    subst hP hw hK
    obtain ⟨f0, f1, f2, f3, f4, f5⟩ := hf it (by simp)
    have W := Walks.range (prog := X.prog) (w := X.w) (I.ok.hd hc) it lo d n
    refine W.item i s _ _ hg st fun v h' tk hv st' kk => ?_
    obtain ⟨t, rfl⟩ := hv
    have I1 : Inv X pins σ H { s with heap := h', toks := tk } := I.turned (fun b o hb e => kk b o (by simpa using hb) e) f0 f1 f3 f4 f5
    exact ⟨_, rfl, go_of (s := { s with heap := h', toks := tk }) (n := "range_iterator") st' rfl rfl (by decide) ⟨.int (lo + i * d), H, I1, ⟨t, rfl⟩, ⟨rfl, rfl⟩, st', fun b hb => (hf b hb).1⟩⟩
  done := by
    intro X hP hw hK hc i pins s σ H E I hf st hg
    subst hP hw hK
    obtain ⟨f0, f1, f2, f3, f4, f5⟩ := hf it (by simp)
    exact wpAny_pyNext_range_end (I.ok.hd hc) st (by have : n ≤ i := hg; omega) fun h' eb => ⟨rfl, I.turned (t' := s.toks) (fun b o hb e => eb b o hb e) f0 f1 f3 f4 f5⟩
  self := fun _ _ _ _ _ st h => wpAny_pyIter_rangeiter st h
section
variable {X : Cx} {tg : Expr}
def rsz (i j c : Int) : Nat := if i < j then ((j - i - 1) / c + 1).toNat else 0
theorem for_range3 {lo c : Int} {n : Nat} {g : TG} {tb : TS} {D : Ends} {σ : St} {H : Hp} (Pv : Nat → St → Hp → Prop) (h0 : Pv 0 σ H)
    (hs : ∀ i σ H, i < n → Pv i σ H → g (.int (lo + i * c)) σ H fun σ2 H2 => tb { D with nx := Pv (i + 1), ct := Pv (i + 1), bk := D.nx } σ2 H2) (hd : ∀ σ H, Pv n σ H → D.nx σ H) :
    ∃ W : Nat → Nat → St → Hp → Prop, (∃ m, W 0 m σ H) ∧ ∀ i m σ H, W i m σ H →
      ((Itr3 lo c n).stop i H ∧ D.nx σ H) ∨ ((Itr3 lo c n).go i H ∧ ∃ N : St → Hp → Prop, (∀ σ' H', N σ' H' → ∃ m', m' < m ∧ W (i + 1) m' σ' H') ∧ ∀ x H', (Itr3 lo c n).yld i H x H' → g x σ H' fun σ2 H2 => tb { D with nx := N, ct := N, bk := D.nx } σ2 H2) := by
  refine ⟨fun i m σ H => m = n - i ∧ i ≤ n ∧ Pv i σ H, ⟨n, by simp, Nat.zero_le _, h0⟩, ?_⟩
  rintro i m σ H ⟨rfl, hi, p⟩
  by_cases hlt : i < n
  · refine .inr ⟨hlt, Pv (i + 1), fun σ' H' p' => ⟨n - (i + 1), by omega, rfl, hlt, p'⟩, fun x H' y => ?_⟩
    obtain ⟨e, y⟩ := y
    subst e y
    exact hs i σ _ hlt p
  · have e : i = n := by omega
    subst e
    exact .inl ⟨Nat.le_refl _, hd σ H p⟩
end
end L2
namespace L2
theorem ex1 {α : Type} {us : List α} (hl : us.length = 1) : ∃ a0, us = [a0] := by
  match us, hl with
  | [a0], _ => exact ⟨a0, rfl⟩
theorem ex2 {α : Type} {us : List α} (hl : us.length = 2) : ∃ a0 a1, us = [a0, a1] := by
  match us, hl with
  | [a0, a1], _ => exact ⟨a0, a1, rfl⟩
theorem ex3 {α : Type} {us : List α} (hl : us.length = 3) : ∃ a0 a1 a2, us = [a0, a1, a2] := by
  match us, hl with
  | [a0, a1, a2], _ => exact ⟨a0, a1, a2, rfl⟩
theorem ex4 {α : Type} {us : List α} (hl : us.length = 4) : ∃ a0 a1 a2 a3, us = [a0, a1, a2, a3] := by
  match us, hl with
  | [a0, a1, a2, a3], _ => exact ⟨a0, a1, a2, a3, rfl⟩
end L2
set_option Elab.async false
set_option linter.all false
namespace L2
open Lean Meta Simp
def rdFree : List Name := [`L2.fVar, `L2.tC, `L2.tOp, `L2.tUn, `L2.gEqN, `L2.fTest, `L2.fChain, `L2.fAnd, `L2.fOr, `L2.fNot, `L2.fPickL, `L2.fPickT, `L2.tSeq, `L2.tIfS, `L2.tRet, `L2.tRetN, `L2.tNext, `L2.tDrop, `L2.tAsg, `L2.gName, `L2.tIf, `L2.tAnd, `L2.tOr, `L2.tNot, `L2.tCons, `L2.tNil, `L2.tCB, `L2.tCallX, `L2.tTup, `L2.tLst, `L2.tIsN, `L2.tNotN, `L2.tIsB, `L2.tPart, `L2.tNoPart, `L2.tSl, `L2.cs, `L2.CDiv, `L2.CMul, `L2.CPow, `L2.tRaise, `L2.tTry, `L2.gcE, `L2.tGcT, `L2.tGc, `L2.tBM, `L2.fDnew, `L2.fJoinRev, `L2.CDivB, `L2.rAppend, `L2.gTup, `L2.gCons, `L2.gNil, `L2.gSub, `L2.rSetL, `L2.tFldG, `L2.sFldG, `L2.tMethX, `L2.tMakeX, `L2.tDGet1, `L2.tDGet2, `L2.sDPut, `L2.tBM0, `L2.rClear]
def rdCase : List Name := [`L2.gAdd, `L2.gI, `L2.gIC, `L2.gNeg, `L2.gLe, `L2.gLt, `L2.eqS, `L2.kB, `L2.gAbs, `L2.gMin, `L2.gMax, `L2.gLen, `L2.gIsi, `L2.gInt, `L2.gIx, `L2.sp0, `L2.sp1, `L2.sp2, `L2.sp3, `L2.sp4, `L2.asI, `L2.asT, `L2.asB, `L2.asR, `L2.tyV, `L2.gSt, `L2.gEn, `L2.gZf, `L2.gStr, `L2.gInt2, `L2.gIn, `L2.gSl, `L2.gIdx, `L2.gMulS, `L2.gCat, `L2.gRep, `L2.gRepT, `L2.gIsiT, `L2.gList, `L2.gTuple, `L2.gSpl, `L2.gStM, `L2.gFld, `L2.gPutF, `L2.gMeth, `L2.gSum, `L2.gMulT]
def rdStep (e : Lean.Expr) : MetaM (Option Lean.Expr) := do
  let .const n us := e.getAppFn | return none
  let fr := rdFree.contains n
  unless fr || rdCase.contains n do return none
  let some (.defnInfo d) := (← getEnv).find? n | return none
  let v := d.value.instantiateLevelParams d.levelParams us
  let k := v.getNumHeadLambdas
  if e.getAppNumArgs < k then return none
  let b := v.beta e.getAppArgs
  if fr then return some b
  match ← reduceMatcher? b with
  | .reduced r => return some r
  | .notMatcher => return some b
  | _ => return none
dsimproc_decl rdAll (_) := fun e => do
  match ← rdStep e with
  | some r => return .visit r
  | none => return .continue
def rdI := And.intro @L2.gc_self (And.intro @L2.cx_K (And.intro @L2.V.bl.injEq (And.intro @L2.V.str.injEq (And.intro @L2.same_self (And.intro @L2.kd_bl (And.intro @L2.kd_int (And.intro @L2.kd_str (And.intro @L2.kd_non (And.intro @L2.cl_int (And.intro @L2.is_NoneType_int (And.intro @L2.is_bool_int (And.intro @L2.is_int_int (And.intro @L2.is_str_int (And.intro @L2.is_list_int (And.intro @L2.is_tuple_int (And.intro @L2.is_dict_int (And.intro @L2.cl_bool (And.intro @L2.is_NoneType_bool (And.intro @L2.is_bool_bool (And.intro @L2.is_int_bool (And.intro @L2.is_str_bool (And.intro @L2.is_list_bool (And.intro @L2.is_tuple_bool (And.intro @L2.is_dict_bool (And.intro @L2.cl_str (And.intro @L2.is_NoneType_str (And.intro @L2.is_bool_str (And.intro @L2.is_int_str (And.intro @L2.is_str_str (And.intro @L2.is_list_str (And.intro @L2.is_tuple_str (And.intro @L2.is_dict_str (And.intro @L2.cl_list (And.intro @L2.is_NoneType_list (And.intro @L2.is_bool_list (And.intro @L2.is_int_list (And.intro @L2.is_str_list (And.intro @L2.is_list_list (And.intro @L2.is_tuple_list (And.intro @L2.is_dict_list (And.intro @L2.cl_tuple (And.intro @L2.is_NoneType_tuple (And.intro @L2.is_bool_tuple (And.intro @L2.is_int_tuple (And.intro @L2.is_str_tuple (And.intro @L2.is_list_tuple (And.intro @L2.is_tuple_tuple (And.intro @L2.is_dict_tuple (And.intro @L2.cl_dict (And.intro @L2.is_NoneType_dict (And.intro @L2.is_bool_dict (And.intro @L2.is_int_dict (And.intro @L2.is_str_dict (And.intro @L2.is_list_dict (And.intro @L2.is_tuple_dict (And.intro @L2.is_dict_dict (And.intro @L2.ak_bl (And.intro @L2.ak_int (And.intro @L2.ak_str (And.intro @L2.ak_non (And.intro @L2.isI_int (And.intro @L2.isI_bl (And.intro @L2.isI_str (And.intro @L2.isI_ref (And.intro @L2.isI_non (And.intro @L2.isS_int (And.intro @L2.isS_bl (And.intro @L2.isS_str (And.intro @L2.isS_ref (And.intro @L2.isS_non (And.intro @true_and (And.intro @and_true (And.intro @and_self (And.intro @true_or (And.intro @or_true (And.intro @decide_eq_true_eq (And.intro @Bool.true_eq_false (And.intro @Bool.false_xor (And.intro @Bool.true_xor (And.intro @Bool.not_true (And.intro @Bool.not_false (And.intro @Bool.false_eq_true (And.intro @Bool.not_eq_true' (And.intro @decide_eq_false_iff_not @Classical.not_not))))))))))))))))))))))))))))))))))))))))))))))))))))))))))))))))))))))))))))))))))))
end L2
set_option Elab.async false
set_option linter.all false
set_option maxRecDepth 100000
namespace L2
namespace Srt
open PySem PyProof.Rows
def kv (κ : Keyed → Int) (xs : Array Keyed) (i : Nat) : Int := (xs[i]?.map κ).getD 0
structure SB (kd : SortKind) (z : Array Keyed) (t : SortSt) : Prop where
  pm : (arrOf t).Perm z
  kn : kindOf t = kd
  fl : failedOf t = none
  pn : pendingOf t = #[]
theorem SB.sz {kd : SortKind} {z : Array Keyed} {t : SortSt} (b : SB kd z t) : (arrOf t).size = z.size := b.pm.size_eq
theorem SB.put {kd : SortKind} {z : Array Keyed} {t : SortSt} {xs : Array Keyed} (b : SB kd z t) (p : xs.Perm (arrOf t)) : SB kd z (setArr t xs) :=
  ⟨p.trans b.pm, b.kn, b.fl, b.pn⟩
section
variable {prog : Program} {w : World} {A : Around} {E : Value → Shared → Prop} {s : Shared} {z : Array Keyed} {κ : Keyed → Int} {kd : SortKind} {t : SortSt}
theorem SB.mem (b : SB kd z t) {i : Nat} (h : i < (arrOf t).size) : (arrOf t)[i] ∈ z.toList :=
  (Array.perm_iff_toList_perm.mp b.pm).mem_iff.mp (by simp)
end
section
variable {prog : Program} {w : World} {A : Around} {E : Value → Shared → Prop} {s : Shared}
theorem pairs_mem {vs : List Value} {p : Keyed} (h : p ∈ (vs.toArray.zip vs.toArray).toList) : p.1 ∈ vs ∧ p.2 = p.1 := by
  rw [Array.toList_zip] at h
  simp at h
  rw [List.zip_eq_zipWith, List.zipWith_self] at h
  obtain ⟨a, ha, e⟩ := List.mem_map.mp h
  subst e
  exact ⟨ha, rfl⟩
theorem pairs_fst (vs : List Value) : (vs.toArray.zip vs.toArray).toList.map (·.1) = vs := by
  rw [Array.toList_zip]
  exact List.map_fst_zip (Nat.le_refl _)
end
end Srt
end L2
set_option Elab.async false
set_option linter.all false
set_option maxRecDepth 100000
namespace L2
namespace Srt
open PySem PyProof.Rows
def Two (h : Heap) (p : Addr) (x y : Int) : Prop := ∃ (o : Obj) (t u : Tok) (n : Nat), h.get? p = some o ∧ o.cls = .type "tuple" ∧ o.data = .seq #[.int x t, .int y u] n
section
variable {prog : Program} {w : World} {A : Around} {E : Value → Shared → Prop} {s : Shared}
theorem Two.ty {h : Heap} {p : Addr} {x y : Int} (t : Two h p x y) {s : Shared} (e : s.heap = h) : s.TypeIs (.ref p) "tuple" := by
  obtain ⟨o, _, _, _, ho, hc, _⟩ := t
  subst e
  exact ⟨o, ho, hc⟩
end
end Srt
end L2
set_option Elab.async false
set_option linter.all false
set_option maxRecDepth 100000
namespace L2
namespace Srt
open PySem PyProof.Rows
section
variable {prog : Program} {w : World} {A : Around} {E : Value → Shared → Prop} {R : Result → Shared → Prop} {s : Shared} {I S ax : Addr} {items : Array Value} {h₀ : Heap} {κ : Value → Int}
def Prs (h : Heap) (κ : Value → Int) (lo : Int) (v : Value) : Prop := ∃ p x y, v = .ref p ∧ Two h p x y ∧ κ v = x * 64 + y ∧ lo ≤ y ∧ y < lo + 64
theorem Two.keep {h h' : Heap} {p : Addr} {x y : Int} (t : Two h p x y) (k : ∀ b o, h.get? b = some o → h'.get? b = some o) : Two h' p x y := by
  obtain ⟨o, t, u, n, ho, r⟩ := t
  exact ⟨o, t, u, n, k _ _ ho, r⟩
theorem Prs.keep {h h' : Heap} {lo : Int} {v : Value} (t : Prs h κ lo v) (k : ∀ b o, h.get? b = some o → h'.get? b = some o) : Prs h' κ lo v := by
  obtain ⟨p, x, y, e, t, r⟩ := t
  exact ⟨p, x, y, e, t.keep k, r⟩
end
end Srt
end L2
set_option Elab.async false
set_option linter.all false
set_option maxRecDepth 100000
namespace L2
open PySem PyProof.Rows
section
variable {X : Cx} {pins : List (Addr × Obj)} {σ : St} {H : Hp} {s : Shared}
end
end L2
set_option Elab.async false
set_option linter.all false
set_option maxRecDepth 100000
namespace L2
open PySem PyProof.Rows
section
variable {X : Cx} {pins : List (Addr × Obj)} {σ : St} {H : Hp} {s : Shared}
def strC : Value → List Nat
  | .str x _ => x.cps.toList
  | _ => []
def IsS (v : Value) : Prop := ∃ x t, v = .str x t
abbrev InO (ls : List (List Nat)) : Prop := ls.Pairwise fun a b => ¬ b < a
theorem ino_uniq : ∀ {a b : List (List Nat)}, a.Perm b → InO a → InO b → a = b
  | [], _, p, _, _ => p.nil_eq
  | x :: r, b, p, ha, hb => by
    cases b with
    | nil => exact absurd p.length_eq (by simp)
    | cons y t =>
      have hx : x ∈ y :: t := p.mem_iff.mp (.head _)
      have hy : y ∈ x :: r := p.mem_iff.mpr (.head _)
      have e : x = y := by
        rcases List.mem_cons.mp hx with h | h
        · exact h
        · rcases List.mem_cons.mp hy with h' | h'
          · exact h'.symm
          · exact List.le_antisymm (List.not_lt.mp ((List.pairwise_cons.mp ha).1 y h')) (List.not_lt.mp ((List.pairwise_cons.mp hb).1 x h))
      subst e
      rw [ino_uniq (List.Perm.cons_inv p) (List.pairwise_cons.mp ha).2 (List.pairwise_cons.mp hb).2]
theorem isS_vals : ∀ {vs : List Value}, (∀ v ∈ vs, IsS v) → Vals ((vs.map strC).map T) vs
  | [], _ => .nil
  | v :: vs, h => by
    obtain ⟨x, t, rfl⟩ := h v (List.mem_cons_self ..)
    exact .cons ⟨t, rfl⟩ (isS_vals fun u m => h u (List.mem_cons_of_mem _ m))
theorem strs_isS : ∀ {ls : List (List Nat)} {vs : List Value}, Vals (ls.map T) vs → (∀ v ∈ vs, IsS v) ∧ vs.map strC = ls
  | [], _, .nil => ⟨(fun _ m => nomatch m), rfl⟩
  | l :: ls, _, .cons e t => by
    obtain ⟨k, rfl⟩ := e
    obtain ⟨a, b⟩ := strs_isS t
    refine ⟨fun v m => ?_, by rw [List.map_cons, b]; rfl⟩
    rcases List.mem_cons.mp m with rfl | m
    · exact ⟨_, _, rfl⟩
    · exact a v m
theorem isS_strs : ∀ {vs : List Value}, (∀ v ∈ vs, IsS v) → ∃ ss, StrsAre vs ss
  | [], _ => ⟨[], .nil⟩
  | v :: vs, h => by
    obtain ⟨x, t, rfl⟩ := h v (List.mem_cons_self ..)
    obtain ⟨ss, r⟩ := isS_strs fun u m => h u (List.mem_cons_of_mem _ m)
    exact ⟨x :: ss, .cons x t r⟩
theorem srt_out {vs : List Value} (hv : ∀ v ∈ vs, IsS v) {xs : Array Keyed} (hp : xs.Perm (pairsOf vs)) (hs : SortedToK strKind xs (pairsOf vs).size) :
    (xs.map (·.2)).toList.Perm vs ∧ InO ((xs.map (·.2)).toList.map strC) := by
  have pl : xs.toList.Perm (vs.toArray.zip vs.toArray).toList := Array.perm_iff_toList_perm.mp hp
  have e2 : (xs.map (·.2)).toList = xs.toList.map (·.1) := by
    rw [Array.toList_map]
    exact List.map_congr_left fun p m => (Srt.pairs_mem (pl.mem_iff.mp m)).2
  have p1 : (xs.map (·.2)).toList.Perm vs := by
    rw [e2]
    have := pl.map (·.1)
    rwa [Srt.pairs_fst] at this
  refine ⟨p1, ?_⟩
  rw [e2, List.map_map]
  have sz : xs.size = (pairsOf vs).size := hp.size_eq
  refine List.pairwise_iff_getElem.mpr fun i j hi hj hij => ?_
  have hi' : i < xs.size := by simpa using hi
  have hj' : j < xs.size := by simpa using hj
  have l := hs i j (Nat.le_of_lt hij) (by omega)
  have kk : ∀ k (h : k < xs.size), KK strKind xs k = strC xs[k].1 := fun k h => by
    have m : xs[k] ∈ xs.toList := by simp
    obtain ⟨x, t, e⟩ := hv _ (Srt.pairs_mem (pl.mem_iff.mp m)).1
    unfold KK
    rw [Array.getElem?_eq_getElem h]
    show (strKind.keyOf xs[k].1).getD strKind.dflt = _
    rw [e]; rfl
  rw [kk i hi', kk j hj'] at l
  have l' : decide (strC xs[j].1 < strC xs[i].1) = false := l
  simp only [List.getElem_map, Array.getElem_toList, Function.comp_apply]
  exact of_decide_eq_false l'
def gSortS (K : PySem.W.Frag) : List V → Hp → VK → Prop
  | [.ref p], H, Q => ∃ ls : List (List Nat), SqL K H p (ls.map T) ∧ ls.length < 64 ∧ ∀ out : List (List Nat), out.Perm ls → InO out → ∀ l, H l = none → Q (.ref l) (upd H l (.lst (out.map T)))
  | _, _, _ => False
theorem fc_sortS (K : PySem.W.Frag) (hK : X.K = K := by rfl) : CallR X (.builtin "sorted") (gSortS K) := by
  subst hK
  intro pins s σ H xs us Q I r h
  unfold gSortS at h
  split at h
  · rename_i p
    obtain ⟨ls, hq, h64, q⟩ := h
    obtain ⟨u, rfl, rx⟩ := vals1 r
    cases (show u = Value.ref p from rx)
    obtain ⟨its, r', pl, hz⟩ := I.list hq
    obtain ⟨hv, em⟩ := strs_isS r'
    obtain ⟨ss, hS⟩ := isS_strs hv
    have len : its.length < 64 := by have := r'.length; rw [List.length_map] at this; omega
    refine sortedK strKind_oneLt pl.isList hS.keysOf (fun v₁ v₂ rest e => keyKind_strs (by rw [← e]; exact hS)) len fun st' hp hs => ?_
    obtain ⟨p1, o1⟩ := srt_out hv hp hs
    generalize hout : (arrOf st').map (·.2) = out at p1 o1
    obtain ⟨c, ea⟩ := sortedAll_at s.heap its out
    have kp : ∀ b o, s.heap.get? b = some o → (sortedAll s.heap its out).get? b = some o := fun _ _ e => sortedAll_old e
    have hv2 : ∀ v ∈ out.toList, IsS v := fun v m => hv v (p1.mem_iff.mp m)
    have pm : (out.toList.map strC).Perm ls := by have := p1.map strC; rwa [em] at this
    refine ⟨.ref (s.heap.objs.size + 1), _, I.laid (t' := s.toks) (a := s.heap.objs.size + 1) kp (Nat.le_succ _) (show ObjOk X.prog X.w _ (sortedAll s.heap its out) _ (.lst ((out.toList.map strC).map T)) from ⟨?_, out.toList, c, isS_vals hv2, by rw [Array.toArray_toList]; exact ea⟩), rfl, q _ pm o1 _ (I.hok.fresh (Nat.le_succ _))⟩
    rw [List.length_map, pm.length_eq, sizeLine_eq]; omega
  · exact h.elim
def gListD : List V → Hp → VK → Prop
  | [.ref d], H, Q => ∃ kvs : List (Key × V), H d = some (.dK kvs) ∧ ∀ l, H l = none → Q (.ref l) (upd H l (.lst (kvs.map fun e => kV e.1)))
  | _, _, _ => False
theorem keys_vals {P : Program} {w : World} : ∀ {vs : List (Key × Value)} {us : List Value}, us.length = vs.length → (∀ (j : Nat) (v : Value), us[j]? = some v → ∃ k x, vs[j]? = some (k, x) ∧ (mixKind P w).is k v = true) → Vals (vs.map fun e => kV e.1) us
  | [], [], _, _ => .nil
  | e :: vs, u :: us, hl, h => by
    obtain ⟨k, x, e1, r⟩ := h 0 u rfl
    simp at e1
    subst e1
    refine .cons ?_ (keys_vals (by simpa using hl) fun j v q => by simpa using h (j + 1) v (by simpa using q))
    cases k with
    | inl i => obtain ⟨t, z⟩ := Value.isInt_shape r; exact ⟨t, z⟩
    | inr x => obtain ⟨t, z⟩ := Value.isStrOf_shape r; exact ⟨t, z⟩
  | [], _ :: _, hl, _ => by simp at hl
  | _ :: _, [], hl, _ => by simp at hl
theorem fc_listD (hc : X.calm = true) : CallR X (.type "list") gListD := by
  intro pins s σ H xs us Q I r h
  unfold gListD at h
  split at h
  · rename_i d
    obtain ⟨kvs, hd, q⟩ := h
    obtain ⟨u, rfl, rx⟩ := vals1 r
    cases (show u = Value.ref d from rx)
    obtain ⟨z, lo, vs, kv, D⟩ := dk_of I.hok hd
    obtain ⟨ep, hat⟩ := D.dictAt
    have len : vs.length = kvs.length := (KV.length kv).symm
    refine PySem.W.kdl_call (PySem.W.kdl_dict (knd := mixKind X.prog X.w) (kvs := vs) (ep := ep) lo) (I.ok.hd hc) hat (by omega) fun h' tk acc c kp ea it => ?_
    have ek : kvs.map (fun e => kV e.1) = vs.map fun e => kV e.1 := by
      have := congrArg (List.map kV) (KV.keys kv)
      simpa [List.map_map, Function.comp_def] using this
    refine ⟨.ref s.heap.objs.size, _, I.laid (t' := tk) kp (Nat.le_refl _) (show ObjOk X.prog X.w _ h' _ (.lst (kvs.map fun e => kV e.1)) from ⟨by rw [List.length_map]; exact z, acc.toList, c, ?_, by rw [Array.toArray_toList]; exact ea⟩), rfl, q _ (I.hok.fresh (Nat.le_refl _))⟩
    rw [ek]
    exact keys_vals (P := X.prog) (w := X.w) (by rw [Array.length_toList]; exact it.1) fun j v e => it.2 j v (by rw [← Array.getElem?_toList]; exact e)
  · exact h.elim
def gSortD : List V → Hp → VK → Prop
  | [.ref d], H, Q => ∃ (kvs : List (Key × V)) (ls : List (List Nat)), H d = some (.dK kvs) ∧ kvs.map (fun e => kV e.1) = ls.map T ∧ ls.length < 64 ∧ ∀ out : List (List Nat), out.Perm ls → InO out → ∀ l, H l = none → Q (.ref l) (upd H l (.lst (out.map T)))
  | _, _, _ => False
theorem fc_sortD (hc : X.calm = true) : CallR X (.builtin "sorted") gSortD := by
  intro pins s σ H xs us Q I r h
  unfold gSortD at h
  split at h
  · rename_i d
    obtain ⟨kvs, ls, hd, hks, h64, q⟩ := h
    obtain ⟨u, rfl, rx⟩ := vals1 r
    cases (show u = Value.ref d from rx)
    obtain ⟨z, lo, vs, kv, D⟩ := dk_of I.hok hd
    obtain ⟨ep, hat⟩ := D.dictAt
    have len : vs.length = kvs.length := (KV.length kv).symm
    have ek : kvs.map (fun e => kV e.1) = vs.map fun e => kV e.1 := by
      have := congrArg (List.map kV) (KV.keys kv)
      simpa [List.map_map, Function.comp_def] using this
    refine Calls.call_function_entry kind_sorted plain_sorted entry_sorted (args_sorted1 _) ?_
    unfold Builtin.«sorted»
    refine wpAny_bind (m := checkCount "sorted" 1 1 _) (wpAny_pure ?_)
    refine wpAny_bind (PySem.W.kdu_collect (PySem.W.kdl_dict (knd := mixKind X.prog X.w) (kvs := vs) (ep := ep) lo) (I.ok.hd hc) hat (by omega) fun h' tk acc kp it => ?_)
    have rv : Vals (ls.map T) acc.toList := by
      rw [← hks, ek]
      exact keys_vals (P := X.prog) (w := X.w) (by rw [Array.length_toList]; exact it.1) fun j v e => it.2 j v (by rw [← Array.getElem?_toList]; exact e)
    obtain ⟨hv, em⟩ := strs_isS rv
    obtain ⟨ss, hS⟩ := isS_strs hv
    have len2 : acc.toList.length < 64 := by have := rv.length; rw [List.length_map] at this; omega
    refine wpAny_bind (wpAny_newList ?_)
    have hoL : (h'.push (seqObj "list" acc.toList.toArray 0)).get? h'.objs.size = some (seqObj "list" acc.toList.toArray 0) := Heap.get?_push_size _ rfl
    refine wpAny_bind (wpAny_holding (wpAny_call_entry slot_list_sort ⟨_, hoL, rfl⟩ entry_list_sort (list_sort_treeK strKind_oneLt hoL hS.keysOf (fun v₁ v₂ rest e => keyKind_strs (by rw [← e]; exact hS)) len2 fun st' hp hs => ⟨_, rfl, ?_⟩) (args_list_sort _)))
    refine wpAny_pure ⟨_, rfl, ?_⟩
    obtain ⟨p1, o1⟩ := srt_out hv hp hs
    generalize hout : (arrOf st').map (·.2) = out at p1 o1
    obtain ⟨c, ea⟩ := sortedHeap_at (out := out) hoL
    have I1 : Inv X pins σ H { s with heap := h', toks := tk } := I.kept kp
    have kp2 : ∀ b o, h'.get? b = some o → (sortedHeap (h'.push (seqObj "list" acc.toList.toArray 0)) h'.objs.size acc.toList out).get? b = some o := fun b o e => by
      have l1 := Heap.lt_size e
      rw [sortedHeap_old (Nat.ne_of_lt l1) (by rw [size_push']; exact Nat.lt_succ_of_lt l1), Heap.get?_push_ne _ _ _ (Nat.ne_of_lt l1)]
      exact e
    have hv2 : ∀ v ∈ out.toList, IsS v := fun v m => hv v (p1.mem_iff.mp m)
    have pm : (out.toList.map strC).Perm ls := by have := p1.map strC; rwa [em] at this
    refine ⟨.ref h'.objs.size, _, I1.laid (t' := tk) (a := h'.objs.size) kp2 (Nat.le_refl _) (show ObjOk X.prog X.w _ _ _ (.lst ((out.toList.map strC).map T)) from ⟨?_, out.toList, c, isS_vals hv2, by rw [Array.toArray_toList]; exact ea⟩), rfl, q _ pm o1 _ (I1.hok.fresh (Nat.le_refl _))⟩
    rw [List.length_map, pm.length_eq, sizeLine_eq]; omega
  · exact h.elim
def gAny (K : PySem.W.Frag) : List V → Hp → VK → Prop
  | [.ref p], H, Q => ∃ bs : List Bool, SqL K H p (bs.map V.bl) ∧ Q (.bl (bs.any id)) H
  | _, _, _ => False
theorem fc_anyK (K : PySem.W.Frag) (hc : X.calm = true) (hK : X.K = K := by rfl) : CallR X (.builtin "any") (gAny K) := by
  subst hK
  intro pins s σ H xs us Q I r h
  unfold gAny at h
  split at h
  · rename_i p
    obtain ⟨bs, hq, q⟩ := h
    obtain ⟨u, rfl, rx⟩ := vals1 r
    cases (show u = Value.ref p from rx)
    obtain ⟨its, rv, pl, hz⟩ := I.list hq
    have hne : p ≠ s.heap.objs.size := Nat.ne_of_lt (by obtain ⟨_, e, _⟩ := pl.isList; exact Heap.lt_size e)
    have hb : LSm.BoolsAre its bs := bools_of rv
    refine call_any_walk (wpAny_pyIter_list pl.isList ?_)
    refine ⟨s.heap.objs.size, [s.heap.objs.size, p], [s.heap.objs.size], its.toArray.size, _, _, fun i => (bs[i]?).getD false, rfl, Walks.list (A := X.A.in1) (I.ok.hd hc) _ p hne its.toArray,
      ⟨⟨_, Heap.get?_push_size _ rfl, rfl, rfl⟩, pl.isList.push _⟩, fun i v s' Q' E' hP hQ => ?_, fun h' tk hk => ?_⟩
    · obtain ⟨b, e, rfl⟩ := hb.get i v (by simpa using hP)
      simp only [e, Option.getD_some] at hQ
      exact wpAny_truthy_bool hQ
    · have e : ((List.range its.toArray.size).any fun i => (bs[i]?).getD false) = bs.any id := by
        rw [List.size_toArray, hb.length]; exact LSm.range_any bs
      rw [e]
      exact ⟨.bl (bs.any id), H, I.kept (LSm.kept_iter hk), rfl, q⟩
  · exact h.elim
end
def tTryN (K : PySem.W.Frag) (CH : Addr) (tb : XKs → TS) (th : TS) : TS := fun D σ H =>
  tb (fun σ' C _ H' => ∃ Ce, C = .ref Ce ∧ PySem.W.exmOne K (.ref Ce) (.ref CH) = some true ∧ th D σ' H') D σ H
theorem ps_tryN {X : Cx} {CH : Addr} {x : Str} {np hpos pos : Pos} {body suite : List Stmt} {b₀ : Stmt} {tb : XKs → TS} {th : TS}
    (hg : Gl X x) (hm : X.mg x = some (.ref CH))
    (hex : X.ex = []) (hst : X.stack = X.env :: X.outer) (hfr : X.env.frame = some X.env.locals)
    (hb : ∀ (pn : List (Addr × Obj)) (Ee : Value → Shared → Prop) (Ex : XKs), Passes' (XE X.prog X.w) { X with pn := pn, xe := Ee } Ex → PSs { X with pn := pn, xe := Ee } body (tb Ex))
    (hh : ∀ e : Addr, PSs (X.caught e) (b₀ :: suite) th) (hdb : (x == ("__debug__" : Str)) = false := by decide) :
    PS X (.Try body [.ExceptHandler (some (.Name x np)) none (b₀ :: suite) hpos] [] [] pos) (tTryN X.K CH tb th) := by
  intro pins s σ H D I h
  refine wpAny_Try_except ?_
  have ok := I.ok
  refine wpAny_mono (hb (X.pn ++ pins) _ _ ?hP [] s σ H D (I.toPn _) h) (fun f s1 hf => ?_) (fun _ _ z => z)
  case hP =>
    intro pins' σ' H1 s1 ev s1' I1 hq
    obtain ⟨e, C, rs, H', rfl, os, bare, un, hok, hrs, ⟨her, a0, fl⟩, ⟨Ce, rfl, hmro, hth⟩⟩ := hq
    have J1 := I1.call' os un hok bare (fun b z => nomatch z)
    have J : Inv X pins σ' H' s1' := J1.ofPn ok
    have I0 : Inv X pins σ' H1 s1 := I1.ofPn ok
    have hn0 : ∀ b ∈ rs, X.s₀.heap.get? b = none ∧ H' b = none := fun b hb => by
      refine ⟨?_, (hrs b hb).2⟩
      cases q : X.s₀.heap.get? b with
      | none => rfl
      | some o =>
        obtain ⟨o', z⟩ := I0.base.there b o q (by rw [hex]; simp)
        rw [(hrs b hb).1] at z; cases z
    have hpin : ∀ p ∈ X.pn ++ pins, p.1 ∉ rs := fun p hp z => by
      have := (I0.pin p hp).1
      rw [(hrs _ z).1] at this; cases this
    have hstk : s1'.heap.FunFrames X.base (X.env :: X.outer) := by rw [← hst]; exact J.stack
    rw [show X.stack = X.env :: X.outer from hst] at fl
    have hfrm : X.A.frames = some (X.env :: X.outer) := by rw [← hst]; exact ok.frames
    show wpAny (model X.prog X.w) X.A (noteFrame (.ref e) X.env) _ _ s1'
    refine wpAny_looks_onW (base := hid s1'.heap (X.env :: X.outer) rs) hfrm hfr fl fun h₄ held up4 => ?_
    refine wpAny_landsW held fun h₅ fl5 up5 => ?_
    have nin : ∀ b, b ∉ frs X.stack → b ∉ frs (X.env :: X.outer) := fun b hb => by rw [← hst]; exact hb
    have stay5 : ∀ b o, s1'.heap.get? b = some o → b ∉ frs X.stack → b ∉ rs → h₅.get? b = some o := fun b o z hb hr => fl5.1 b o (hid_get z (nin b hb) hr)
    have I5 : Inv X pins σ' H' { s1' with heap := h₅, toks := s1'.toks } := J.noted hn0 hpin stay5 (up4.trans up5)
    obtain ⟨ob, hob, hobc⟩ := fl5.there
    refine wpAny_handleBy_cons (codeAny_handlers_test (ld_glob (X := X.caught e) (I5.toCaught e) hg hm (excMatches_K I5.kIn hob hobc hmro ?_) hdb)) (by intro q; cases q)
    refine codeAny_handlers_suite (lands_againW fl5 fun h₆ fl6 up6 => ?_)
    have stay6 : ∀ b o, s1'.heap.get? b = some o → b ∉ frs X.stack → b ∉ rs → h₆.get? b = some o := fun b o z hb hr => fl6.1 b o (hid_get z (nin b hb) hr)
    have I6 : Inv X pins σ' H' { s1' with heap := h₆, toks := s1'.toks } := J.noted hn0 hpin stay6 ((up4.trans up5).trans up6)
    refine wpAny_mono (hh e pins _ _ _ _ (I6.toCaught e) hth) (fun f s8 hf => ?_) (fun _ _ z => z.elim)
    cases f with
    | next =>
      obtain ⟨σ2, H2, J2, q⟩ := hf
      exact ⟨_, _, J2.ofCaught ok, q⟩
    | brk =>
      obtain ⟨σ2, H2, J2, q⟩ := hf
      exact ⟨_, _, J2.ofCaught ok, q⟩
    | cont =>
      obtain ⟨σ2, H2, J2, q⟩ := hf
      exact ⟨_, _, J2.ofCaught ok, q⟩
    | ret u =>
      obtain ⟨v, σ2, H2, J2, r, q⟩ := hf
      exact ⟨v, _, _, J2.ofCaught ok, r, q⟩
  cases f with
  | next =>
    obtain ⟨σ', H', J, q⟩ := hf
    exact wpAny_execs_nil ⟨σ', H', J.ofPn ok, q⟩
  | brk =>
    obtain ⟨σ', H', J, q⟩ := hf
    exact ⟨σ', H', J.ofPn ok, q⟩
  | cont =>
    obtain ⟨σ', H', J, q⟩ := hf
    exact ⟨σ', H', J.ofPn ok, q⟩
  | ret u =>
    obtain ⟨v, σ', H', J, r, q⟩ := hf
    exact ⟨v, σ', H', J.ofPn ok, r, q⟩
section
variable {X : Cx} {tg : Expr}
theorem range_it3n {pins : List (Addr × Obj)} {σ : St} {H : Hp} {s : Shared} {R : It → Hp → Prop} {E : Value → Shared → Prop} {lo hi c : Int} {t u v : Tok} {tk : Nat} (I : Inv X pins σ H s) (h1 : 0 ≤ lo) (h2 : lo < 1000000) (h3 : -1000000 ≤ hi) (h4 : hi < 1000000) (h5 : 1 ≤ c) (h6 : c < 1000000)
    (q : R (Itr3 lo c (rsz lo hi c)) H) : wpAny (model X.prog X.w) X.A (pyIter (.ref s.heap.objs.size)) (PIE X pins σ tg R) E { s with heap := s.heap.push { cls := .type "range", data := .fields #[.int lo t, .int hi u, .int c v] }, toks := tk } := by
  have hd : 0 ≤ (hi - lo - 1) / c ∨ ¬ lo < hi := by
    by_cases h : lo < hi
    · exact .inl (Int.ediv_nonneg (by omega) (by omega))
    · exact .inr h
  have hd2 : lo < hi → (hi - lo - 1) / c < 1000000 := fun h => by
    have := Int.ediv_le_self c (show 0 ≤ hi - lo - 1 by omega)
    omega
  have e2 : ((rsz lo hi c : Nat) : Int) - ((0 : Nat) : Int) = Builtin.Range.rangeSize lo hi c := by
    unfold rsz Builtin.Range.rangeSize
    rw [if_pos (show c > 0 by omega)]
    split <;> omega
  refine wpAny_pyIter_range (IsRange.new ..) ?_ ?_
  · have fits : ∀ z : Int, -(2 ^ 62) ≤ z → z < 2 ^ 62 → Builtin.Range.rangeFitsLong z = true := fun z z1 z2 => by
      simp only [Builtin.Range.rangeFitsLong, Bool.and_eq_true, decide_eq_true_eq]; omega
    have hr : 0 ≤ ((rsz lo hi c : Nat) : Int) ∧ ((rsz lo hi c : Nat) : Int) ≤ 1000000 := by
      unfold rsz
      split
      · rename_i h; have := hd2 h; omega
      · omega
    unfold Builtin.Range.small
    rw [← e2, fits lo (by omega) (by omega), fits hi (by omega) (by omega), fits c (by omega) (by omega), fits _ (by omega) (by omega), if_pos (show c > 0 by omega), fits (hi + (c - 1)) (by omega) (by omega), Bool.or_true]
    rfl
  have I1 : Inv X pins σ H { s with heap := s.heap.push { cls := .type "range", data := .fields #[.int lo t, .int hi u, .int c v] }, toks := tk } := I.kept fun b o e => Heap.get?_push_of_some _ e
  refine ⟨(s.heap.push { cls := .type "range", data := .fields #[.int lo t, .int hi u, .int c v] }).objs.size, [(s.heap.push { cls := .type "range", data := .fields #[.int lo t, .int hi u, .int c v] }).objs.size], _, _, H, rfl,
    I1.kept (t' := tk) fun b o e => Heap.get?_push_of_some _ e, turn_range3 _ lo c (rsz lo hi c), ?_, fun b hb => ?_, q⟩
  · have e1 : lo + ((0 : Nat) : Int) * c = lo := by simp
    show IsRangeIter _ _ (lo + ((0 : Nat) : Int) * c) (((rsz lo hi c : Nat) : Int) - ((0 : Nat) : Int)) c
    rw [e1, e2]
    exact Heap.get?_push_size _ rfl
  · have e : b = (s.heap.push { cls := .type "range", data := .fields #[.int lo t, .int hi u, .int c v] }).objs.size := by simpa using hb
    subst e
    exact I1.fpOk (Nat.le_refl _) (I1.hok.fresh (Nat.le_refl _))
def iRng3n (ta : TA) : TI := fun σ H R => ta σ H fun vs H1 => ∃ i j c : Int, vs = [.int i, .int j, .int c] ∧ (0 ≤ i ∧ i < 1000000 ∧ -1000000 ≤ j ∧ j < 1000000 ∧ 1 ≤ c ∧ c < 1000000) ∧ R (Itr3 i c (rsz i j c)) H1
theorem pi_range3n {a b c : Expr} {ta : TA} {p pos : Pos} (hg : Gl X "range") (hm : X.mg "range" = none) (ha : PA X [a, b, c] ta) (hs : starEach [a, b, c] X.env = [(false, eval a X.env), (false, eval b X.env), (false, eval c X.env)] := by rfl) (hs2 : starEach [b, c] X.env = [(false, eval b X.env), (false, eval c X.env)] := by rfl) :
    PI X tg (.Call (.Name "range" p) [a, b, c] [] pos) (iRng3n ta) := by
  intro pins s σ H R I h
  refine Call_ (ld_blt I hg hm boot_range (PyProof.Rows.callWith_type1 (thn (ha pos pins s σ H _ I h) fun us s1 ⟨vs, H1, I1, r1, q1⟩ => ?_) (by rw [hs, hs2]) (by rw [hs2]; rfl)))
  obtain ⟨i, j, k, e, ⟨q1, q2, q3, q4, q5, q6⟩, q⟩ := q1
  subst e
  cases r1 with
  | cons r rr =>
    cases rr with
    | cons r' rr =>
      cases rr with
      | cons r'' rr =>
        cases rr
        obtain ⟨t, rfl⟩ := r
        obtain ⟨t', rfl⟩ := r'
        obtain ⟨t'', rfl⟩ := r''
        exact call_range_3 (by omega) (range_it3n I1 q1 q2 q3 q4 q5 q6 q) (Or.inl (PyProof.noPylong_small (by omega)))
end
open Lean Meta Simp
def rdFreeI : List Name := rdFree ++ [`L2.tDIn, `L2.tDNotIn, `L2.tDGet, `L2.tTryN]
def rdCaseI : List Name := rdCase ++ [`L2.gSortS, `L2.gSortD, `L2.gListD, `L2.gAny, `L2.gInL, `L2.gAll]
def rdStepI (e : Lean.Expr) : MetaM (Option Lean.Expr) := do
  let .const n us := e.getAppFn | return none
  let fr := rdFreeI.contains n
  unless fr || rdCaseI.contains n do return none
  let some (.defnInfo d) := (← getEnv).find? n | return none
  let v := d.value.instantiateLevelParams d.levelParams us
  let k := v.getNumHeadLambdas
  if e.getAppNumArgs < k then return none
  let b := v.beta e.getAppArgs
  if fr then return some b
  match ← reduceMatcher? b with
  | .reduced r => return some r
  | .notMatcher => return some b
  | _ => return none
dsimproc_decl rdAllI (_) := fun e => do
  match ← rdStepI e with
  | some r => return .visit r
  | none => return .continue
end L2
set_option Elab.async false
set_option linter.all false
set_option maxRecDepth 100000
set_option maxHeartbeats 400000
namespace K8
open PySem L2
structure Adr where
  f__wall : Addr
  fd__wall : FuncData
  f_is_whole : Addr
  fd_is_whole : FuncData
  f_is_among : Addr
  fd_is_among : FuncData
  f_signs_lie : Addr
  fd_signs_lie : FuncData
  f_is_name : Addr
  fd_is_name : FuncData
  f_is_day : Addr
  fd_is_day : FuncData
  f_is_currency : Addr
  fd_is_currency : FuncData
  f_are_names : Addr
  fd_are_names : FuncData
  f_is_path : Addr
  fd_is_path : FuncData
  f_names_of : Addr
  fd_names_of : FuncData
  f_above : Addr
  fd_above : FuncData
  f__law_cell_at : Addr
  fd__law_cell_at : FuncData
  f__law_name_by : Addr
  fd__law_name_by : FuncData
  f__law_went : Addr
  fd__law_went : FuncData
  f__law_days : Addr
  fd__law_days : FuncData
  f__law_uppers : Addr
  fd__law_uppers : FuncData
  f__law_span_good : Addr
  fd__law_span_good : FuncData
  f__law_all_good : Addr
  fd__law_all_good : FuncData
  f_law : Addr
  fd_law : FuncData
  f_Account___init__ : Addr
  fd_Account___init__ : FuncData
  f_Account_stands_on : Addr
  fd_Account_stands_on : FuncData
  f_Account_stands_later : Addr
  fd_Account_stands_later : FuncData
  f_Chart___init__ : Addr
  fd_Chart___init__ : FuncData
  f_Chart_add_top : Addr
  fd_Chart_add_top : FuncData
  f_Chart_add : Addr
  fd_Chart_add : FuncData
  f_Chart_shut : Addr
  fd_Chart_shut : FuncData
  f_Chart_has : Addr
  fd_Chart_has : FuncData
  f_Chart_account : Addr
  fd_Chart_account : FuncData
  f_Chart_kind_of : Addr
  fd_Chart_kind_of : FuncData
  f_Chart_currency_of : Addr
  fd_Chart_currency_of : FuncData
  f_Chart_span_of : Addr
  fd_Chart_span_of : FuncData
  f_Chart_is_open : Addr
  fd_Chart_is_open : FuncData
  f_Chart_beneath : Addr
  fd_Chart_beneath : FuncData
  f_Chart_accounts : Addr
  fd_Chart_accounts : FuncData
  c_HouseError : Addr
  c_BadName : Addr
  c_BadDay : Addr
  c_BadCurrency : Addr
  c_BadPath : Addr
  c_BadKind : Addr
  c_NoAccount : Addr
  c_Twice : Addr
  c_NotOpen : Addr
  c_HasBelow : Addr
  c_Account : Addr
  c_Chart : Addr
  k_KINDS : Addr
structure Txt (K : PySem.W.Frag) (mg : Str → Option Value) (a : Adr) : Prop where
  F__wall : Fun K "_wall" "_wall" s__wall a.f__wall a.fd__wall
  m__wall : mg "_wall" = some (.ref a.f__wall)
  F_is_whole : Fun K "is_whole" "is_whole" s_is_whole a.f_is_whole a.fd_is_whole
  m_is_whole : mg "is_whole" = some (.ref a.f_is_whole)
  F_is_among : Fun K "is_among" "is_among" s_is_among a.f_is_among a.fd_is_among
  m_is_among : mg "is_among" = some (.ref a.f_is_among)
  F_signs_lie : Fun K "signs_lie" "signs_lie" s_signs_lie a.f_signs_lie a.fd_signs_lie
  m_signs_lie : mg "signs_lie" = some (.ref a.f_signs_lie)
  F_is_name : Fun K "is_name" "is_name" s_is_name a.f_is_name a.fd_is_name
  m_is_name : mg "is_name" = some (.ref a.f_is_name)
  F_is_day : Fun K "is_day" "is_day" s_is_day a.f_is_day a.fd_is_day
  m_is_day : mg "is_day" = some (.ref a.f_is_day)
  F_is_currency : Fun K "is_currency" "is_currency" s_is_currency a.f_is_currency a.fd_is_currency
  m_is_currency : mg "is_currency" = some (.ref a.f_is_currency)
  F_are_names : Fun K "are_names" "are_names" s_are_names a.f_are_names a.fd_are_names
  m_are_names : mg "are_names" = some (.ref a.f_are_names)
  F_is_path : Fun K "is_path" "is_path" s_is_path a.f_is_path a.fd_is_path
  m_is_path : mg "is_path" = some (.ref a.f_is_path)
  F_names_of : Fun K "names_of" "names_of" s_names_of a.f_names_of a.fd_names_of
  m_names_of : mg "names_of" = some (.ref a.f_names_of)
  F_above : Fun K "above" "above" s_above a.f_above a.fd_above
  m_above : mg "above" = some (.ref a.f_above)
  F__law_cell_at : Fun K "_law_cell_at" "_law_cell_at" s__law_cell_at a.f__law_cell_at a.fd__law_cell_at
  m__law_cell_at : mg "_law_cell_at" = some (.ref a.f__law_cell_at)
  F__law_name_by : Fun K "_law_name_by" "_law_name_by" s__law_name_by a.f__law_name_by a.fd__law_name_by
  m__law_name_by : mg "_law_name_by" = some (.ref a.f__law_name_by)
  F__law_went : Fun K "_law_went" "_law_went" s__law_went a.f__law_went a.fd__law_went
  m__law_went : mg "_law_went" = some (.ref a.f__law_went)
  F__law_days : Fun K "_law_days" "_law_days" s__law_days a.f__law_days a.fd__law_days
  m__law_days : mg "_law_days" = some (.ref a.f__law_days)
  F__law_uppers : Fun K "_law_uppers" "_law_uppers" s__law_uppers a.f__law_uppers a.fd__law_uppers
  m__law_uppers : mg "_law_uppers" = some (.ref a.f__law_uppers)
  F__law_span_good : Fun K "_law_span_good" "_law_span_good" s__law_span_good a.f__law_span_good a.fd__law_span_good
  m__law_span_good : mg "_law_span_good" = some (.ref a.f__law_span_good)
  F__law_all_good : Fun K "_law_all_good" "_law_all_good" s__law_all_good a.f__law_all_good a.fd__law_all_good
  m__law_all_good : mg "_law_all_good" = some (.ref a.f__law_all_good)
  F_law : Fun K "law" "law" s_law a.f_law a.fd_law
  m_law : mg "law" = some (.ref a.f_law)
  F_Account___init__ : Fun K "__init__" "Account.__init__" s_Account___init__ a.f_Account___init__ a.fd_Account___init__
  mt_Account___init__ : Meth K a.c_Account "__init__" a.f_Account___init__
  F_Account_stands_on : Fun K "stands_on" "Account.stands_on" s_Account_stands_on a.f_Account_stands_on a.fd_Account_stands_on
  mt_Account_stands_on : Meth K a.c_Account "stands_on" a.f_Account_stands_on
  F_Account_stands_later : Fun K "stands_later" "Account.stands_later" s_Account_stands_later a.f_Account_stands_later a.fd_Account_stands_later
  mt_Account_stands_later : Meth K a.c_Account "stands_later" a.f_Account_stands_later
  F_Chart___init__ : Fun K "__init__" "Chart.__init__" s_Chart___init__ a.f_Chart___init__ a.fd_Chart___init__
  mt_Chart___init__ : Meth K a.c_Chart "__init__" a.f_Chart___init__
  F_Chart_add_top : Fun K "add_top" "Chart.add_top" s_Chart_add_top a.f_Chart_add_top a.fd_Chart_add_top
  mt_Chart_add_top : Meth K a.c_Chart "add_top" a.f_Chart_add_top
  F_Chart_add : Fun K "add" "Chart.add" s_Chart_add a.f_Chart_add a.fd_Chart_add
  mt_Chart_add : Meth K a.c_Chart "add" a.f_Chart_add
  F_Chart_shut : Fun K "shut" "Chart.shut" s_Chart_shut a.f_Chart_shut a.fd_Chart_shut
  mt_Chart_shut : Meth K a.c_Chart "shut" a.f_Chart_shut
  F_Chart_has : Fun K "has" "Chart.has" s_Chart_has a.f_Chart_has a.fd_Chart_has
  mt_Chart_has : Meth K a.c_Chart "has" a.f_Chart_has
  F_Chart_account : Fun K "account" "Chart.account" s_Chart_account a.f_Chart_account a.fd_Chart_account
  mt_Chart_account : Meth K a.c_Chart "account" a.f_Chart_account
  F_Chart_kind_of : Fun K "kind_of" "Chart.kind_of" s_Chart_kind_of a.f_Chart_kind_of a.fd_Chart_kind_of
  mt_Chart_kind_of : Meth K a.c_Chart "kind_of" a.f_Chart_kind_of
  F_Chart_currency_of : Fun K "currency_of" "Chart.currency_of" s_Chart_currency_of a.f_Chart_currency_of a.fd_Chart_currency_of
  mt_Chart_currency_of : Meth K a.c_Chart "currency_of" a.f_Chart_currency_of
  F_Chart_span_of : Fun K "span_of" "Chart.span_of" s_Chart_span_of a.f_Chart_span_of a.fd_Chart_span_of
  mt_Chart_span_of : Meth K a.c_Chart "span_of" a.f_Chart_span_of
  F_Chart_is_open : Fun K "is_open" "Chart.is_open" s_Chart_is_open a.f_Chart_is_open a.fd_Chart_is_open
  mt_Chart_is_open : Meth K a.c_Chart "is_open" a.f_Chart_is_open
  F_Chart_beneath : Fun K "beneath" "Chart.beneath" s_Chart_beneath a.f_Chart_beneath a.fd_Chart_beneath
  mt_Chart_beneath : Meth K a.c_Chart "beneath" a.f_Chart_beneath
  F_Chart_accounts : Fun K "accounts" "Chart.accounts" s_Chart_accounts a.f_Chart_accounts a.fd_Chart_accounts
  mt_Chart_accounts : Meth K a.c_Chart "accounts" a.f_Chart_accounts
  m_HouseError : mg "HouseError" = some (.ref a.c_HouseError)
  m_BadName : mg "BadName" = some (.ref a.c_BadName)
  m_BadDay : mg "BadDay" = some (.ref a.c_BadDay)
  m_BadCurrency : mg "BadCurrency" = some (.ref a.c_BadCurrency)
  m_BadPath : mg "BadPath" = some (.ref a.c_BadPath)
  m_BadKind : mg "BadKind" = some (.ref a.c_BadKind)
  m_NoAccount : mg "NoAccount" = some (.ref a.c_NoAccount)
  m_Twice : mg "Twice" = some (.ref a.c_Twice)
  m_NotOpen : mg "NotOpen" = some (.ref a.c_NotOpen)
  m_HasBelow : mg "HasBelow" = some (.ref a.c_HasBelow)
  m_Account : mg "Account" = some (.ref a.c_Account)
  m_Chart : mg "Chart" = some (.ref a.c_Chart)
  cl_Account : Cls K a.c_Account
  n_Account_kind : NoAttr K a.c_Account "kind"
  n_Account_currency : NoAttr K a.c_Account "currency"
  n_Account_first : NoAttr K a.c_Account "first"
  n_Account_until : NoAttr K a.c_Account "until"
  n_Account_below : NoAttr K a.c_Account "below"
  mk_Account : Mk K a.c_Account a.f_Account___init__
  cl_Chart : Cls K a.c_Chart
  n_Chart_by_path : NoAttr K a.c_Chart "by_path"
  mk_Chart : Mk K a.c_Chart a.f_Chart___init__
  e_BadCurrency : PySem.W.excIn K a.c_BadCurrency [.type "ValueError", .type "Exception", .type "BaseException", .type "object"] "ValueError.__new__" = true
  x_BadCurrency : ExcCls K a.c_BadCurrency
  t_BadCurrency_HouseError : PySem.W.exmOne K (.ref a.c_BadCurrency) (.ref a.c_HouseError) = some true
  e_BadDay : PySem.W.excIn K a.c_BadDay [.type "ValueError", .type "Exception", .type "BaseException", .type "object"] "ValueError.__new__" = true
  x_BadDay : ExcCls K a.c_BadDay
  t_BadDay_HouseError : PySem.W.exmOne K (.ref a.c_BadDay) (.ref a.c_HouseError) = some true
  e_BadKind : PySem.W.excIn K a.c_BadKind [.type "ValueError", .type "Exception", .type "BaseException", .type "object"] "ValueError.__new__" = true
  x_BadKind : ExcCls K a.c_BadKind
  t_BadKind_HouseError : PySem.W.exmOne K (.ref a.c_BadKind) (.ref a.c_HouseError) = some true
  e_BadName : PySem.W.excIn K a.c_BadName [.type "ValueError", .type "Exception", .type "BaseException", .type "object"] "ValueError.__new__" = true
  x_BadName : ExcCls K a.c_BadName
  t_BadName_HouseError : PySem.W.exmOne K (.ref a.c_BadName) (.ref a.c_HouseError) = some true
  e_BadPath : PySem.W.excIn K a.c_BadPath [.type "ValueError", .type "Exception", .type "BaseException", .type "object"] "ValueError.__new__" = true
  x_BadPath : ExcCls K a.c_BadPath
  t_BadPath_HouseError : PySem.W.exmOne K (.ref a.c_BadPath) (.ref a.c_HouseError) = some true
  e_HasBelow : PySem.W.excIn K a.c_HasBelow [.type "ValueError", .type "Exception", .type "BaseException", .type "object"] "ValueError.__new__" = true
  x_HasBelow : ExcCls K a.c_HasBelow
  t_HasBelow_HouseError : PySem.W.exmOne K (.ref a.c_HasBelow) (.ref a.c_HouseError) = some true
  e_NoAccount : PySem.W.excIn K a.c_NoAccount [.type "ValueError", .type "Exception", .type "BaseException", .type "object"] "ValueError.__new__" = true
  x_NoAccount : ExcCls K a.c_NoAccount
  t_NoAccount_HouseError : PySem.W.exmOne K (.ref a.c_NoAccount) (.ref a.c_HouseError) = some true
  e_NotOpen : PySem.W.excIn K a.c_NotOpen [.type "ValueError", .type "Exception", .type "BaseException", .type "object"] "ValueError.__new__" = true
  x_NotOpen : ExcCls K a.c_NotOpen
  t_NotOpen_HouseError : PySem.W.exmOne K (.ref a.c_NotOpen) (.ref a.c_HouseError) = some true
  e_Twice : PySem.W.excIn K a.c_Twice [.type "ValueError", .type "Exception", .type "BaseException", .type "object"] "ValueError.__new__" = true
  x_Twice : ExcCls K a.c_Twice
  t_Twice_HouseError : PySem.W.exmOne K (.ref a.c_Twice) (.ref a.c_HouseError) = some true
  m_KINDS : mg "KINDS" = some (.ref a.k_KINDS)
  k_KINDS : ∃ (o : Obj) (its : Array Value) (n : Nat), K.lookup a.k_KINDS = some o ∧ o.cls = .type "tuple" ∧ o.data = .seq its n ∧ its.size ≤ sizeLine ∧ Vals (([[104, 97, 118, 101], [111, 119, 101], [111, 119, 110], [103, 97, 105, 110], [99, 111, 115, 116]] : List (List Nat)).map T) its.toList
  z_all : mg "all" = none
  z_any : mg "any" = none
  z_bool : mg "bool" = none
  z_int : mg "int" = none
  z_isinstance : mg "isinstance" = none
  z_len : mg "len" = none
  z_list : mg "list" = none
  z_max : mg "max" = none
  z_min : mg "min" = none
  z_range : mg "range" = none
  z_sorted : mg "sorted" = none
  z_str : mg "str" = none
theorem bb_all : bootBuiltins "all" = some (.builtin "all") := by decide +kernel
theorem bb_any : bootBuiltins "any" = some (.builtin "any") := by decide +kernel
theorem bb_bool : bootBuiltins "bool" = some (.type "bool") := by decide +kernel
theorem bb_int : bootBuiltins "int" = some (.type "int") := by decide +kernel
theorem bb_isinstance : bootBuiltins "isinstance" = some (.builtin "isinstance") := by decide +kernel
theorem bb_len : bootBuiltins "len" = some (.builtin "len") := by decide +kernel
theorem bb_list : bootBuiltins "list" = some (.type "list") := by decide +kernel
theorem bb_max : bootBuiltins "max" = some (.builtin "max") := by decide +kernel
theorem bb_min : bootBuiltins "min" = some (.builtin "min") := by decide +kernel
theorem bb_sorted : bootBuiltins "sorted" = some (.builtin "sorted") := by decide +kernel
theorem bb_str : bootBuiltins "str" = some (.type "str") := by decide +kernel
theorem sc_is_whole : FnScope ["thing"] ["thing"] (defScope s_is_whole) := ⟨rfl, rfl, rfl, by decide +kernel, rfl, by decide +kernel, by decide +kernel⟩
theorem bn_is_whole {K : PySem.W.Frag} {f : Addr} {fd : FuncData} (F : Fun K "is_whole" "is_whole" s_is_whole f fd) : Binds K fd ["thing"] [] := F.binds (ps := ["thing"]) fun _ _ _ _ _ _ us hl => by obtain ⟨_, rfl⟩ := ex1 hl; rfl
theorem sc_is_among : FnScope ["thing", "least", "most"] ["thing", "least", "most"] (defScope s_is_among) := ⟨rfl, rfl, rfl, by decide +kernel, rfl, by decide +kernel, by decide +kernel⟩
theorem bn_is_among {K : PySem.W.Frag} {f : Addr} {fd : FuncData} (F : Fun K "is_among" "is_among" s_is_among f fd) : Binds K fd ["thing", "least", "most"] [] := F.binds (ps := ["thing", "least", "most"]) fun _ _ _ _ _ _ us hl => by obtain ⟨_, _, _, rfl⟩ := ex3 hl; rfl
theorem sc_signs_lie : FnScope ["text", "least", "most"] ["text", "least", "most"] (defScope s_signs_lie) := ⟨rfl, rfl, rfl, by decide +kernel, rfl, by decide +kernel, by decide +kernel⟩
theorem bn_signs_lie {K : PySem.W.Frag} {f : Addr} {fd : FuncData} (F : Fun K "signs_lie" "signs_lie" s_signs_lie f fd) : Binds K fd ["text", "least", "most"] [] := F.binds (ps := ["text", "least", "most"]) fun _ _ _ _ _ _ us hl => by obtain ⟨_, _, _, rfl⟩ := ex3 hl; rfl
theorem sc_is_name : FnScope ["thing"] ["thing"] (defScope s_is_name) := ⟨rfl, rfl, rfl, by decide +kernel, rfl, by decide +kernel, by decide +kernel⟩
theorem bn_is_name {K : PySem.W.Frag} {f : Addr} {fd : FuncData} (F : Fun K "is_name" "is_name" s_is_name f fd) : Binds K fd ["thing"] [] := F.binds (ps := ["thing"]) fun _ _ _ _ _ _ us hl => by obtain ⟨_, rfl⟩ := ex1 hl; rfl
theorem sc_is_day : FnScope ["thing"] ["thing"] (defScope s_is_day) := ⟨rfl, rfl, rfl, by decide +kernel, rfl, by decide +kernel, by decide +kernel⟩
theorem bn_is_day {K : PySem.W.Frag} {f : Addr} {fd : FuncData} (F : Fun K "is_day" "is_day" s_is_day f fd) : Binds K fd ["thing"] [] := F.binds (ps := ["thing"]) fun _ _ _ _ _ _ us hl => by obtain ⟨_, rfl⟩ := ex1 hl; rfl
theorem sc_is_currency : FnScope ["thing"] ["thing"] (defScope s_is_currency) := ⟨rfl, rfl, rfl, by decide +kernel, rfl, by decide +kernel, by decide +kernel⟩
theorem bn_is_currency {K : PySem.W.Frag} {f : Addr} {fd : FuncData} (F : Fun K "is_currency" "is_currency" s_is_currency f fd) : Binds K fd ["thing"] [] := F.binds (ps := ["thing"]) fun _ _ _ _ _ _ us hl => by obtain ⟨_, rfl⟩ := ex1 hl; rfl
theorem sc_are_names : FnScope ["names"] ["names"] (defScope s_are_names) := ⟨rfl, rfl, rfl, by decide +kernel, rfl, by decide +kernel, by decide +kernel⟩
theorem bn_are_names {K : PySem.W.Frag} {f : Addr} {fd : FuncData} (F : Fun K "are_names" "are_names" s_are_names f fd) : Binds K fd ["names"] [] := F.binds (ps := ["names"]) fun _ _ _ _ _ _ us hl => by obtain ⟨_, rfl⟩ := ex1 hl; rfl
theorem sc_is_path : FnScope ["thing"] ["thing"] (defScope s_is_path) := ⟨rfl, rfl, rfl, by decide +kernel, rfl, by decide +kernel, by decide +kernel⟩
theorem bn_is_path {K : PySem.W.Frag} {f : Addr} {fd : FuncData} (F : Fun K "is_path" "is_path" s_is_path f fd) : Binds K fd ["thing"] [] := F.binds (ps := ["thing"]) fun _ _ _ _ _ _ us hl => by obtain ⟨_, rfl⟩ := ex1 hl; rfl
theorem sc_names_of : FnScope ["path"] ["path"] (defScope s_names_of) := ⟨rfl, rfl, rfl, by decide +kernel, rfl, by decide +kernel, by decide +kernel⟩
theorem bn_names_of {K : PySem.W.Frag} {f : Addr} {fd : FuncData} (F : Fun K "names_of" "names_of" s_names_of f fd) : Binds K fd ["path"] [] := F.binds (ps := ["path"]) fun _ _ _ _ _ _ us hl => by obtain ⟨_, rfl⟩ := ex1 hl; rfl
theorem sc_above : FnScope ["path", "names"] ["path"] (defScope s_above) := ⟨rfl, rfl, rfl, by decide +kernel, rfl, by decide +kernel, by decide +kernel⟩
theorem bn_above {K : PySem.W.Frag} {f : Addr} {fd : FuncData} (F : Fun K "above" "above" s_above f fd) : Binds K fd ["path"] [] := F.binds (ps := ["path"]) fun _ _ _ _ _ _ us hl => by obtain ⟨_, rfl⟩ := ex1 hl; rfl
theorem sc__law_cell_at : FnScope ["_law_script", "_law_k"] ["_law_script", "_law_k"] (defScope s__law_cell_at) := ⟨rfl, rfl, rfl, by decide +kernel, rfl, by decide +kernel, by decide +kernel⟩
theorem bn__law_cell_at {K : PySem.W.Frag} {f : Addr} {fd : FuncData} (F : Fun K "_law_cell_at" "_law_cell_at" s__law_cell_at f fd) : Binds K fd ["_law_script", "_law_k"] [] := F.binds (ps := ["_law_script", "_law_k"]) fun _ _ _ _ _ _ us hl => by obtain ⟨_, _, rfl⟩ := ex2 hl; rfl
theorem sc__law_name_by : FnScope ["_law_cell", "_law_k", "_law_letters", "_law_first", "_law_size", "_law_at", "_law_signs"] ["_law_cell", "_law_k"] (defScope s__law_name_by) := ⟨rfl, rfl, rfl, by decide +kernel, rfl, by decide +kernel, by decide +kernel⟩
theorem bn__law_name_by {K : PySem.W.Frag} {f : Addr} {fd : FuncData} (F : Fun K "_law_name_by" "_law_name_by" s__law_name_by f fd) : Binds K fd ["_law_cell", "_law_k"] [] := F.binds (ps := ["_law_cell", "_law_k"]) fun _ _ _ _ _ _ us hl => by obtain ⟨_, _, rfl⟩ := ex2 hl; rfl
theorem sc__law_went : FnScope ["_law_chart", "_law_kind", "_law_path", "_law_day"] ["_law_chart", "_law_kind", "_law_path", "_law_day"] (defScope s__law_went) := ⟨rfl, rfl, rfl, by decide +kernel, rfl, by decide +kernel, by decide +kernel⟩
theorem bn__law_went {K : PySem.W.Frag} {f : Addr} {fd : FuncData} (F : Fun K "_law_went" "_law_went" s__law_went f fd) : Binds K fd ["_law_chart", "_law_kind", "_law_path", "_law_day"] [] := F.binds (ps := ["_law_chart", "_law_kind", "_law_path", "_law_day"]) fun _ _ _ _ _ _ us hl => by obtain ⟨_, _, _, _, rfl⟩ := ex4 hl; rfl
theorem sc__law_days : FnScope ["_law_chart", "_law_taken", "_law_found", "_law_path", "_law_day"] ["_law_chart", "_law_taken"] (defScope s__law_days) := ⟨rfl, rfl, rfl, by decide +kernel, rfl, by decide +kernel, by decide +kernel⟩
theorem bn__law_days {K : PySem.W.Frag} {f : Addr} {fd : FuncData} (F : Fun K "_law_days" "_law_days" s__law_days f fd) : Binds K fd ["_law_chart", "_law_taken"] [] := F.binds (ps := ["_law_chart", "_law_taken"]) fun _ _ _ _ _ _ us hl => by obtain ⟨_, _, rfl⟩ := ex2 hl; rfl
theorem sc__law_uppers : FnScope ["_law_path", "_law_names"] ["_law_path"] (defScope s__law_uppers) := ⟨rfl, rfl, rfl, by decide +kernel, rfl, by decide +kernel, by decide +kernel⟩
theorem bn__law_uppers {K : PySem.W.Frag} {f : Addr} {fd : FuncData} (F : Fun K "_law_uppers" "_law_uppers" s__law_uppers f fd) : Binds K fd ["_law_path"] [] := F.binds (ps := ["_law_path"]) fun _ _ _ _ _ _ us hl => by obtain ⟨_, rfl⟩ := ex1 hl; rfl
theorem sc__law_span_good : FnScope ["_law_chart", "_law_path", "_law_days_here", "_law_first", "_law_end", "_law_day", "_law_found", "_law_shut"] ["_law_chart", "_law_path", "_law_days_here"] (defScope s__law_span_good) := ⟨rfl, rfl, rfl, by decide +kernel, rfl, by decide +kernel, by decide +kernel⟩
theorem bn__law_span_good {K : PySem.W.Frag} {f : Addr} {fd : FuncData} (F : Fun K "_law_span_good" "_law_span_good" s__law_span_good f fd) : Binds K fd ["_law_chart", "_law_path", "_law_days_here"] [] := F.binds (ps := ["_law_chart", "_law_path", "_law_days_here"]) fun _ _ _ _ _ _ us hl => by obtain ⟨_, _, _, rfl⟩ := ex3 hl; rfl
theorem sc__law_all_good : FnScope ["_law_chart", "_law_taken", "_law_below", "_law_path", "_law_days_here"] ["_law_chart", "_law_taken"] (defScope s__law_all_good) := ⟨rfl, rfl, rfl, by decide +kernel, rfl, by decide +kernel, by decide +kernel⟩
theorem bn__law_all_good {K : PySem.W.Frag} {f : Addr} {fd : FuncData} (F : Fun K "_law_all_good" "_law_all_good" s__law_all_good f fd) : Binds K fd ["_law_chart", "_law_taken"] [] := F.binds (ps := ["_law_chart", "_law_taken"]) fun _ _ _ _ _ _ us hl => by obtain ⟨_, _, rfl⟩ := ex2 hl; rfl
theorem sc_law : FnScope ["_law_script", "_law_names", "_law_base", "_law_chart", "_law_taken", "_law_middle", "_law_k", "_law_kind", "_law_cell", "_law_day", "_law_path"] ["_law_script"] (defScope s_law) := ⟨rfl, rfl, rfl, by decide +kernel, rfl, by decide +kernel, by decide +kernel⟩
theorem sc_Account___init__ : FnScope ["self", "kind", "currency", "first"] ["self", "kind", "currency", "first"] (defScope s_Account___init__) := ⟨rfl, rfl, rfl, by decide +kernel, rfl, by decide +kernel, by decide +kernel⟩
theorem bn_Account___init__ {K : PySem.W.Frag} {f : Addr} {fd : FuncData} (F : Fun K "__init__" "Account.__init__" s_Account___init__ f fd) : Binds K fd ["self", "kind", "currency", "first"] [] := F.binds (ps := ["self", "kind", "currency", "first"]) fun _ _ _ _ _ _ us hl => by obtain ⟨_, _, _, _, rfl⟩ := ex4 hl; rfl
theorem sc_Account_stands_on : FnScope ["self", "day"] ["self", "day"] (defScope s_Account_stands_on) := ⟨rfl, rfl, rfl, by decide +kernel, rfl, by decide +kernel, by decide +kernel⟩
theorem bn_Account_stands_on {K : PySem.W.Frag} {f : Addr} {fd : FuncData} (F : Fun K "stands_on" "Account.stands_on" s_Account_stands_on f fd) : Binds K fd ["self", "day"] [] := F.binds (ps := ["self", "day"]) fun _ _ _ _ _ _ us hl => by obtain ⟨_, _, rfl⟩ := ex2 hl; rfl
theorem sc_Account_stands_later : FnScope ["self", "day"] ["self", "day"] (defScope s_Account_stands_later) := ⟨rfl, rfl, rfl, by decide +kernel, rfl, by decide +kernel, by decide +kernel⟩
theorem bn_Account_stands_later {K : PySem.W.Frag} {f : Addr} {fd : FuncData} (F : Fun K "stands_later" "Account.stands_later" s_Account_stands_later f fd) : Binds K fd ["self", "day"] [] := F.binds (ps := ["self", "day"]) fun _ _ _ _ _ _ us hl => by obtain ⟨_, _, rfl⟩ := ex2 hl; rfl
theorem sc_Chart___init__ : FnScope ["self"] ["self"] (defScope s_Chart___init__) := ⟨rfl, rfl, rfl, by decide +kernel, rfl, by decide +kernel, by decide +kernel⟩
theorem bn_Chart___init__ {K : PySem.W.Frag} {f : Addr} {fd : FuncData} (F : Fun K "__init__" "Chart.__init__" s_Chart___init__ f fd) : Binds K fd ["self"] [] := F.binds (ps := ["self"]) fun _ _ _ _ _ _ us hl => by obtain ⟨_, rfl⟩ := ex1 hl; rfl
theorem sc_Chart_add_top : FnScope ["self", "name", "kind"] ["self", "name", "kind"] (defScope s_Chart_add_top) := ⟨rfl, rfl, rfl, by decide +kernel, rfl, by decide +kernel, by decide +kernel⟩
theorem bn_Chart_add_top {K : PySem.W.Frag} {f : Addr} {fd : FuncData} (F : Fun K "add_top" "Chart.add_top" s_Chart_add_top f fd) : Binds K fd ["self", "name", "kind"] [] := F.binds (ps := ["self", "name", "kind"]) fun _ _ _ _ _ _ us hl => by obtain ⟨_, _, _, rfl⟩ := ex3 hl; rfl
theorem sc_Chart_add : FnScope ["self", "path", "currency", "day", "upper"] ["self", "path", "currency", "day"] (defScope s_Chart_add) := ⟨rfl, rfl, rfl, by decide +kernel, rfl, by decide +kernel, by decide +kernel⟩
theorem bn_Chart_add {K : PySem.W.Frag} {f : Addr} {fd : FuncData} (F : Fun K "add" "Chart.add" s_Chart_add f fd) : Binds K fd ["self", "path", "currency", "day"] [] := F.binds (ps := ["self", "path", "currency", "day"]) fun _ _ _ _ _ _ us hl => by obtain ⟨_, _, _, _, rfl⟩ := ex4 hl; rfl
theorem sc_Chart_shut : FnScope ["self", "path", "day", "account"] ["self", "path", "day"] (defScope s_Chart_shut) := ⟨rfl, rfl, rfl, by decide +kernel, rfl, by decide +kernel, by decide +kernel⟩
theorem bn_Chart_shut {K : PySem.W.Frag} {f : Addr} {fd : FuncData} (F : Fun K "shut" "Chart.shut" s_Chart_shut f fd) : Binds K fd ["self", "path", "day"] [] := F.binds (ps := ["self", "path", "day"]) fun _ _ _ _ _ _ us hl => by obtain ⟨_, _, _, rfl⟩ := ex3 hl; rfl
theorem sc_Chart_has : FnScope ["self", "path"] ["self", "path"] (defScope s_Chart_has) := ⟨rfl, rfl, rfl, by decide +kernel, rfl, by decide +kernel, by decide +kernel⟩
theorem bn_Chart_has {K : PySem.W.Frag} {f : Addr} {fd : FuncData} (F : Fun K "has" "Chart.has" s_Chart_has f fd) : Binds K fd ["self", "path"] [] := F.binds (ps := ["self", "path"]) fun _ _ _ _ _ _ us hl => by obtain ⟨_, _, rfl⟩ := ex2 hl; rfl
theorem sc_Chart_account : FnScope ["self", "path"] ["self", "path"] (defScope s_Chart_account) := ⟨rfl, rfl, rfl, by decide +kernel, rfl, by decide +kernel, by decide +kernel⟩
theorem bn_Chart_account {K : PySem.W.Frag} {f : Addr} {fd : FuncData} (F : Fun K "account" "Chart.account" s_Chart_account f fd) : Binds K fd ["self", "path"] [] := F.binds (ps := ["self", "path"]) fun _ _ _ _ _ _ us hl => by obtain ⟨_, _, rfl⟩ := ex2 hl; rfl
theorem sc_Chart_span_of : FnScope ["self", "path", "account"] ["self", "path"] (defScope s_Chart_span_of) := ⟨rfl, rfl, rfl, by decide +kernel, rfl, by decide +kernel, by decide +kernel⟩
theorem bn_Chart_span_of {K : PySem.W.Frag} {f : Addr} {fd : FuncData} (F : Fun K "span_of" "Chart.span_of" s_Chart_span_of f fd) : Binds K fd ["self", "path"] [] := F.binds (ps := ["self", "path"]) fun _ _ _ _ _ _ us hl => by obtain ⟨_, _, rfl⟩ := ex2 hl; rfl
theorem sc_Chart_is_open : FnScope ["self", "path", "day"] ["self", "path", "day"] (defScope s_Chart_is_open) := ⟨rfl, rfl, rfl, by decide +kernel, rfl, by decide +kernel, by decide +kernel⟩
theorem bn_Chart_is_open {K : PySem.W.Frag} {f : Addr} {fd : FuncData} (F : Fun K "is_open" "Chart.is_open" s_Chart_is_open f fd) : Binds K fd ["self", "path", "day"] [] := F.binds (ps := ["self", "path", "day"]) fun _ _ _ _ _ _ us hl => by obtain ⟨_, _, _, rfl⟩ := ex3 hl; rfl
theorem sc_Chart_beneath : FnScope ["self", "path"] ["self", "path"] (defScope s_Chart_beneath) := ⟨rfl, rfl, rfl, by decide +kernel, rfl, by decide +kernel, by decide +kernel⟩
theorem bn_Chart_beneath {K : PySem.W.Frag} {f : Addr} {fd : FuncData} (F : Fun K "beneath" "Chart.beneath" s_Chart_beneath f fd) : Binds K fd ["self", "path"] [] := F.binds (ps := ["self", "path"]) fun _ _ _ _ _ _ us hl => by obtain ⟨_, _, rfl⟩ := ex2 hl; rfl
theorem sc_Chart_accounts : FnScope ["self"] ["self"] (defScope s_Chart_accounts) := ⟨rfl, rfl, rfl, by decide +kernel, rfl, by decide +kernel, by decide +kernel⟩
theorem bn_Chart_accounts {K : PySem.W.Frag} {f : Addr} {fd : FuncData} (F : Fun K "accounts" "Chart.accounts" s_Chart_accounts f fd) : Binds K fd ["self"] [] := F.binds (ps := ["self"]) fun _ _ _ _ _ _ us hl => by obtain ⟨_, rfl⟩ := ex1 hl; rfl
end K8
set_option Elab.async false
set_option linter.all false
set_option maxRecDepth 100000
set_option maxHeartbeats 400000
namespace K8
open PySem L2
seal L2.PE L2.PT L2.PW L2.PA L2.PS L2.PSs L2.PI L2.PG L2.PGs L2.PO
section
variable {pS : Addr} {ns : List Int} {P : Program} {w : World} {K : PySem.W.Frag} {mg : Str → Option Value} {base : Heap} {a : Adr}
def sp_is_whole : Sp := sp1 fun x H Q _ => NoT H ∧ asK H x fun _ => Q (.bl (isI x)) H
theorem ok_is_whole (T : Txt K mg a) : FnOk P w K mg base (XE P w) 1 a.f_is_whole a.fd_is_whole ["thing"] sp_is_whole := by
  refine T.F_is_whole.okG sc_is_whole (fun vs H Q E h => sp1.len h) (fun cdv A outer s H vs Q E hr h => ?_)
  obtain ⟨x0, rfl, h⟩ := sp1.inv h
  have ND := sc_is_whole.nd
  have PX : Passes' (XE P w) (cxOf (XE P w) P w K mg base ["thing"] "is_whole" (defScope s_is_whole) a.f_is_whole cdv A outer s H (gcE H E)) (fun _ => (gcE H E)) := passB
  have RX : Raises (cxOf (XE P w) P w K mg base ["thing"] "is_whole" (defScope s_is_whole) a.f_is_whole cdv A outer s H (gcE H E)) (fun _ => (gcE H E)) := raisesB
  have HU : (cxOf (XE P w) P w K mg base ["thing"] "is_whole" (defScope s_is_whole) a.f_is_whole cdv A outer s H (gcE H E)).A.units + 100 < cLine := units100 hr
  obtain ⟨hN, h1⟩ := h
  obtain ⟨t, ht, hb, k⟩ := asK.inv h1
  refine ⟨hN, _, (pss_one (ps_ret (fe_and (pe_callB (fc_isiK K) rfl T.z_isinstance bb_isinstance (FA.pa (fa_cons (fv 0) (fa_cons (pe_bltn (v := .ty "int") rfl T.z_int bb_int rfl) fa_nil)))) (pe_one (fe_not (pe_callB (fc_isiK K) rfl T.z_isinstance bb_isinstance (FA.pa (fa_cons (fv 0) (fa_cons (pe_bltn (v := .ty "bool") rfl T.z_bool bb_bool rfl) fa_nil))))))))), ?_⟩
  simp only [rdAllI, rdI, V.int.injEq, V.ref.injEq, eqQ_int, eqQ_bl, eqQ_str, eqQ_ref, eqQ_nn, eqQ_ni, eqQ_in, eqQ_is, eqQ_si, L2.start, List.map_cons, List.map_nil, List.cons_append, List.nil_append, List.append_nil, List.length_cons, List.length_nil, List.replicate, List.getElem?_cons_zero, List.getElem?_cons_succ, List.set_cons_zero, List.set_cons_succ, Nat.reduceSub, Nat.reduceAdd, Int.reduceLT, Int.reduceLE, Int.reducePow, Int.reduceNeg, Nat.reducePow, List.cons.injEq, exists_eq_left', exists_eq_left, eq_self, if_false, if_true, ↓reduceIte, ite_not, forall_const, Option.join, Option.bind_some, id_eq]
  simp only [ht]
  rw [← kind_int ht] at k
  rcases hb with rfl | rfl | rfl | rfl | rfl | rfl | rfl
  all_goals first
    | exact iteT k
    | exact iteF k
def amg (x : V) (lo hi : Int) : Bool := match x with
  | .int i => decide (lo ≤ i) && decide (i ≤ hi)
  | _ => false
theorem amg_not {x : V} {lo hi : Int} (h : isI x = false) : amg x lo hi = false := by
  unfold amg
  split
  · cases h
  · rfl
def sp_is_among : Sp := sp3 fun x y z H Q _ => NoT H ∧ asI y fun lo => asI z fun hi => asK H x fun _ => Q (.bl (amg x lo hi)) H
theorem ok_is_among (T : Txt K mg a) : FnOk P w K mg base (XE P w) 2 a.f_is_among a.fd_is_among ["thing", "least", "most"] sp_is_among := by
  refine T.F_is_among.okG sc_is_among (fun vs H Q E h => sp3.len h) (fun cdv A outer s H vs Q E hr h => ?_)
  obtain ⟨x0, x1, x2, rfl, h⟩ := sp3.inv h
  have ND := sc_is_among.nd
  have PX : Passes' (XE P w) (cxOf (XE P w) P w K mg base ["thing", "least", "most"] "is_among" (defScope s_is_among) a.f_is_among cdv A outer s H (gcE H E)) (fun _ => (gcE H E)) := passB
  have RX : Raises (cxOf (XE P w) P w K mg base ["thing", "least", "most"] "is_among" (defScope s_is_among) a.f_is_among cdv A outer s H (gcE H E)) (fun _ => (gcE H E)) := raisesB
  have HU : (cxOf (XE P w) P w K mg base ["thing", "least", "most"] "is_among" (defScope s_is_among) a.f_is_among cdv A outer s H (gcE H E)).A.units + 100 < cLine := units100 hr
  obtain ⟨hN, h1⟩ := h
  obtain ⟨lo, rfl, h2⟩ := asI.inv h1
  obtain ⟨hi, rfl, h3⟩ := asI.inv h2
  obtain ⟨t, ht, hb, k⟩ := asK.inv h3
  have G_is_whole := ok_is_whole (P := P) (w := w) (base := base) T
  have b_is_whole := bn_is_whole T.F_is_whole
  refine ⟨hN, _, (pss_one (ps_ret (fe_and (pe_callX G_is_whole (hr.mono (by decide)) rfl T.m_is_whole T.F_is_whole.kp b_is_whole .nil PX (FA.pa (fa_cons (fv 0) fa_nil))) (pe_one (fe_chain fo_le fo_le (fv 1) (fv 0) (fv 2)))))), ?_⟩
  ((try dsimp only [sp_is_whole]); try simp only [rdAllI, rdI, V.int.injEq, V.ref.injEq, eqQ_int, eqQ_bl, eqQ_str, eqQ_ref, eqQ_nn, eqQ_ni, eqQ_in, eqQ_is, eqQ_si, L2.start, List.map_cons, List.map_nil, List.cons_append, List.nil_append, List.append_nil, List.length_cons, List.length_nil, List.replicate, List.getElem?_cons_zero, List.getElem?_cons_succ, List.set_cons_zero, List.set_cons_succ, Nat.reduceSub, Nat.reduceAdd, Int.reduceLT, Int.reduceLE, Int.reducePow, Int.reduceNeg, Nat.reducePow, List.cons.injEq, exists_eq_left', exists_eq_left, eq_self, if_false, if_true, ↓reduceIte, ite_not, forall_const, Option.join, Option.bind_some, id_eq])
  refine ⟨hN, asK.of ht ?_⟩
  cases e : isI x0 with
  | false =>
    rw [amg_not e] at k
    exact iteF k
  | true =>
    cases x0 with
    | int i =>
      refine iteT ?_
      ((try dsimp only [sp_is_whole]); try simp only [rdAllI, rdI, V.int.injEq, V.ref.injEq, eqQ_int, eqQ_bl, eqQ_str, eqQ_ref, eqQ_nn, eqQ_ni, eqQ_in, eqQ_is, eqQ_si, L2.start, List.map_cons, List.map_nil, List.cons_append, List.nil_append, List.append_nil, List.length_cons, List.length_nil, List.replicate, List.getElem?_cons_zero, List.getElem?_cons_succ, List.set_cons_zero, List.set_cons_succ, Nat.reduceSub, Nat.reduceAdd, Int.reduceLT, Int.reduceLE, Int.reducePow, Int.reduceNeg, Nat.reducePow, List.cons.injEq, exists_eq_left', exists_eq_left, eq_self, if_false, if_true, ↓reduceIte, ite_not, forall_const, Option.join, Option.bind_some, id_eq])
      split
      · rename_i h1
        have e : amg (.int i) lo hi = decide (i ≤ hi) := by simp [amg, h1]
        rw [e] at k; exact k
      · rename_i h1
        have e : amg (.int i) lo hi = false := by simp [amg, h1]
        rw [e] at k; exact k
    | _ => cases e
theorem amg_inv {x : V} {lo hi : Int} (h : amg x lo hi = true) : ∃ i, x = .int i ∧ lo ≤ i ∧ i ≤ hi := by
  unfold amg at h
  split at h
  · rename_i i; simp at h; exact ⟨i, rfl, h.1, h.2⟩
  · cases h
def sp_is_day : Sp := sp1 fun x H Q _ => NoT H ∧ asK H x fun _ => Q (.bl (amg x 0 146096)) H
theorem ok_is_day (T : Txt K mg a) : FnOk P w K mg base (XE P w) 3 a.f_is_day a.fd_is_day ["thing"] sp_is_day := by
  refine T.F_is_day.okG sc_is_day (fun vs H Q E h => sp1.len h) (fun cdv A outer s H vs Q E hr h => ?_)
  obtain ⟨x0, rfl, h⟩ := sp1.inv h
  have ND := sc_is_day.nd
  have PX : Passes' (XE P w) (cxOf (XE P w) P w K mg base ["thing"] "is_day" (defScope s_is_day) a.f_is_day cdv A outer s H (gcE H E)) (fun _ => (gcE H E)) := passB
  have RX : Raises (cxOf (XE P w) P w K mg base ["thing"] "is_day" (defScope s_is_day) a.f_is_day cdv A outer s H (gcE H E)) (fun _ => (gcE H E)) := raisesB
  have HU : (cxOf (XE P w) P w K mg base ["thing"] "is_day" (defScope s_is_day) a.f_is_day cdv A outer s H (gcE H E)).A.units + 100 < cLine := units100 hr
  obtain ⟨hN, h1⟩ := h
  have G_is_among := ok_is_among (P := P) (w := w) (base := base) T
  have b_is_among := bn_is_among T.F_is_among
  refine ⟨hN, _, (pss_one (ps_ret (pe_callX G_is_among (hr.mono (by decide)) rfl T.m_is_among T.F_is_among.kp b_is_among .nil PX (FA.pa (fa_cons (fv 0) (fa_cons pe_int (fa_cons pe_int fa_nil))))))), ?_⟩
  ((try dsimp only [sp_is_whole, sp_is_among]); try simp only [rdAllI, rdI, V.int.injEq, V.ref.injEq, eqQ_int, eqQ_bl, eqQ_str, eqQ_ref, eqQ_nn, eqQ_ni, eqQ_in, eqQ_is, eqQ_si, L2.start, List.map_cons, List.map_nil, List.cons_append, List.nil_append, List.append_nil, List.length_cons, List.length_nil, List.replicate, List.getElem?_cons_zero, List.getElem?_cons_succ, List.set_cons_zero, List.set_cons_succ, Nat.reduceSub, Nat.reduceAdd, Int.reduceLT, Int.reduceLE, Int.reducePow, Int.reduceNeg, Nat.reducePow, List.cons.injEq, exists_eq_left', exists_eq_left, eq_self, if_false, if_true, ↓reduceIte, ite_not, forall_const, Option.join, Option.bind_some, id_eq])
  exact ⟨hN, h1⟩
def sp_never1 : Sp := sp1 fun _ _ _ _ => False
theorem ok_is_currency (T : Txt K mg a) : FnOk P w K mg base (XE P w) 2 a.f_is_currency a.fd_is_currency ["thing"] sp_never1 := by
  refine T.F_is_currency.okG sc_is_currency (fun vs H Q E h => sp1.len h) (fun cdv A outer s H vs Q E hr h => ?_)
  obtain ⟨x0, rfl, h⟩ := sp1.inv h
  have ND := sc_is_currency.nd
  have PX : Passes' (XE P w) (cxOf (XE P w) P w K mg base ["thing"] "is_currency" (defScope s_is_currency) a.f_is_currency cdv A outer s H (gcE H E)) (fun _ => (gcE H E)) := passB
  have RX : Raises (cxOf (XE P w) P w K mg base ["thing"] "is_currency" (defScope s_is_currency) a.f_is_currency cdv A outer s H (gcE H E)) (fun _ => (gcE H E)) := raisesB
  have HU : (cxOf (XE P w) P w K mg base ["thing"] "is_currency" (defScope s_is_currency) a.f_is_currency cdv A outer s H (gcE H E)).A.units + 100 < cLine := units100 hr
  exact h.elim
theorem le_one (a b : Nat) : leN [a] [b] = decide (a ≤ b) := by
  unfold leN
  have h : ([b] < [a]) ↔ b < a := by
    rw [List.cons_lt_cons_iff]; simp
  rw [decide_eq_decide.mpr h]
  by_cases h2 : b < a
  · rw [decide_eq_true h2, decide_eq_false (by omega)]; rfl
  · rw [decide_eq_false h2, decide_eq_true (by omega)]; rfl
def ok (l : List Nat) : Prop := (∀ c ∈ l, c < 128) ∧ l.length ≤ 1000
theorem ok_size {l : List Nat} (h : ok l) : l.length ≤ sizeLine := Nat.le_trans h.2 (by rw [sizeLine_eq]; decide)
def lie (l : List Nat) (a b : Nat) : Bool := l.all fun c => decide (a ≤ c) && decide (c ≤ b)
def sp_signs_lie : Sp := sp3 fun x y z H Q _ => NoT H ∧ asT x fun l => asT y fun lo => asT z fun hi => ok l ∧ ∃ a b, lo = [a] ∧ hi = [b] ∧ Q (.bl (lie l a b)) H
theorem ok_signs_lie (T : Txt K mg a) : FnOk P w K mg base (XE P w) 1 a.f_signs_lie a.fd_signs_lie ["text", "least", "most"] sp_signs_lie := by
  refine T.F_signs_lie.okG sc_signs_lie (fun vs H Q E h => sp3.len h) (fun cdv A outer s H vs Q E hr h => ?_)
  obtain ⟨x0, x1, x2, rfl, h⟩ := sp3.inv h
  have ND := sc_signs_lie.nd
  have PX : Passes' (XE P w) (cxOf (XE P w) P w K mg base ["text", "least", "most"] "signs_lie" (defScope s_signs_lie) a.f_signs_lie cdv A outer s H (gcE H E)) (fun _ => (gcE H E)) := passB
  have RX : Raises (cxOf (XE P w) P w K mg base ["text", "least", "most"] "signs_lie" (defScope s_signs_lie) a.f_signs_lie cdv A outer s H (gcE H E)) (fun _ => (gcE H E)) := raisesB
  have HU : (cxOf (XE P w) P w K mg base ["text", "least", "most"] "signs_lie" (defScope s_signs_lie) a.f_signs_lie cdv A outer s H (gcE H E)).A.units + 100 < cLine := units100 hr
  obtain ⟨hN, h1⟩ := h
  obtain ⟨l, rfl, h2⟩ := asT.inv h1
  obtain ⟨lo, rfl, h3⟩ := asT.inv h2
  obtain ⟨hi, rfl, hl, a, b, rfl, rfl, k⟩ := asT.inv h3
  refine ⟨hN, _, (pss_one (ps_ret (pe_callB (fc_allK K rfl) rfl T.z_all bb_all (FA.pa (fa_cons (pe_comp rfl (cl := _) (fr := ["least", "most"]) (ks := [1, 2]) (by exact ⟨rfl, by decide +kernel, rfl, by decide +kernel, rfl, keys_of rfl, rfl, kinds_of rfl, kinds_of (k := fun y => List.lookup y _) rfl, only_of rfl⟩) rfl (by decide) (pi_str (fv 0)) (fun _ _ _ _ _ => pts_nil) (fun _ _ _ _ _ => (fe_chain fo_le fo_le (fv 1) (fv 0) (fv 2)))) fa_nil))))), ?_⟩
  ((try dsimp only [sp_is_whole, sp_is_among, sp_is_day, sp_never1]); try simp only [rdAllI, rdI, V.int.injEq, V.ref.injEq, eqQ_int, eqQ_bl, eqQ_str, eqQ_ref, eqQ_nn, eqQ_ni, eqQ_in, eqQ_is, eqQ_si, L2.start, List.map_cons, List.map_nil, List.cons_append, List.nil_append, List.append_nil, List.length_cons, List.length_nil, List.replicate, List.getElem?_cons_zero, List.getElem?_cons_succ, List.set_cons_zero, List.set_cons_succ, Nat.reduceSub, Nat.reduceAdd, Int.reduceLT, Int.reduceLE, Int.reducePow, Int.reduceNeg, Nat.reducePow, List.cons.injEq, exists_eq_left', exists_eq_left, eq_self, if_false, if_true, ↓reduceIte, ite_not, forall_const, Option.join, Option.bind_some, id_eq, le_one])
  refine comp_str (fun _ => True) (fun _ _ _ => trivial) l (fun _ => true) (fun c => .bl (decide (a ≤ c) && decide (c ≤ b))) (fun R r => r) hl.1 (ok_size hl) (fun c _ H R _ r => r) (fun c _ _ H R _ r => ?_) (fun D hD => ?_)
  · ((try dsimp only [sp_is_whole, sp_is_among, sp_is_day, sp_never1]); try simp only [rdAllI, rdI, V.int.injEq, V.ref.injEq, eqQ_int, eqQ_bl, eqQ_str, eqQ_ref, eqQ_nn, eqQ_ni, eqQ_in, eqQ_is, eqQ_si, L2.start, List.map_cons, List.map_nil, List.cons_append, List.nil_append, List.append_nil, List.length_cons, List.length_nil, List.replicate, List.getElem?_cons_zero, List.getElem?_cons_succ, List.set_cons_zero, List.set_cons_succ, Nat.reduceSub, Nat.reduceAdd, Int.reduceLT, Int.reduceLE, Int.reducePow, Int.reduceNeg, Nat.reducePow, List.cons.injEq, exists_eq_left', exists_eq_left, eq_self, if_false, if_true, ↓reduceIte, ite_not, forall_const, Option.join, Option.bind_some, id_eq, le_one])
    by_cases h1 : a ≤ c
    · simp only [h1, decide_true, Bool.true_and] at r ⊢
      exact r
    · simp only [h1, decide_false, Bool.false_and] at r ⊢
      exact r
  · refine ⟨l.map fun c => decide (a ≤ c) && decide (c ≤ b), SqL.of (by rw [upd_same, List.filter_eq_self.mpr (by simp), List.map_map]; rfl), H, Gc.none (same_upd _ hD), ?_⟩
    have e : (l.map fun c => decide (a ≤ c) && decide (c ≤ b)).all id = lie l a b := by
      rw [List.all_map]; rfl
    rw [e]; exact k
theorem not_str {H : Hp} {x : V} {t : String} (ht : kindV H x = some t) (h : ¬ ∃ l, x = .str ⟨⟨l⟩⟩) : isiT t "str" = false := by
  unfold kindV at ht
  split at ht
  case h_4 y => exact absurd ⟨y.cps.toList, rfl⟩ h
  case h_5 => split at ht <;> cases ht <;> decide
  all_goals (cases ht <;> decide)
def okV (x : V) : Prop := ∀ l, x = .str ⟨⟨l⟩⟩ → ok l
def nm (l : List Nat) : Bool := decide (1 ≤ l.length) && decide (l.length ≤ 12) && lie l 97 122
def nameV : V → Bool
  | .str y => nm (cs y)
  | _ => false
def sp_is_name : Sp := sp1 fun x H Q _ => NoT H ∧ okV x ∧ asK H x fun _ => Q (.bl (nameV x)) H
theorem ok_is_name (T : Txt K mg a) : FnOk P w K mg base (XE P w) 2 a.f_is_name a.fd_is_name ["thing"] sp_is_name := by
  refine T.F_is_name.okG sc_is_name (fun vs H Q E h => sp1.len h) (fun cdv A outer s H vs Q E hr h => ?_)
  obtain ⟨x0, rfl, h⟩ := sp1.inv h
  have ND := sc_is_name.nd
  have PX : Passes' (XE P w) (cxOf (XE P w) P w K mg base ["thing"] "is_name" (defScope s_is_name) a.f_is_name cdv A outer s H (gcE H E)) (fun _ => (gcE H E)) := passB
  have RX : Raises (cxOf (XE P w) P w K mg base ["thing"] "is_name" (defScope s_is_name) a.f_is_name cdv A outer s H (gcE H E)) (fun _ => (gcE H E)) := raisesB
  have HU : (cxOf (XE P w) P w K mg base ["thing"] "is_name" (defScope s_is_name) a.f_is_name cdv A outer s H (gcE H E)).A.units + 100 < cLine := units100 hr
  obtain ⟨hN, ho, h1⟩ := h
  obtain ⟨t, ht, hb, k⟩ := asK.inv h1
  have G_signs_lie := ok_signs_lie (P := P) (w := w) (base := base) T
  have b_signs_lie := bn_signs_lie T.F_signs_lie
  refine ⟨hN, _, (pss_one (ps_ret (fe_and (pe_callB (fc_isiK K) rfl T.z_isinstance bb_isinstance (FA.pa (fa_cons (fv 0) (fa_cons (pe_bltn (v := .ty "str") rfl T.z_str bb_str rfl) fa_nil)))) (fe_and (fe_chain fo_le fo_le pe_int (pe_callB (fc_lenK K) rfl T.z_len bb_len (FA.pa (fa_cons (fv 0) fa_nil))) pe_int) (pe_one (pe_callX G_signs_lie (hr.mono (by decide)) rfl T.m_signs_lie T.F_signs_lie.kp b_signs_lie .nil PX (FA.pa (fa_cons (fv 0) (fa_cons (pe_strT [97]) (fa_cons (pe_strT [122]) fa_nil)))))))))), ?_⟩
  by_cases hx : ∃ l, x0 = .str ⟨⟨l⟩⟩
  · obtain ⟨l, rfl⟩ := hx
    have hl := ho l rfl
    have k' : Q (.bl (nm l)) H := k
    cases ht
    ((try dsimp only [sp_is_whole, sp_is_among, sp_is_day, sp_never1, sp_signs_lie]); try simp only [rdAllI, rdI, V.int.injEq, V.ref.injEq, eqQ_int, eqQ_bl, eqQ_str, eqQ_ref, eqQ_nn, eqQ_ni, eqQ_in, eqQ_is, eqQ_si, L2.start, List.map_cons, List.map_nil, List.cons_append, List.nil_append, List.append_nil, List.length_cons, List.length_nil, List.replicate, List.getElem?_cons_zero, List.getElem?_cons_succ, List.set_cons_zero, List.set_cons_succ, Nat.reduceSub, Nat.reduceAdd, Int.reduceLT, Int.reduceLE, Int.reducePow, Int.reduceNeg, Nat.reducePow, List.cons.injEq, exists_eq_left', exists_eq_left, eq_self, if_false, if_true, ↓reduceIte, ite_not, forall_const, Option.join, Option.bind_some, id_eq, le_one])
    refine ⟨ok_size hl, ?_⟩
    split
    · rename_i h1
      split
      · rename_i h2
        have e : nm l = lie l 97 122 := by
          unfold nm; rw [decide_eq_true (by omega), decide_eq_true (by omega)]; rfl
        rw [e] at k'
        exact ⟨hN, hl, 97, 122, rfl, rfl, k'⟩
      · rename_i h2
        have e : nm l = false := by
          unfold nm; rw [decide_eq_false (by omega : ¬ l.length ≤ 12)]; simp
        rw [e] at k'; exact k'
    · rename_i h1
      have e : nm l = false := by
        unfold nm; rw [decide_eq_false (by omega : ¬ 1 ≤ l.length)]; simp
      rw [e] at k'; exact k'
  · have e := not_str ht hx
    have e2 : nameV x0 = false := by
      cases x0 with
      | str y => exact absurd ⟨y.cps.toList, rfl⟩ hx
      | _ => rfl
    rw [e2] at k
    ((try dsimp only [sp_is_whole, sp_is_among, sp_is_day, sp_never1, sp_signs_lie]); try simp only [rdAllI, rdI, V.int.injEq, V.ref.injEq, eqQ_int, eqQ_bl, eqQ_str, eqQ_ref, eqQ_nn, eqQ_ni, eqQ_in, eqQ_is, eqQ_si, L2.start, List.map_cons, List.map_nil, List.cons_append, List.nil_append, List.append_nil, List.length_cons, List.length_nil, List.replicate, List.getElem?_cons_zero, List.getElem?_cons_succ, List.set_cons_zero, List.set_cons_succ, Nat.reduceSub, Nat.reduceAdd, Int.reduceLT, Int.reduceLE, Int.reducePow, Int.reduceNeg, Nat.reducePow, List.cons.injEq, exists_eq_left', exists_eq_left, eq_self, if_false, if_true, ↓reduceIte, ite_not, forall_const, Option.join, Option.bind_some, id_eq, le_one])
    simp only [ht]
    rw [e]
    exact iteF k
def sp_are_names (K : PySem.W.Frag) : Sp := sp1 fun x H Q _ => asR x fun p => NoT H ∧ ∃ xs, SqL K H p xs ∧ xs.length ≤ 300 ∧ (∀ y ∈ xs, okV y ∧ ∃ t, kindV H y = some t) ∧ Q (.bl (decide (1 ≤ xs.length) && decide (xs.length ≤ 6) && xs.all nameV)) H
theorem ok_are_names (T : Txt K mg a) : FnOk P w K mg base (XE P w) 3 a.f_are_names a.fd_are_names ["names"] (sp_are_names K) := by
  refine T.F_are_names.okG sc_are_names (fun vs H Q E h => sp1.len h) (fun cdv A outer s H vs Q E hr h => ?_)
  obtain ⟨x0, rfl, h⟩ := sp1.inv h
  have ND := sc_are_names.nd
  have PX : Passes' (XE P w) (cxOf (XE P w) P w K mg base ["names"] "are_names" (defScope s_are_names) a.f_are_names cdv A outer s H (gcE H E)) (fun _ => (gcE H E)) := passB
  have RX : Raises (cxOf (XE P w) P w K mg base ["names"] "are_names" (defScope s_are_names) a.f_are_names cdv A outer s H (gcE H E)) (fun _ => (gcE H E)) := raisesB
  have HU : (cxOf (XE P w) P w K mg base ["names"] "are_names" (defScope s_are_names) a.f_are_names cdv A outer s H (gcE H E)).A.units + 100 < cLine := units100 hr
  obtain ⟨p, rfl, hN, xs, hS, hl, hx, k⟩ := asR.inv h
  have G_is_name := ok_is_name (P := P) (w := w) (base := base) T
  have b_is_name := bn_is_name T.F_is_name
  refine ⟨hN, _, (pss_one (ps_ret (fe_and (fe_chain fo_le fo_le pe_int (pe_callB (fc_lenK K) rfl T.z_len bb_len (FA.pa (fa_cons (fv 0) fa_nil))) pe_int) (pe_one (pe_callB (fc_allK K rfl) rfl T.z_all bb_all (FA.pa (fa_cons (pe_comp rfl (cl := _) (fr := []) (ks := []) (by exact ⟨rfl, by decide +kernel, rfl, by decide +kernel, rfl, keys_of rfl, rfl, kinds_of rfl, kinds_of (k := fun y => List.lookup y _) rfl, only_of rfl⟩) rfl (by decide) (fi_listK K (fv 0)) (fun _ _ _ _ _ => pts_nil) (fun _ _ _ _ _ => (pe_callX G_is_name (hr.mono (by decide)) rfl T.m_is_name T.F_is_name.kp b_is_name .nil passF (FA.pa (fa_cons (fv 0) fa_nil))))) fa_nil))))))), ?_⟩
  ((try dsimp only [sp_is_whole, sp_is_among, sp_is_day, sp_never1, sp_signs_lie, sp_is_name]); try simp only [rdAllI, rdI, V.int.injEq, V.ref.injEq, eqQ_int, eqQ_bl, eqQ_str, eqQ_ref, eqQ_nn, eqQ_ni, eqQ_in, eqQ_is, eqQ_si, L2.start, List.map_cons, List.map_nil, List.cons_append, List.nil_append, List.append_nil, List.length_cons, List.length_nil, List.replicate, List.getElem?_cons_zero, List.getElem?_cons_succ, List.set_cons_zero, List.set_cons_succ, Nat.reduceSub, Nat.reduceAdd, Int.reduceLT, Int.reduceLE, Int.reducePow, Int.reduceNeg, Nat.reducePow, List.cons.injEq, exists_eq_left', exists_eq_left, eq_self, if_false, if_true, ↓reduceIte, ite_not, forall_const, Option.join, Option.bind_some, id_eq, le_one])
  refine ⟨xs, .inl hS, ?_⟩
  have sz : 1000 ≤ sizeLine := by rw [sizeLine_eq]; decide
  split
  · rename_i h1
    split
    · rename_i h2
      have e : (decide (1 ≤ xs.length) && decide (xs.length ≤ 6) && xs.all nameV) = xs.all nameV := by
        rw [decide_eq_true (by omega), decide_eq_true (by omega)]; rfl
      rw [e] at k
      refine comp_lst p xs (fun H' => NoT H' ∧ SqL K H' p xs ∧ Same H H') (fun D ys hD => ⟨noT_upd hN rfl, hS.same (same_upd _ hD), same_upd _ hD⟩) (fun H' c => c.2.1) (fun _ => true) (fun x => .bl (nameV x)) (fun R r => r) hS (by omega) (fun x _ H' R _ r => r) (fun x hx' _ H' R c r => ?_) (fun D hD => ?_)
      · obtain ⟨o1, t, o2⟩ := hx x hx'
        ((try dsimp only [sp_is_whole, sp_is_among, sp_is_day, sp_never1, sp_signs_lie, sp_is_name]); try simp only [rdAllI, rdI, V.int.injEq, V.ref.injEq, eqQ_int, eqQ_bl, eqQ_str, eqQ_ref, eqQ_nn, eqQ_ni, eqQ_in, eqQ_is, eqQ_si, L2.start, List.map_cons, List.map_nil, List.cons_append, List.nil_append, List.append_nil, List.length_cons, List.length_nil, List.replicate, List.getElem?_cons_zero, List.getElem?_cons_succ, List.set_cons_zero, List.set_cons_succ, Nat.reduceSub, Nat.reduceAdd, Int.reduceLT, Int.reduceLE, Int.reducePow, Int.reduceNeg, Nat.reducePow, List.cons.injEq, exists_eq_left', exists_eq_left, eq_self, if_false, if_true, ↓reduceIte, ite_not, forall_const, Option.join, Option.bind_some, id_eq, le_one])
        exact ⟨c.1, o1, asK.of (kind_same c.2.2 o2) r⟩
      · refine ⟨xs.map nameV, SqL.of (by rw [upd_same, List.filter_eq_self.mpr (by simp), List.map_map]; rfl), H, Gc.none (same_upd _ hD), ?_⟩
        rw [List.all_map]; exact k
    · rename_i h2
      have e : (decide (1 ≤ xs.length) && decide (xs.length ≤ 6) && xs.all nameV) = false := by
        rw [decide_eq_false (by omega : ¬ xs.length ≤ 6)]; simp
      rw [e] at k; exact k
  · rename_i h1
    have e : (decide (1 ≤ xs.length) && decide (xs.length ≤ 6) && xs.all nameV) = false := by
      rw [decide_eq_false (by omega : ¬ 1 ≤ xs.length)]; simp
    rw [e] at k; exact k
def pathN (l : List Nat) : Bool := decide (1 ≤ (spN 58 l).length) && decide ((spN 58 l).length ≤ 6) && (spN 58 l).all nm
def pathV : V → Bool
  | .str y => pathN (cs y)
  | _ => false
def okP (x : V) : Prop := ∀ l, x = .str ⟨⟨l⟩⟩ → (∀ c ∈ l, c < 128) ∧ l.length ≤ 199
def sp_is_path : Sp := sp1 fun x H Q _ => NoT H ∧ okP x ∧ asK H x fun _ => Q (.bl (pathV x)) H
theorem ok_is_path (T : Txt K mg a) : FnOk P w K mg base (XE P w) 4 a.f_is_path a.fd_is_path ["thing"] sp_is_path := by
  refine T.F_is_path.okG sc_is_path (fun vs H Q E h => sp1.len h) (fun cdv A outer s H vs Q E hr h => ?_)
  obtain ⟨x0, rfl, h⟩ := sp1.inv h
  have ND := sc_is_path.nd
  have PX : Passes' (XE P w) (cxOf (XE P w) P w K mg base ["thing"] "is_path" (defScope s_is_path) a.f_is_path cdv A outer s H (gcE H E)) (fun _ => (gcE H E)) := passB
  have RX : Raises (cxOf (XE P w) P w K mg base ["thing"] "is_path" (defScope s_is_path) a.f_is_path cdv A outer s H (gcE H E)) (fun _ => (gcE H E)) := raisesB
  have HU : (cxOf (XE P w) P w K mg base ["thing"] "is_path" (defScope s_is_path) a.f_is_path cdv A outer s H (gcE H E)).A.units + 100 < cLine := units100 hr
  obtain ⟨hN, ho, h1⟩ := h
  obtain ⟨t, ht, hb, k⟩ := asK.inv h1
  have G_are_names := ok_are_names (P := P) (w := w) (base := base) T
  have b_are_names := bn_are_names T.F_are_names
  refine ⟨hN, _, (pss_one (ps_ret (fe_and (pe_callB (fc_isiK K) rfl T.z_isinstance bb_isinstance (FA.pa (fa_cons (fv 0) (fa_cons (pe_bltn (v := .ty "str") rfl T.z_str bb_str rfl) fa_nil)))) (pe_one (pe_callX G_are_names (hr.mono (by decide)) rfl T.m_are_names T.F_are_names.kp b_are_names .nil PX (FA.pa (fa_cons (pe_bmK K PySem.F.plainAttrs_str PySem.F.slot_str_split PySem.F.type_str_split fm_split (fv 0) (FA.pa (fa_cons (pe_strT [58]) fa_nil))) fa_nil))))))), ?_⟩
  by_cases hx : ∃ l, x0 = .str ⟨⟨l⟩⟩
  · obtain ⟨l, rfl⟩ := hx
    have hl := ho l rfl
    have k' : Q (.bl (pathN l)) H := k
    cases ht
    ((try dsimp only [sp_is_whole, sp_is_among, sp_is_day, sp_never1, sp_signs_lie, sp_is_name, sp_are_names]); try simp only [rdAllI, rdI, V.int.injEq, V.ref.injEq, eqQ_int, eqQ_bl, eqQ_str, eqQ_ref, eqQ_nn, eqQ_ni, eqQ_in, eqQ_is, eqQ_si, L2.start, List.map_cons, List.map_nil, List.cons_append, List.nil_append, List.append_nil, List.length_cons, List.length_nil, List.replicate, List.getElem?_cons_zero, List.getElem?_cons_succ, List.set_cons_zero, List.set_cons_succ, Nat.reduceSub, Nat.reduceAdd, Int.reduceLT, Int.reduceLE, Int.reducePow, Int.reduceNeg, Nat.reducePow, List.cons.injEq, exists_eq_left', exists_eq_left, eq_self, if_false, if_true, ↓reduceIte, ite_not, forall_const, Option.join, Option.bind_some, id_eq, le_one])
    have sz : 1000 ≤ sizeLine := by rw [sizeLine_eq]; decide
    have sl := spN_len 58 l
    refine ⟨by omega, fun p hp => ⟨noT_upd hN rfl, _, SqL.of upd_same, by rw [List.length_map]; omega, fun y hy => ?_, H, Gc.none (same_upd _ hp), ?_⟩⟩
    · obtain ⟨q, hq, rfl⟩ := List.mem_map.mp hy
      obtain ⟨m1, m2⟩ := spN_mem 58 l q hq
      exact ⟨fun l' e => by cases e; exact ⟨fun c hc => hl.1 c (m2 c hc), by omega⟩, _, rfl⟩
    · have e : (List.map L2.T (spN 58 l)).all nameV = (spN 58 l).all nm := by rw [List.all_map]; rfl
      rw [List.length_map, e]; exact k'
  · have e := not_str ht hx
    have e2 : pathV x0 = false := by
      cases x0 with
      | str y => exact absurd ⟨y.cps.toList, rfl⟩ hx
      | _ => rfl
    rw [e2] at k
    ((try dsimp only [sp_is_whole, sp_is_among, sp_is_day, sp_never1, sp_signs_lie, sp_is_name, sp_are_names]); try simp only [rdAllI, rdI, V.int.injEq, V.ref.injEq, eqQ_int, eqQ_bl, eqQ_str, eqQ_ref, eqQ_nn, eqQ_ni, eqQ_in, eqQ_is, eqQ_si, L2.start, List.map_cons, List.map_nil, List.cons_append, List.nil_append, List.append_nil, List.length_cons, List.length_nil, List.replicate, List.getElem?_cons_zero, List.getElem?_cons_succ, List.set_cons_zero, List.set_cons_succ, Nat.reduceSub, Nat.reduceAdd, Int.reduceLT, Int.reduceLE, Int.reducePow, Int.reduceNeg, Nat.reducePow, List.cons.injEq, exists_eq_left', exists_eq_left, eq_self, if_false, if_true, ↓reduceIte, ite_not, forall_const, Option.join, Option.bind_some, id_eq, le_one])
    simp only [ht]
    rw [e]
    exact iteF k
def tx (ls : List (List Nat)) : HO := .lst (ls.map L2.T)
def sp_names_of (c : Addr) : Sp := sp1 fun x H Q E => NoT H ∧ okP x ∧ asK H x fun _ => if pathV x = true then asT x fun l => ∀ p, H p = none → Q (.ref p) (upd H p (tx (spN 58 l))) else E (.ref c) none H
theorem ok_names_of (T : Txt K mg a) : FnOk P w K mg base (XE P w) 5 a.f_names_of a.fd_names_of ["path"] (sp_names_of a.c_BadPath) := by
  refine T.F_names_of.okG sc_names_of (fun vs H Q E h => sp1.len h) (fun cdv A outer s H vs Q E hr h => ?_)
  obtain ⟨x0, rfl, h⟩ := sp1.inv h
  have ND := sc_names_of.nd
  have PX : Passes' (XE P w) (cxOf (XE P w) P w K mg base ["path"] "names_of" (defScope s_names_of) a.f_names_of cdv A outer s H (gcE H E)) (fun _ => (gcE H E)) := passB
  have RX : Raises (cxOf (XE P w) P w K mg base ["path"] "names_of" (defScope s_names_of) a.f_names_of cdv A outer s H (gcE H E)) (fun _ => (gcE H E)) := raisesB
  have HU : (cxOf (XE P w) P w K mg base ["path"] "names_of" (defScope s_names_of) a.f_names_of cdv A outer s H (gcE H E)).A.units + 100 < cLine := units100 hr
  obtain ⟨hN, ho, h1⟩ := h
  obtain ⟨t, ht, hb, k⟩ := asK.inv h1
  have G_is_path := ok_is_path (P := P) (w := w) (base := base) T
  have b_is_path := bn_is_path T.F_is_path
  refine ⟨hN, _, (pss_cons (ps_if (pt_not (ft_val (pe_callX G_is_path (hr.mono (by decide)) rfl T.m_is_path T.F_is_path.kp b_is_path .nil PX (FA.pa (fa_cons (fv 0) fa_nil))))) (pss_one (ps_raise T.e_BadPath PySem.F.excBase_ValueError rfl rfl T.m_BadPath RX (FA.pa (fa_cons (pe_strT [116, 104, 105, 115, 32, 105, 115, 32, 110, 111, 32, 112, 97, 116, 104]) fa_nil)))) pss_nil)
      (pss_one (ps_ret (pe_bmK K PySem.F.plainAttrs_str PySem.F.slot_str_split PySem.F.type_str_split fm_split (fv 0) (FA.pa (fa_cons (pe_strT [58]) fa_nil)))))), ?_⟩
  ((try dsimp only [sp_is_whole, sp_is_among, sp_is_day, sp_never1, sp_signs_lie, sp_is_name, sp_are_names, sp_is_path]); try simp only [rdAllI, rdI, V.int.injEq, V.ref.injEq, eqQ_int, eqQ_bl, eqQ_str, eqQ_ref, eqQ_nn, eqQ_ni, eqQ_in, eqQ_is, eqQ_si, L2.start, List.map_cons, List.map_nil, List.cons_append, List.nil_append, List.append_nil, List.length_cons, List.length_nil, List.replicate, List.getElem?_cons_zero, List.getElem?_cons_succ, List.set_cons_zero, List.set_cons_succ, Nat.reduceSub, Nat.reduceAdd, Int.reduceLT, Int.reduceLE, Int.reducePow, Int.reduceNeg, Nat.reducePow, List.cons.injEq, exists_eq_left', exists_eq_left, eq_self, if_false, if_true, ↓reduceIte, ite_not, forall_const, Option.join, Option.bind_some, id_eq, le_one])
  have sz : 1000 ≤ sizeLine := by rw [sizeLine_eq]; decide
  refine ⟨hN, ho, asK.of ht ?_⟩
  cases e : pathV x0 with
  | false =>
    rw [e] at k
    rw [if_pos rfl]
    exact ⟨by omega, k⟩
  | true =>
    rw [e, if_pos rfl] at k
    rw [if_neg (by decide)]
    obtain ⟨l, rfl, k⟩ := asT.inv k
    have hl := ho l rfl
    ((try dsimp only [sp_is_whole, sp_is_among, sp_is_day, sp_never1, sp_signs_lie, sp_is_name, sp_are_names, sp_is_path]); try simp only [rdAllI, rdI, V.int.injEq, V.ref.injEq, eqQ_int, eqQ_bl, eqQ_str, eqQ_ref, eqQ_nn, eqQ_ni, eqQ_in, eqQ_is, eqQ_si, L2.start, List.map_cons, List.map_nil, List.cons_append, List.nil_append, List.append_nil, List.length_cons, List.length_nil, List.replicate, List.getElem?_cons_zero, List.getElem?_cons_succ, List.set_cons_zero, List.set_cons_succ, Nat.reduceSub, Nat.reduceAdd, Int.reduceLT, Int.reduceLE, Int.reducePow, Int.reduceNeg, Nat.reducePow, List.cons.injEq, exists_eq_left', exists_eq_left, eq_self, if_false, if_true, ↓reduceIte, ite_not, forall_const, Option.join, Option.bind_some, id_eq, le_one])
    exact ⟨by omega, fun p hp => ⟨_, Gc.one (same_upd _ hp) hp upd_same rfl, k p hp⟩⟩
theorem nm_len {l : List Nat} (h : nm l = true) : 1 ≤ l.length ∧ l.length ≤ 12 ∧ ∀ c ∈ l, 97 ≤ c ∧ c ≤ 122 := by
  unfold nm lie at h
  simp only [Bool.and_eq_true, decide_eq_true_eq, List.all_eq_true] at h
  exact ⟨h.1.1, h.1.2, fun c hc => h.2 c hc⟩
theorem cutVt (xs : List V) {i : Int} (h : 0 ≤ i) : cutV xs none (some i) = xs.take i.toNat := by
  unfold cutV
  have e : i = ((i.toNat : Nat) : Int) := by omega
  rw [e, HT.sIx_none, HT.sIx_nat, List.drop_zero, Nat.sub_zero]
  by_cases hl : i.toNat ≤ xs.length
  · rw [Nat.min_eq_left hl]; rfl
  · rw [Nat.min_eq_right (by omega), List.take_of_length_le (by omega), List.take_of_length_le (by simp; omega)]
theorem fit_any (n : Nat) : ∀ (ls : List (List Nat)), (∀ l ∈ ls, l.length ≤ n) → (ls.map List.length).sum ≤ n * ls.length
  | [], _ => by simp
  | l :: r, h => by
    have := fit_any n r fun x hx => h x (List.mem_cons_of_mem _ hx)
    have h1 := h l (by simp)
    simp only [List.map_cons, List.sum_cons, List.length_cons, Nat.mul_add, Nat.mul_one]
    omega
theorem fitJ_any {ls : List (List Nat)} (h : ∀ l ∈ ls, l.length ≤ 1000) (hl : ls.length ≤ 1000) : fitJ [58] ls := by
  have := fit_any 1000 ls h
  have h2 : 1000 * ls.length ≤ 1000 * 1000 := Nat.mul_le_mul_left _ hl
  unfold fitJ
  simp only [List.length_cons, List.length_nil]
  omega
def abN (l : List Nat) : List (List Nat) := (List.range ((spN 58 l).length - 1)).map fun k => joinN [58] ((spN 58 l).take (k + 1))
def sp_above : Sp := sp1 fun x H Q _ => NoT H ∧ asT x fun l => ((∀ c ∈ l, c < 128) ∧ l.length ≤ 199) ∧ ∀ p, H p = none → Q (.ref p) (upd H p (tx (abN l)))
theorem ok_above (T : Txt K mg a) : FnOk P w K mg base (XE P w) 1 a.f_above a.fd_above ["path"] sp_above := by
  refine T.F_above.okG sc_above (fun vs H Q E h => sp1.len h) (fun cdv A outer s H vs Q E hr h => ?_)
  obtain ⟨x0, rfl, h⟩ := sp1.inv h
  have ND := sc_above.nd
  have PX : Passes' (XE P w) (cxOf (XE P w) P w K mg base ["path", "names"] "above" (defScope s_above) a.f_above cdv A outer s H (gcE H E)) (fun _ => (gcE H E)) := passB
  have RX : Raises (cxOf (XE P w) P w K mg base ["path", "names"] "above" (defScope s_above) a.f_above cdv A outer s H (gcE H E)) (fun _ => (gcE H E)) := raisesB
  have HU : (cxOf (XE P w) P w K mg base ["path", "names"] "above" (defScope s_above) a.f_above cdv A outer s H (gcE H E)).A.units + 100 < cLine := units100 hr
  obtain ⟨hN, h1⟩ := h
  obtain ⟨l, rfl, hl, k⟩ := asT.inv h1
  refine ⟨hN, _, (pss_cons (ps_set (i := 1) ND rfl (Or.inr rfl) (pe_bmK K PySem.F.plainAttrs_str PySem.F.slot_str_split PySem.F.type_str_split fm_split (fv 0) (FA.pa (fa_cons (pe_strT [58]) fa_nil))))
      (pss_one (ps_ret (pe_comp rfl (cl := _) (fr := ["names"]) (ks := [1]) (by exact ⟨rfl, by decide +kernel, rfl, by decide +kernel, rfl, keys_of rfl, rfl, kinds_of rfl, kinds_of (k := fun y => List.lookup y _) rfl, only_of rfl⟩) rfl (by decide) (pi_range2 rfl T.z_range (FA.pa (fa_cons pe_int (fa_cons (pe_callB (fc_lenK K) rfl T.z_len bb_len (FA.pa (fa_cons (fv 1) fa_nil))) fa_nil)))) (fun _ _ _ _ _ => pts_nil) (fun _ _ _ _ _ => (pe_gc (pe_bmK K PySem.F.plainAttrs_str PySem.F.slot_str_join PySem.F.type_str_join (fm_joinK K) (pe_strT [58]) (FA.pa (fa_cons (pe_slice (fs_listK K) (fv 1) po_none (po_some (fv 0))) fa_nil))))))))), ?_⟩
  ((try dsimp only [sp_is_whole, sp_is_among, sp_is_day, sp_never1, sp_signs_lie, sp_is_name, sp_are_names, sp_is_path, sp_names_of]); try simp only [rdAllI, rdI, V.int.injEq, V.ref.injEq, eqQ_int, eqQ_bl, eqQ_str, eqQ_ref, eqQ_nn, eqQ_ni, eqQ_in, eqQ_is, eqQ_si, L2.start, List.map_cons, List.map_nil, List.cons_append, List.nil_append, List.append_nil, List.length_cons, List.length_nil, List.replicate, List.getElem?_cons_zero, List.getElem?_cons_succ, List.set_cons_zero, List.set_cons_succ, Nat.reduceSub, Nat.reduceAdd, Int.reduceLT, Int.reduceLE, Int.reducePow, Int.reduceNeg, Nat.reducePow, List.cons.injEq, exists_eq_left', exists_eq_left, eq_self, if_false, if_true, ↓reduceIte, ite_not, forall_const, Option.join, Option.bind_some, id_eq, le_one])
  have sz : 1000 ≤ sizeLine := by rw [sizeLine_eq]; decide
  have sl := spN_len 58 l
  refine ⟨by omega, fun p hp => ?_⟩
  have sm := same_upd (HO.lst (List.map L2.T (spN 58 l))) hp
  have nb : ((spN 58 l).length : Int) < 2 ^ 62 := by
    have : (400 : Int) < 2 ^ 62 := by decide
    omega
  refine comp_rng2 (fun H' => NoT H' ∧ SqL K H' p (List.map L2.T (spN 58 l))) (fun D ys hD => ⟨noT_upd (noT_upd hN rfl) rfl, SqL.same (same_upd _ hD) (SqL.of upd_same)⟩) 1 (spN 58 l).length ((spN 58 l).length - 1) (by omega) (fun _ => true)
    (fun v => match v with | .int i => L2.T (joinN [58] ((spN 58 l).take i.toNat)) | _ => .non) (fun R r => ?_) ⟨by decide, by decide, by omega, nb⟩ (by omega) (fun x _ H' R _ r => r) (fun j hj _ H' R c r => ?_) (fun D hD => ?_)
  · ((try dsimp only [sp_is_whole, sp_is_among, sp_is_day, sp_never1, sp_signs_lie, sp_is_name, sp_are_names, sp_is_path, sp_names_of]); try simp only [rdAllI, rdI, V.int.injEq, V.ref.injEq, eqQ_int, eqQ_bl, eqQ_str, eqQ_ref, eqQ_nn, eqQ_ni, eqQ_in, eqQ_is, eqQ_si, L2.start, List.map_cons, List.map_nil, List.cons_append, List.nil_append, List.append_nil, List.length_cons, List.length_nil, List.replicate, List.getElem?_cons_zero, List.getElem?_cons_succ, List.set_cons_zero, List.set_cons_succ, Nat.reduceSub, Nat.reduceAdd, Int.reduceLT, Int.reduceLE, Int.reducePow, Int.reduceNeg, Nat.reducePow, List.cons.injEq, exists_eq_left', exists_eq_left, eq_self, if_false, if_true, ↓reduceIte, ite_not, forall_const, Option.join, Option.bind_some, id_eq, le_one])
    exact ⟨_, .inl (SqL.of upd_same), by rw [List.length_map]; exact r⟩
  · ((try dsimp only [sp_is_whole, sp_is_among, sp_is_day, sp_never1, sp_signs_lie, sp_is_name, sp_are_names, sp_is_path, sp_names_of]); try simp only [rdAllI, rdI, V.int.injEq, V.ref.injEq, eqQ_int, eqQ_bl, eqQ_str, eqQ_ref, eqQ_nn, eqQ_ni, eqQ_in, eqQ_is, eqQ_si, L2.start, List.map_cons, List.map_nil, List.cons_append, List.nil_append, List.append_nil, List.length_cons, List.length_nil, List.replicate, List.getElem?_cons_zero, List.getElem?_cons_succ, List.set_cons_zero, List.set_cons_succ, Nat.reduceSub, Nat.reduceAdd, Int.reduceLT, Int.reduceLE, Int.reducePow, Int.reduceNeg, Nat.reducePow, List.cons.injEq, exists_eq_left', exists_eq_left, eq_self, if_false, if_true, ↓reduceIte, ite_not, forall_const, Option.join, Option.bind_some, id_eq, le_one])
    refine ⟨c.1, p, _, rfl, c.2, fun q hq => ⟨(spN 58 l).take (1 + (j : Int)).toNat, SqL.of (by rw [upd_same, cutVt _ (by omega), List.map_take]), fitJ_any (fun x hx => ?_) (by rw [List.length_take]; omega), H', Gc.none (same_upd _ hq), r⟩⟩
    have := (spN_mem 58 l x (List.mem_of_mem_take hx)).1
    omega
  · refine ⟨_, Gc.one (sm.trans (same_upd _ hD)) (sm.free hD) upd_same rfl, ?_⟩
    have e : (List.map (fun v => match v with | V.int i => L2.T (joinN [58] (List.take i.toNat (spN 58 l))) | _ => V.non) (List.filter (fun _ => true) (List.map (fun k : Nat => V.int (1 + (k : Int))) (List.range ((spN 58 l).length - 1))))) = (abN l).map L2.T := by
      rw [List.filter_eq_self.mpr (by simp), List.map_map]
      unfold abN
      rw [List.map_map]
      apply List.map_congr_left
      intro k _
      show L2.T (joinN [58] (List.take (1 + (k : Int)).toNat (spN 58 l))) = L2.T (joinN [58] (List.take (k + 1) (spN 58 l)))
      rw [show (1 + (k : Int)).toNat = k + 1 by omega]
    rw [e]; exact k D (sm.free hD)
def sp_at (K : PySem.W.Frag) (p0 : Addr) (ns : List Int) : Sp := sp2 fun x y H Q _ => asR x fun p => asI y fun k => NoT H ∧ p0 = p ∧ SqL K H p0 (ns.map V.int) ∧ 0 ≤ k ∧ Q (.int (ns.getD k.toNat 0)) H
theorem ok__law_cell_at (T : Txt K mg a) : FnOk P w K mg base (XE P w) 1 a.f__law_cell_at a.fd__law_cell_at ["_law_script", "_law_k"] (sp_at K pS ns) := by
  refine T.F__law_cell_at.okG sc__law_cell_at (fun vs H Q E h => sp2.len h) (fun cdv A outer s H vs Q E hr h => ?_)
  obtain ⟨x0, x1, rfl, h⟩ := sp2.inv h
  have ND := sc__law_cell_at.nd
  have PX : Passes' (XE P w) (cxOf (XE P w) P w K mg base ["_law_script", "_law_k"] "_law_cell_at" (defScope s__law_cell_at) a.f__law_cell_at cdv A outer s H (gcE H E)) (fun _ => (gcE H E)) := passB
  have RX : Raises (cxOf (XE P w) P w K mg base ["_law_script", "_law_k"] "_law_cell_at" (defScope s__law_cell_at) a.f__law_cell_at cdv A outer s H (gcE H E)) (fun _ => (gcE H E)) := raisesB
  have HU : (cxOf (XE P w) P w K mg base ["_law_script", "_law_k"] "_law_cell_at" (defScope s__law_cell_at) a.f__law_cell_at cdv A outer s H (gcE H E)).A.units + 100 < cLine := units100 hr
  obtain ⟨p, rfl, h1⟩ := asR.inv h
  obtain ⟨k, rfl, hN, rfl, hS, k0, q⟩ := asI.inv h1
  refine ⟨hN, _, (pss_cons (ps_if (ft_cmp fo_lt (fv 1) (pe_callB (fc_lenK K) rfl T.z_len bb_len (FA.pa (fa_cons (fv 0) fa_nil))) (nomark _)) (pss_one (ps_ret (pe_ix (fx_seqK K) (fv 0) (fv 1) (fun _ _ => rfl)))) pss_nil)
      (pss_one (ps_ret pe_int))), ?_⟩
  ((try dsimp only [sp_is_whole, sp_is_among, sp_is_day, sp_never1, sp_signs_lie, sp_is_name, sp_are_names, sp_is_path, sp_names_of, sp_above]); try simp only [rdAllI, rdI, V.int.injEq, V.ref.injEq, eqQ_int, eqQ_bl, eqQ_str, eqQ_ref, eqQ_nn, eqQ_ni, eqQ_in, eqQ_is, eqQ_si, L2.start, List.map_cons, List.map_nil, List.cons_append, List.nil_append, List.append_nil, List.length_cons, List.length_nil, List.replicate, List.getElem?_cons_zero, List.getElem?_cons_succ, List.set_cons_zero, List.set_cons_succ, Nat.reduceSub, Nat.reduceAdd, Int.reduceLT, Int.reduceLE, Int.reducePow, Int.reduceNeg, Nat.reducePow, List.cons.injEq, exists_eq_left', exists_eq_left, eq_self, if_false, if_true, ↓reduceIte, ite_not, forall_const, Option.join, Option.bind_some, id_eq, le_one])
  refine ⟨ns.map V.int, .inl hS, ?_⟩
  rw [List.length_map]
  split
  · rename_i h2
    exact ⟨_, _, .inl hS, at_get k0 h2, q⟩
  · rename_i h2
    have g : ns.getD k.toNat 0 = 0 := by
      have l : ns.length ≤ k.toNat := by omega
      simp [List.getD, l]
    rw [g] at q
    exact q
def LET : List Nat := [97, 98, 99, 100, 101, 102, 103, 104, 105, 106, 107, 108, 109, 110, 111, 112, 113, 114, 115, 116, 117, 118, 119, 120, 121, 122]
theorem let_at {i : Int} (h0 : 0 ≤ i) (h1 : i < 26) : atI LET i = some (97 + i.toNat) := by
  obtain ⟨j, rfl⟩ : ∃ j : Nat, i = j := ⟨i.toNat, by omega⟩
  refine atI_nat ?_
  have hb : ∀ k, k < 26 → LET[k]? = some (97 + k) := by decide
  exact hb j (by omega)
def sg (f : Int) (j : Int) : Nat := 97 + ((f + 5 * j) % 26).toNat
theorem sg_in (f j : Int) : 97 ≤ sg f j ∧ sg f j ≤ 122 := by unfold sg; omega
def NB (c k : Int) : List Nat := if c % 3 = 1 then (List.range (1 + k).toNat).map fun j : Nat => sg (c / 432 % 26) j
  else ((List.range (1 + c / 3 % 12).toNat).map fun j : Nat => sg (c / 432 % 26) j).set (c / 36 % 12 % (1 + c / 3 % 12)).toNat (97 + ((c / 432 % 26 + 5 * (c / 36 % 12 % (1 + c / 3 % 12)) + 1 + k) % 26).toNat)
theorem NB_nm {c k : Int} (h0 : 0 ≤ k) (h1 : k ≤ 11) : nm (NB c k) = true := by
  have lie_of : ∀ l : List Nat, (∀ d ∈ l, 97 ≤ d ∧ d ≤ 122) → lie l 97 122 = true := fun l h => by
    unfold lie; rw [List.all_eq_true]; intro d hd; simp [h d hd]
  unfold nm NB
  split
  · rw [List.length_map, List.length_range, decide_eq_true (by omega), decide_eq_true (by omega), lie_of _ (fun d hd => by
      obtain ⟨j, _, rfl⟩ := List.mem_map.mp hd; exact sg_in _ _)]; rfl
  · rw [List.length_set, List.length_map, List.length_range, decide_eq_true (by omega), decide_eq_true (by omega), lie_of _ (fun d hd => by
      rcases List.mem_or_eq_of_mem_set hd with h | h
      · obtain ⟨j, _, rfl⟩ := List.mem_map.mp h; exact sg_in _ _
      · omega)]; rfl
def sp_name_by : Sp := sp2 fun x y H Q _ => NoT H ∧ asI x fun c => asI y fun k => (0 ≤ k ∧ k ≤ 11) ∧ Q (.str ⟨⟨NB c k⟩⟩) H
theorem ok__law_name_by (T : Txt K mg a) : FnOk P w K mg base (XE P w) 1 a.f__law_name_by a.fd__law_name_by ["_law_cell", "_law_k"] sp_name_by := by
  refine T.F__law_name_by.okG sc__law_name_by (fun vs H Q E h => sp2.len h) (fun cdv A outer s H vs Q E hr h => ?_)
  obtain ⟨x0, x1, rfl, h⟩ := sp2.inv h
  have ND := sc__law_name_by.nd
  have PX : Passes' (XE P w) (cxOf (XE P w) P w K mg base ["_law_cell", "_law_k", "_law_letters", "_law_first", "_law_size", "_law_at", "_law_signs"] "_law_name_by" (defScope s__law_name_by) a.f__law_name_by cdv A outer s H (gcE H E)) (fun _ => (gcE H E)) := passB
  have RX : Raises (cxOf (XE P w) P w K mg base ["_law_cell", "_law_k", "_law_letters", "_law_first", "_law_size", "_law_at", "_law_signs"] "_law_name_by" (defScope s__law_name_by) a.f__law_name_by cdv A outer s H (gcE H E)) (fun _ => (gcE H E)) := raisesB
  have HU : (cxOf (XE P w) P w K mg base ["_law_cell", "_law_k", "_law_letters", "_law_first", "_law_size", "_law_at", "_law_signs"] "_law_name_by" (defScope s__law_name_by) a.f__law_name_by cdv A outer s H (gcE H E)).A.units + 100 < cLine := units100 hr
  obtain ⟨hN, h1⟩ := h
  obtain ⟨c, rfl, h2⟩ := asI.inv h1
  obtain ⟨k, rfl, hk, q⟩ := asI.inv h2
  refine ⟨hN, _, (pss_cons (ps_set (i := 2) ND rfl (Or.inr rfl) (pe_strT [97, 98, 99, 100, 101, 102, 103, 104, 105, 106, 107, 108, 109, 110, 111, 112, 113, 114, 115, 116, 117, 118, 119, 120, 121, 122]))
      (pss_cons (ps_set (i := 3) ND rfl (Or.inr rfl) (pe_op fo_mod (pe_op fo_fdiv (fv 0) pe_int) pe_int))
      (pss_cons (ps_if (ft_cmp (fo_eqQ K HU) (pe_op fo_mod (fv 0) pe_int) pe_int (nomark _)) (pss_one (ps_ret (pe_bmK K PySem.F.plainAttrs_str PySem.F.slot_str_join PySem.F.type_str_join (fm_joinK K) (pe_strT []) (FA.pa (fa_cons (pe_comp rfl (cl := _) (fr := ["_law_letters", "_law_first"]) (ks := [2, 3]) (by exact ⟨rfl, by decide +kernel, rfl, by decide +kernel, rfl, keys_of rfl, rfl, kinds_of rfl, kinds_of (k := fun y => List.lookup y _) rfl, only_of rfl⟩) rfl (by decide) (pi_range1 rfl T.z_range (FA.pa (fa_cons (pe_op fo_add pe_int (fv 1)) fa_nil))) (fun _ _ _ _ _ => pts_nil) (fun _ _ _ _ _ => (pe_ix (fx_seqK K) (fv 1) (pe_op fo_mod (pe_op fo_add (fv 2) (pe_op fo_mul pe_int (fv 0))) pe_int) (fun _ _ => rfl)))) fa_nil))))) pss_nil)
      (pss_cons (ps_set (i := 4) ND rfl (Or.inl rfl) (pe_op fo_add pe_int (pe_op fo_mod (pe_op fo_fdiv (fv 0) pe_int) pe_int)))
      (pss_cons (ps_set (i := 5) ND rfl (Or.inl rfl) (pe_op fo_mod (pe_op fo_mod (pe_op fo_fdiv (fv 0) pe_int) pe_int) (fv 4)))
      (pss_cons (ps_setC (i0 := 6) ND rfl (Or.inl rfl) rfl (cl := _) (fr := ["_law_letters", "_law_first"]) (ks := [2, 3]) (by exact ⟨rfl, by decide +kernel, rfl, by decide +kernel, rfl, keys_of rfl, rfl, kinds_of rfl, kinds_of (k := fun y => List.lookup y _) rfl, only_of rfl⟩) rfl (by decide) (pi_range1 rfl T.z_range (FA.pa (fa_cons (fv 4) fa_nil))) (fun _ _ _ _ _ => pts_nil) (fun _ _ _ _ _ => (pe_ix (fx_seqK K) (fv 1) (pe_op fo_mod (pe_op fo_add (fv 2) (pe_op fo_mul pe_int (fv 0))) pe_int) (fun _ _ => rfl))))
      (pss_cons (ps_asg (pe_ix (fx_seqK K) (fv 2) (pe_op fo_mod (pe_op fo_add (pe_op fo_add (pe_op fo_add (fv 3) (pe_op fo_mul pe_int (fv 5))) pe_int) (fv 1)) pe_int) (fun _ _ => rfl)) (pg_sub (fv 6) (fv 5) set_list))
      (pss_one (ps_ret (pe_bmK K PySem.F.plainAttrs_str PySem.F.slot_str_join PySem.F.type_str_join (fm_joinK K) (pe_strT []) (FA.pa (fa_cons (fv 6) fa_nil)))))))))))), ?_⟩
  ((try dsimp only [sp_is_whole, sp_is_among, sp_is_day, sp_never1, sp_signs_lie, sp_is_name, sp_are_names, sp_is_path, sp_names_of, sp_above, sp_at]); try simp only [rdAllI, rdI, V.int.injEq, V.ref.injEq, eqQ_int, eqQ_bl, eqQ_str, eqQ_ref, eqQ_nn, eqQ_ni, eqQ_in, eqQ_is, eqQ_si, L2.start, List.map_cons, List.map_nil, List.cons_append, List.nil_append, List.append_nil, List.length_cons, List.length_nil, List.replicate, List.getElem?_cons_zero, List.getElem?_cons_succ, List.set_cons_zero, List.set_cons_succ, Nat.reduceSub, Nat.reduceAdd, Int.reduceLT, Int.reduceLE, Int.reducePow, Int.reduceNeg, Nat.reducePow, List.cons.injEq, exists_eq_left', exists_eq_left, eq_self, if_false, if_true, ↓reduceIte, ite_not, forall_const, Option.join, Option.bind_some, id_eq, le_one])
  have sz : 1000 ≤ sizeLine := by rw [sizeLine_eq]; decide
  have el : ∀ (j : Nat) (H' : Hp) (R : VK), R (L2.T [sg (c / 432 % 26) j]) H' → (tOp (gIx K) (fVar 1) (tOp (gIC (fun x j => 0 < j) fun i j => V.int (i % j)) (tOp gAdd (fVar 2) (tOp (gIC CMul fun i j => V.int (i * j)) (tC (V.int 5)) (fVar 0))) (tC (V.int 26))))
      [some (V.int j), some (L2.T LET), some (V.int (c / 432 % 26))] H' R := fun j H' R r => by
    unfold LET
    ((try dsimp only [sp_is_whole, sp_is_among, sp_is_day, sp_never1, sp_signs_lie, sp_is_name, sp_are_names, sp_is_path, sp_names_of, sp_above, sp_at]); try simp only [rdAllI, rdI, V.int.injEq, V.ref.injEq, eqQ_int, eqQ_bl, eqQ_str, eqQ_ref, eqQ_nn, eqQ_ni, eqQ_in, eqQ_is, eqQ_si, L2.start, List.map_cons, List.map_nil, List.cons_append, List.nil_append, List.append_nil, List.length_cons, List.length_nil, List.replicate, List.getElem?_cons_zero, List.getElem?_cons_succ, List.set_cons_zero, List.set_cons_succ, Nat.reduceSub, Nat.reduceAdd, Int.reduceLT, Int.reduceLE, Int.reducePow, Int.reduceNeg, Nat.reducePow, List.cons.injEq, exists_eq_left', exists_eq_left, eq_self, if_false, if_true, ↓reduceIte, ite_not, forall_const, Option.join, Option.bind_some, id_eq, le_one])
    refine ⟨by omega, ?_⟩
    show match atI LET ((c / 432 % 26 + 5 * (j : Int)) % 26) with | some c => R (L2.T [c]) H' | none => False
    rw [let_at (by omega) (by omega)]
    exact r
  split
  · rename_i hc
    refine comp_rng (fun _ => True) (fun _ _ _ => trivial) (1 + k).toNat (fun _ => true) (fun j : Nat => L2.T [sg (c / 432 % 26) j]) (fun R r => ?_) (by omega) (fun j hj H R _ r => r) (fun j hj _ H' R _ r => el j H' R r) (fun D hD => ?_)
    · ((try dsimp only [sp_is_whole, sp_is_among, sp_is_day, sp_never1, sp_signs_lie, sp_is_name, sp_are_names, sp_is_path, sp_names_of, sp_above, sp_at]); try simp only [rdAllI, rdI, V.int.injEq, V.ref.injEq, eqQ_int, eqQ_bl, eqQ_str, eqQ_ref, eqQ_nn, eqQ_ni, eqQ_in, eqQ_is, eqQ_si, L2.start, List.map_cons, List.map_nil, List.cons_append, List.nil_append, List.append_nil, List.length_cons, List.length_nil, List.replicate, List.getElem?_cons_zero, List.getElem?_cons_succ, List.set_cons_zero, List.set_cons_succ, Nat.reduceSub, Nat.reduceAdd, Int.reduceLT, Int.reduceLE, Int.reducePow, Int.reduceNeg, Nat.reducePow, List.cons.injEq, exists_eq_left', exists_eq_left, eq_self, if_false, if_true, ↓reduceIte, ite_not, forall_const, Option.join, Option.bind_some, id_eq, le_one])
      rw [show ((1 + k).toNat : Int) = 1 + k by omega] at r; exact r
    · refine join_one (List.range (1 + k).toNat) (fun j : Nat => sg (c / 432 % 26) j) (by rw [upd_same, List.filter_eq_self.mpr (by simp)]) (by rw [List.length_range]; omega) ⟨H, Gc.none (same_upd _ hD), ?_⟩
      unfold NB at q
      rw [if_pos hc] at q; exact q
  · rename_i hc
    refine ⟨by omega, ?_⟩
    have a0 : 0 ≤ c / 36 % 12 % (1 + c / 3 % 12) := Int.emod_nonneg _ (by omega)
    have a1 : c / 36 % 12 % (1 + c / 3 % 12) < 1 + c / 3 % 12 := Int.emod_lt_of_pos _ (by omega)
    unfold NB at q
    rw [if_neg hc] at q
    generalize c / 36 % 12 % (1 + c / 3 % 12) = at_ at a0 a1 q
    refine comp_rng (fun _ => True) (fun _ _ _ => trivial) (1 + c / 3 % 12).toNat (fun _ => true) (fun j : Nat => L2.T [sg (c / 432 % 26) j]) (fun R r => ?_) (by omega) (fun j hj H R _ r => r) (fun j hj _ H' R _ r => el j H' R r) (fun D hD => ?_)
    · ((try dsimp only [sp_is_whole, sp_is_among, sp_is_day, sp_never1, sp_signs_lie, sp_is_name, sp_are_names, sp_is_path, sp_names_of, sp_above, sp_at]); try simp only [rdAllI, rdI, V.int.injEq, V.ref.injEq, eqQ_int, eqQ_bl, eqQ_str, eqQ_ref, eqQ_nn, eqQ_ni, eqQ_in, eqQ_is, eqQ_si, L2.start, List.map_cons, List.map_nil, List.cons_append, List.nil_append, List.append_nil, List.length_cons, List.length_nil, List.replicate, List.getElem?_cons_zero, List.getElem?_cons_succ, List.set_cons_zero, List.set_cons_succ, Nat.reduceSub, Nat.reduceAdd, Int.reduceLT, Int.reduceLE, Int.reducePow, Int.reduceNeg, Nat.reducePow, List.cons.injEq, exists_eq_left', exists_eq_left, eq_self, if_false, if_true, ↓reduceIte, ite_not, forall_const, Option.join, Option.bind_some, id_eq, le_one])
      rw [show ((1 + c / 3 % 12).toNat : Int) = 1 + c / 3 % 12 by omega] at r; exact r
    · refine ⟨by omega, ?_⟩
      show match atI LET ((c / 432 % 26 + 5 * at_ + 1 + k) % 26) with | some c_1 => _ | none => False
      rw [let_at (by omega) (by omega)]
      obtain ⟨j, rfl⟩ : ∃ j : Nat, at_ = j := ⟨at_.toNat, by omega⟩
      refine ⟨D, _, _, j, rfl, rfl, upd_same, ixN_nat' (by rw [List.length_map, List.filter_eq_self.mpr (by simp), List.length_range]; omega), ?_⟩
      rw [upd_upd]
      refine join_one ((((List.range (1 + c / 3 % 12).toNat).map fun j : Nat => sg (c / 432 % 26) j)).set j (97 + ((c / 432 % 26 + 5 * (j : Int) + 1 + k) % 26).toNat)) (fun x => x) (by rw [upd_same, List.filter_eq_self.mpr (by simp), List.map_set, List.map_map]; rfl) (by rw [List.length_set, List.length_map, List.length_range]; omega) ⟨H, Gc.none (same_upd _ hD), ?_⟩
      rw [List.map_id']; exact q
end
end K8
set_option Elab.async false
set_option linter.all false
set_option maxRecDepth 100000
set_option maxHeartbeats 400000
namespace K8
open PySem L2
seal L2.PE L2.PT L2.PW L2.PA L2.PS L2.PSs L2.PI L2.PG L2.PGs L2.PO
section
variable {pS : Addr} {ns : List Int} {P : Program} {w : World} {K : PySem.W.Frag} {mg : Str → Option Value} {base : Heap} {a : Adr}
def Keep (S : List Addr) (H H' : Hp) : Prop := ∀ c z, H c = some z → c ∉ S → H' c = some z
theorem Keep.refl {S : List Addr} {H : Hp} : Keep S H H := fun _ _ e _ => e
theorem Keep.trans {S : List Addr} {H H1 H2 : Hp} (x : Keep S H H1) (y : Keep S H1 H2) : Keep S H H2 := fun c z e n => y c z (x c z e n) n
theorem Keep.mono {S S' : List Addr} {H H' : Hp} (x : Keep S H H') (h : ∀ c, c ∈ S → c ∈ S') : Keep S' H H' := fun c z e n => x c z e fun m => n (h c m)
theorem Keep.new {S : List Addr} {H H1 : Hp} {p : Addr} {o : HO} (x : Keep S H H1) (h : H1 p = none) : Keep S H (upd H1 p o) := fun c z e n => by
  rw [upd_ne (ne_of_none (x c z e n) h)]; exact x c z e n
theorem Keep.put {S : List Addr} {H H1 : Hp} {p : Addr} {o : HO} (x : Keep S H H1) (h : p ∈ S) : Keep S H (upd H1 p o) := fun c z e n => by
  rw [upd_ne (by rintro rfl; exact n h)]; exact x c z e n
theorem Keep.same {S : List Addr} {H H' : Hp} (x : Same H H') : Keep S H H' := fun c z e _ => x c z e
theorem Keep.free {S : List Addr} {H H' : Hp} {p : Addr} (x : Keep S H H') (h : H' p = none) (n : p ∉ S) : H p = none := by
  cases e : H p with
  | none => rfl
  | some z => rw [x p z e n] at h; cases h
theorem ne_at {H : Hp} {p q : Addr} {x y : HO} (h : H p = some x) (g : H q = some y) (n : x ≠ y) : p ≠ q := by
  rintro rfl; rw [h] at g; cases g; exact n rfl
def cl : Option Int → V
  | none => .non
  | some m => .int m
structure Acc where
  pa : List Nat
  ob : Addr
  bl : Addr
  ki : V
  cu : V
  fi : Int
  un : Option Int
  be : List (List Nat)
def flds (k c f u b : V) : List (Str × V) := [("kind", k), ("currency", c), ("first", f), ("until", u), ("below", b)]
theorem fk (k c f u b : V) : List.lookup (Str.ofString "kind") (flds k c f u b) = some k := lk_hit
theorem ff (k c f u b : V) : List.lookup (Str.ofString "first") (flds k c f u b) = some f := by unfold flds; rw [lk_miss (by decide +kernel), lk_miss (by decide +kernel)]; exact lk_hit
theorem fu (k c f u b : V) : List.lookup (Str.ofString "until") (flds k c f u b) = some u := by unfold flds; rw [lk_miss (by decide +kernel), lk_miss (by decide +kernel), lk_miss (by decide +kernel)]; exact lk_hit
theorem fb (k c f u b : V) : List.lookup (Str.ofString "below") (flds k c f u b) = some b := by unfold flds; rw [lk_miss (by decide +kernel), lk_miss (by decide +kernel), lk_miss (by decide +kernel), lk_miss (by decide +kernel)]; exact lk_hit
theorem f_on (k c f u b : V) : List.lookup (Str.ofString "stands_on") (flds k c f u b) = none := by unfold flds; rw [lk_miss (by decide +kernel), lk_miss (by decide +kernel), lk_miss (by decide +kernel), lk_miss (by decide +kernel), lk_miss (by decide +kernel)]; rfl
theorem f_later (k c f u b : V) : List.lookup (Str.ofString "stands_later") (flds k c f u b) = none := by unfold flds; rw [lk_miss (by decide +kernel), lk_miss (by decide +kernel), lk_miss (by decide +kernel), lk_miss (by decide +kernel), lk_miss (by decide +kernel)]; rfl
theorem f_put (k c f u b v : V) : putF (Str.ofString "until") v (flds k c f u b) = flds k c f v b := by
  have q1 : ¬ (Str.ofString "kind" = Str.ofString "until") := by decide +kernel
  have q2 : ¬ (Str.ofString "currency" = Str.ofString "until") := by decide +kernel
  have q3 : ¬ (Str.ofString "first" = Str.ofString "until") := by decide +kernel
  simp [putF, flds, q1, q2, q3]
theorem f_make (k c f u b : V) : putF (Str.ofString "below") b (putF (Str.ofString "until") u (putF (Str.ofString "first") f (putF (Str.ofString "currency") c (putF (Str.ofString "kind") k [])))) = flds k c f u b := by
  have q1 : ¬ (Str.ofString "kind" = Str.ofString "until") := by decide +kernel
  have q2 : ¬ (Str.ofString "currency" = Str.ofString "until") := by decide +kernel
  have q3 : ¬ (Str.ofString "first" = Str.ofString "until") := by decide +kernel
  have q4 : ¬ (Str.ofString "kind" = Str.ofString "first") := by decide +kernel
  have q5 : ¬ (Str.ofString "currency" = Str.ofString "first") := by decide +kernel
  have q6 : ¬ (Str.ofString "kind" = Str.ofString "currency") := by decide +kernel
  have q7 : ¬ (Str.ofString "kind" = Str.ofString "below") := by decide +kernel
  have q8 : ¬ (Str.ofString "currency" = Str.ofString "below") := by decide +kernel
  have q9 : ¬ (Str.ofString "first" = Str.ofString "below") := by decide +kernel
  have q0 : ¬ (Str.ofString "until" = Str.ofString "below") := by decide +kernel
  simp [putF, flds, q1, q2, q3, q4, q5, q6, q7, q8, q9, q0]
def sp_a_init (A : Addr) : Sp := sp4 fun x k c f H Q _ => NoT H ∧ asR x fun p => ∃ dx, H p = some (.ins A dx []) ∧ ∀ b H', H b = none → H' p = some (.ins A dx (flds k c f .non (.ref b))) → H' b = some (.lst []) → Keep [p] H H' → NoT H' → Q .non H'
theorem ok_Account___init__ (T : Txt K mg a) : FnOk P w K mg base (XE P w) 1 a.f_Account___init__ a.fd_Account___init__ ["self", "kind", "currency", "first"] (sp_a_init a.c_Account) := by
  refine T.F_Account___init__.okX sc_Account___init__ (fun vs H Q E h => sp4.len h) (fun cdv A outer s H vs Q E hr h => ?_)
  obtain ⟨x0, x1, x2, x3, rfl, h⟩ := sp4.inv h
  have ND := sc_Account___init__.nd
  have PX : Passes' (XE P w) (cxOf (XE P w) P w K mg base ["self", "kind", "currency", "first"] "Account.__init__" (defScope s_Account___init__) a.f_Account___init__ cdv A outer s H E) (fun _ => E) := passB
  have RX : Raises (cxOf (XE P w) P w K mg base ["self", "kind", "currency", "first"] "Account.__init__" (defScope s_Account___init__) a.f_Account___init__ cdv A outer s H E) (fun _ => E) := raisesB
  have HU : (cxOf (XE P w) P w K mg base ["self", "kind", "currency", "first"] "Account.__init__" (defScope s_Account___init__) a.f_Account___init__ cdv A outer s H E).A.units + 100 < cLine := units100 hr
  obtain ⟨hN, h1⟩ := h
  obtain ⟨p, rfl, dx, hp, k⟩ := asR.inv h1
  refine ⟨_, (pss_cons (ps_fldK K (fv 0) (fv 1))
      (pss_cons (ps_fldK K (fv 0) (fv 2))
      (pss_cons (ps_fldK K (fv 0) (fv 3))
      (pss_cons (ps_fldK K (fv 0) pe_non)
      (pss_one (ps_fldK K (fv 0) (pe_lst (FA.pa fa_nil)))))))), ?_⟩
  ((try dsimp only [sp_is_whole, sp_is_among, sp_is_day, sp_never1, sp_signs_lie, sp_is_name, sp_are_names, sp_is_path, sp_names_of, sp_above]); try simp only [rdAllI, rdI, V.int.injEq, V.ref.injEq, eqQ_int, eqQ_bl, eqQ_str, eqQ_ref, eqQ_nn, eqQ_ni, eqQ_in, eqQ_is, eqQ_si, L2.start, List.map_cons, List.map_nil, List.cons_append, List.nil_append, List.append_nil, List.length_cons, List.length_nil, List.replicate, List.getElem?_cons_zero, List.getElem?_cons_succ, List.set_cons_zero, List.set_cons_succ, Nat.reduceSub, Nat.reduceAdd, Int.reduceLT, Int.reduceLE, Int.reducePow, Int.reduceNeg, Nat.reducePow, List.cons.injEq, exists_eq_left', exists_eq_left, eq_self, if_false, if_true, ↓reduceIte, ite_not, forall_const, Option.join, Option.bind_some, id_eq])
  refine ⟨_, _, _, hp, T.cl_Account, T.n_Account_kind, by decide, _, _, _, upd_same, T.cl_Account, T.n_Account_currency, by show 1 < 1000; decide, _, _, _, upd_same, T.cl_Account, T.n_Account_first, by show 2 < 1000; decide, _, _, _, upd_same, T.cl_Account, T.n_Account_until, by show 3 < 1000; decide, Nat.zero_le _, fun b hb => ?_⟩
  rw [upd_upd, upd_upd, upd_upd] at hb ⊢
  have np : p ≠ b := fun q => by rw [← q, upd_same] at hb; cases hb
  have hb0 : H b = none := by rw [upd_ne (Ne.symm np)] at hb; exact hb
  refine ⟨_, _, _, (upd_ne np).trans upd_same, T.cl_Account, T.n_Account_below, by show 4 < 1000; decide, ?_⟩
  rw [f_make]
  refine k b _ hb0 upd_same ?_ ?_ ?_
  · rw [upd_ne (Ne.symm np), upd_same]
  · exact ((Keep.refl.put (List.mem_singleton.2 rfl)).new hb).put (List.mem_singleton.2 rfl)
  · exact noT_upd (noT_upd (noT_upd hN rfl) rfl) rfl
def lat (u : Option Int) (d : Int) : Bool := match u with
  | none => true
  | some t => decide (d < t)
def opn (f : Int) (u : Option Int) (d : Int) : Bool := decide (f ≤ d) && lat u d
def sp_on (A : Addr) : Sp := sp2 fun x y H Q _ => NoT H ∧ asR x fun p => asI y fun d => ∃ dx k c f u b, H p = some (.ins A dx (flds k c (.int f) (cl u) b)) ∧ Q (.bl (opn f u d)) H
theorem ok_Account_stands_on (T : Txt K mg a) : FnOk P w K mg base (XE P w) 1 a.f_Account_stands_on a.fd_Account_stands_on ["self", "day"] (sp_on a.c_Account) := by
  refine T.F_Account_stands_on.okG sc_Account_stands_on (fun vs H Q E h => sp2.len h) (fun cdv A outer s H vs Q E hr h => ?_)
  obtain ⟨x0, x1, rfl, h⟩ := sp2.inv h
  have ND := sc_Account_stands_on.nd
  have PX : Passes' (XE P w) (cxOf (XE P w) P w K mg base ["self", "day"] "Account.stands_on" (defScope s_Account_stands_on) a.f_Account_stands_on cdv A outer s H (gcE H E)) (fun _ => (gcE H E)) := passB
  have RX : Raises (cxOf (XE P w) P w K mg base ["self", "day"] "Account.stands_on" (defScope s_Account_stands_on) a.f_Account_stands_on cdv A outer s H (gcE H E)) (fun _ => (gcE H E)) := raisesB
  have HU : (cxOf (XE P w) P w K mg base ["self", "day"] "Account.stands_on" (defScope s_Account_stands_on) a.f_Account_stands_on cdv A outer s H (gcE H E)).A.units + 100 < cLine := units100 hr
  obtain ⟨hN, h1⟩ := h
  obtain ⟨p, rfl, h2⟩ := asR.inv h1
  obtain ⟨d, rfl, dx, k, c, f, u, b, hp, q⟩ := asI.inv h2
  refine ⟨hN, _, (pss_one (ps_ret (fe_and (pe_cmpR fo_le (pe_fldK K (fv 0)) (fv 1) (nomark _)) (pe_one (fe_or (pe_cmp (pc_isN (pe_fldK K (fv 0)))) (pe_one (pe_cmpR fo_lt (fv 1) (pe_fldK K (fv 0)) (nomark _)))))))), ?_⟩
  ((try dsimp only [sp_is_whole, sp_is_among, sp_is_day, sp_never1, sp_signs_lie, sp_is_name, sp_are_names, sp_is_path, sp_names_of, sp_above, sp_a_init]); try simp only [rdAllI, rdI, V.int.injEq, V.ref.injEq, eqQ_int, eqQ_bl, eqQ_str, eqQ_ref, eqQ_nn, eqQ_ni, eqQ_in, eqQ_is, eqQ_si, L2.start, List.map_cons, List.map_nil, List.cons_append, List.nil_append, List.append_nil, List.length_cons, List.length_nil, List.replicate, List.getElem?_cons_zero, List.getElem?_cons_succ, List.set_cons_zero, List.set_cons_succ, Nat.reduceSub, Nat.reduceAdd, Int.reduceLT, Int.reduceLE, Int.reducePow, Int.reduceNeg, Nat.reducePow, List.cons.injEq, exists_eq_left', exists_eq_left, eq_self, if_false, if_true, ↓reduceIte, ite_not, forall_const, Option.join, Option.bind_some, id_eq])
  refine ⟨_, _, _, _, hp, T.cl_Account, T.n_Account_first, ff .., ?_⟩
  ((try dsimp only [sp_is_whole, sp_is_among, sp_is_day, sp_never1, sp_signs_lie, sp_is_name, sp_are_names, sp_is_path, sp_names_of, sp_above, sp_a_init]); try simp only [rdAllI, rdI, V.int.injEq, V.ref.injEq, eqQ_int, eqQ_bl, eqQ_str, eqQ_ref, eqQ_nn, eqQ_ni, eqQ_in, eqQ_is, eqQ_si, L2.start, List.map_cons, List.map_nil, List.cons_append, List.nil_append, List.append_nil, List.length_cons, List.length_nil, List.replicate, List.getElem?_cons_zero, List.getElem?_cons_succ, List.set_cons_zero, List.set_cons_succ, Nat.reduceSub, Nat.reduceAdd, Int.reduceLT, Int.reduceLE, Int.reducePow, Int.reduceNeg, Nat.reducePow, List.cons.injEq, exists_eq_left', exists_eq_left, eq_self, if_false, if_true, ↓reduceIte, ite_not, forall_const, Option.join, Option.bind_some, id_eq])
  split
  · rename_i h1
    refine ⟨_, _, _, _, hp, T.cl_Account, T.n_Account_until, fu .., ?_⟩
    have e : opn f u d = lat u d := by unfold opn; rw [decide_eq_true h1]; rfl
    rw [e] at q
    cases u with
    | none => exact q
    | some t =>
      rw [if_neg (by intro z; cases z)]
      exact ⟨_, _, _, _, hp, T.cl_Account, T.n_Account_until, fu .., ⟨H, Gc.refl, q⟩⟩
  · rename_i h1
    have e : opn f u d = false := by unfold opn; rw [decide_eq_false h1]; rfl
    rw [e] at q; exact q
def sp_later (A : Addr) : Sp := sp2 fun x y H Q _ => NoT H ∧ asR x fun p => asI y fun d => ∃ dx k c f u b, H p = some (.ins A dx (flds k c f (cl u) b)) ∧ Q (.bl (lat u d)) H
theorem ok_Account_stands_later (T : Txt K mg a) : FnOk P w K mg base (XE P w) 1 a.f_Account_stands_later a.fd_Account_stands_later ["self", "day"] (sp_later a.c_Account) := by
  refine T.F_Account_stands_later.okG sc_Account_stands_later (fun vs H Q E h => sp2.len h) (fun cdv A outer s H vs Q E hr h => ?_)
  obtain ⟨x0, x1, rfl, h⟩ := sp2.inv h
  have ND := sc_Account_stands_later.nd
  have PX : Passes' (XE P w) (cxOf (XE P w) P w K mg base ["self", "day"] "Account.stands_later" (defScope s_Account_stands_later) a.f_Account_stands_later cdv A outer s H (gcE H E)) (fun _ => (gcE H E)) := passB
  have RX : Raises (cxOf (XE P w) P w K mg base ["self", "day"] "Account.stands_later" (defScope s_Account_stands_later) a.f_Account_stands_later cdv A outer s H (gcE H E)) (fun _ => (gcE H E)) := raisesB
  have HU : (cxOf (XE P w) P w K mg base ["self", "day"] "Account.stands_later" (defScope s_Account_stands_later) a.f_Account_stands_later cdv A outer s H (gcE H E)).A.units + 100 < cLine := units100 hr
  obtain ⟨hN, h1⟩ := h
  obtain ⟨p, rfl, h2⟩ := asR.inv h1
  obtain ⟨d, rfl, dx, k, c, f, u, b, hp, q⟩ := asI.inv h2
  refine ⟨hN, _, (pss_one (ps_ret (fe_or (pe_cmp (pc_isN (pe_fldK K (fv 0)))) (pe_one (pe_cmpR fo_lt (fv 1) (pe_fldK K (fv 0)) (nomark _)))))), ?_⟩
  ((try dsimp only [sp_is_whole, sp_is_among, sp_is_day, sp_never1, sp_signs_lie, sp_is_name, sp_are_names, sp_is_path, sp_names_of, sp_above, sp_a_init, sp_on]); try simp only [rdAllI, rdI, V.int.injEq, V.ref.injEq, eqQ_int, eqQ_bl, eqQ_str, eqQ_ref, eqQ_nn, eqQ_ni, eqQ_in, eqQ_is, eqQ_si, L2.start, List.map_cons, List.map_nil, List.cons_append, List.nil_append, List.append_nil, List.length_cons, List.length_nil, List.replicate, List.getElem?_cons_zero, List.getElem?_cons_succ, List.set_cons_zero, List.set_cons_succ, Nat.reduceSub, Nat.reduceAdd, Int.reduceLT, Int.reduceLE, Int.reducePow, Int.reduceNeg, Nat.reducePow, List.cons.injEq, exists_eq_left', exists_eq_left, eq_self, if_false, if_true, ↓reduceIte, ite_not, forall_const, Option.join, Option.bind_some, id_eq])
  refine ⟨_, _, _, _, hp, T.cl_Account, T.n_Account_until, fu .., ?_⟩
  cases u with
  | none => exact q
  | some t =>
    rw [if_neg (by intro z; cases z)]
    exact ⟨_, _, _, _, hp, T.cl_Account, T.n_Account_until, fu .., ⟨H, Gc.refl, q⟩⟩
def kyA (c : Acc) : Key × V := (.inr ⟨⟨c.pa⟩⟩, .ref c.ob)
structure AAt (A : Addr) (H : Hp) (c : Acc) : Prop where
  ob : ∃ dx, H c.ob = some (.ins A dx (flds c.ki c.cu (.int c.fi) (cl c.un) (.ref c.bl)))
  ls : H c.bl = some (.lst (c.be.map L2.T))
structure CAt (C A : Addr) (H : Hp) (p d : Addr) (cs : List Acc) : Prop where
  ob : ∃ dx, H p = some (.ins C dx [("by_path", .ref d)])
  dc : H d = some (.dK (cs.map kyA))
  ac : ∀ c ∈ cs, AAt A H c
  np : (cs.map (·.pa)).Nodup
  na : (cs.map (·.ob)).Nodup
  nb : (cs.map (·.bl)).Nodup
theorem CAt.keep {C A : Addr} {S : List Addr} {H H' : Hp} {p d : Addr} {cs : List Acc} (j : CAt C A H p d cs) (x : Keep S H H') (hp : p ∉ S) (hd : d ∉ S) (hc : ∀ c ∈ cs, c.ob ∉ S ∧ c.bl ∉ S) : CAt C A H' p d cs :=
  ⟨by obtain ⟨dx, e⟩ := j.ob; exact ⟨dx, x _ _ e hp⟩, x _ _ j.dc hd, fun c hm => ⟨by obtain ⟨dx, e⟩ := (j.ac c hm).ob; exact ⟨dx, x _ _ e (hc c hm).1⟩, x _ _ (j.ac c hm).ls (hc c hm).2⟩, j.np, j.na, j.nb⟩
theorem CAt.same {C A : Addr} {H H' : Hp} {p d : Addr} {cs : List Acc} (j : CAt C A H p d cs) (x : Same H H') : CAt C A H' p d cs :=
  j.keep (S := []) (Keep.same x) List.not_mem_nil List.not_mem_nil fun _ _ => ⟨List.not_mem_nil, List.not_mem_nil⟩
def fnd (cs : List Acc) (l : List Nat) : Option Acc := cs.find? fun c => decide (c.pa = l)
theorem fnd_val (l : List Nat) : ∀ cs : List Acc, valV (cs.map kyA) (.inr ⟨⟨l⟩⟩) = (fnd cs l).map fun c => .ref c.ob
  | [] => rfl
  | c :: r => by
    have ih := fnd_val l r
    by_cases h : c.pa = l
    · rw [List.map_cons, valV_pos (by show Sum.inr _ = Sum.inr _; rw [h])]
      simp [fnd, h, kyA]
    · rw [List.map_cons, valV_neg (fun z => h (by simpa [kyA] using z)), ih]
      simp [fnd, h]
theorem fnd_mem {cs : List Acc} {l : List Nat} {c : Acc} (h : fnd cs l = some c) : c ∈ cs ∧ c.pa = l :=
  ⟨List.mem_of_find?_eq_some h, by simpa using List.find?_some h⟩
theorem fnd_none {cs : List Acc} {l : List Nat} (h : fnd cs l = none) : ∀ c ∈ cs, c.pa ≠ l := fun c hc => by
  simpa using List.find?_eq_none.mp h c hc
theorem uniq_of {β : Type} {f : Acc → β} : ∀ {cs : List Acc} {c c' : Acc}, (cs.map f).Nodup → c ∈ cs → c' ∈ cs → f c = f c' → c = c'
  | [], _, _, _, h, _, _ => nomatch h
  | x :: r, c, c', hn, h, h', e => by
    rw [List.map_cons, List.nodup_cons] at hn
    rcases List.mem_cons.mp h with h1 | h1
    · rcases List.mem_cons.mp h' with h2 | h2
      · rw [h1, h2]
      · subst h1
        exact absurd (by rw [e]; exact List.mem_map_of_mem h2) hn.1
    · rcases List.mem_cons.mp h' with h2 | h2
      · subst h2
        exact absurd (by rw [← e]; exact List.mem_map_of_mem h1) hn.1
      · exact uniq_of hn.2 h1 h2 e
theorem fnd_of {cs : List Acc} (hn : (cs.map (·.pa)).Nodup) {c : Acc} (hc : c ∈ cs) : fnd cs c.pa = some c := by
  cases e : fnd cs c.pa with
  | none => exact absurd rfl (fnd_none e c hc)
  | some c' =>
    obtain ⟨h1, h2⟩ := fnd_mem e
    rw [uniq_of hn h1 hc h2]
theorem lkp (x : V) : List.lookup (Str.ofString "by_path") [(Str.ofString "by_path", x)] = some x := lk_hit
def sp_c_init (C A : Addr) : Sp := sp1 fun x H Q _ => NoT H ∧ asR x fun p => ∃ dx, H p = some (.ins C dx []) ∧ ∀ d H', H d = none → CAt C A H' p d [] → Keep [p] H H' → NoT H' → Q .non H'
theorem ok_Chart___init__ (T : Txt K mg a) : FnOk P w K mg base (XE P w) 1 a.f_Chart___init__ a.fd_Chart___init__ ["self"] (sp_c_init a.c_Chart a.c_Account) := by
  refine T.F_Chart___init__.okX sc_Chart___init__ (fun vs H Q E h => sp1.len h) (fun cdv A outer s H vs Q E hr h => ?_)
  obtain ⟨x0, rfl, h⟩ := sp1.inv h
  have ND := sc_Chart___init__.nd
  have PX : Passes' (XE P w) (cxOf (XE P w) P w K mg base ["self"] "Chart.__init__" (defScope s_Chart___init__) a.f_Chart___init__ cdv A outer s H E) (fun _ => E) := passB
  have RX : Raises (cxOf (XE P w) P w K mg base ["self"] "Chart.__init__" (defScope s_Chart___init__) a.f_Chart___init__ cdv A outer s H E) (fun _ => E) := raisesB
  have HU : (cxOf (XE P w) P w K mg base ["self"] "Chart.__init__" (defScope s_Chart___init__) a.f_Chart___init__ cdv A outer s H E).A.units + 100 < cLine := units100 hr
  obtain ⟨hN, h1⟩ := h
  obtain ⟨p, rfl, dx, hp, k⟩ := asR.inv h1
  refine ⟨_, (pss_one (ps_fldK K (fv 0) fe_dnew)), ?_⟩
  ((try dsimp only [sp_is_whole, sp_is_among, sp_is_day, sp_never1, sp_signs_lie, sp_is_name, sp_are_names, sp_is_path, sp_names_of, sp_above, sp_a_init, sp_on, sp_later]); try simp only [rdAllI, rdI, V.int.injEq, V.ref.injEq, eqQ_int, eqQ_bl, eqQ_str, eqQ_ref, eqQ_nn, eqQ_ni, eqQ_in, eqQ_is, eqQ_si, L2.start, List.map_cons, List.map_nil, List.cons_append, List.nil_append, List.append_nil, List.length_cons, List.length_nil, List.replicate, List.getElem?_cons_zero, List.getElem?_cons_succ, List.set_cons_zero, List.set_cons_succ, Nat.reduceSub, Nat.reduceAdd, Int.reduceLT, Int.reduceLE, Int.reducePow, Int.reduceNeg, Nat.reducePow, List.cons.injEq, exists_eq_left', exists_eq_left, eq_self, if_false, if_true, ↓reduceIte, ite_not, forall_const, Option.join, Option.bind_some, id_eq])
  intro d hd
  have np : p ≠ d := ne_of_none hp hd
  refine ⟨_, _, _, (upd_ne np).trans hp, T.cl_Chart, T.n_Chart_by_path, by show 0 < 1000; decide, ?_⟩
  refine k d _ hd ⟨⟨dx, ?_⟩, ?_, (fun _ h => nomatch h), .nil, .nil, .nil⟩ ?_ ?_
  · rw [upd_same]; simp [putF]
  · rw [upd_ne (Ne.symm np), upd_same]; rfl
  · exact (Keep.refl.new hd).put (List.mem_singleton.2 rfl)
  · exact noT_upd (noT_upd hN rfl) rfl
def sp_has (C A : Addr) : Sp := sp2 fun x y H Q _ => NoT H ∧ asR x fun p => asT y fun l => ∃ d cs, CAt C A H p d cs ∧ Q (.bl (fnd cs l).isSome) H
theorem ok_Chart_has (T : Txt K mg a) : FnOk P w K mg base (XE P w) 1 a.f_Chart_has a.fd_Chart_has ["self", "path"] (sp_has a.c_Chart a.c_Account) := by
  refine T.F_Chart_has.okG sc_Chart_has (fun vs H Q E h => sp2.len h) (fun cdv A outer s H vs Q E hr h => ?_)
  obtain ⟨x0, x1, rfl, h⟩ := sp2.inv h
  have ND := sc_Chart_has.nd
  have PX : Passes' (XE P w) (cxOf (XE P w) P w K mg base ["self", "path"] "Chart.has" (defScope s_Chart_has) a.f_Chart_has cdv A outer s H (gcE H E)) (fun _ => (gcE H E)) := passB
  have RX : Raises (cxOf (XE P w) P w K mg base ["self", "path"] "Chart.has" (defScope s_Chart_has) a.f_Chart_has cdv A outer s H (gcE H E)) (fun _ => (gcE H E)) := raisesB
  have HU : (cxOf (XE P w) P w K mg base ["self", "path"] "Chart.has" (defScope s_Chart_has) a.f_Chart_has cdv A outer s H (gcE H E)).A.units + 100 < cLine := units100 hr
  obtain ⟨hN, h1⟩ := h
  obtain ⟨p, rfl, h2⟩ := asR.inv h1
  obtain ⟨l, rfl, d, cs, J, k⟩ := asT.inv h2
  obtain ⟨dx, hp⟩ := J.ob
  refine ⟨hN, _, (pss_one (ps_ret (fe_and (pe_callB (fc_isiK K) rfl T.z_isinstance bb_isinstance (FA.pa (fa_cons (fv 1) (fa_cons (pe_bltn (v := .ty "str") rfl T.z_str bb_str rfl) fa_nil)))) (pe_one (pe_cmp (pc_din (Nat.lt_of_le_of_lt (Nat.add_le_add_left (by decide) _) HU) (fv 1) (pe_fldK K (fv 0))) (by with_unfolding_all rfl)))))), ?_⟩
  ((try dsimp only [sp_is_whole, sp_is_among, sp_is_day, sp_never1, sp_signs_lie, sp_is_name, sp_are_names, sp_is_path, sp_names_of, sp_above, sp_a_init, sp_on, sp_later, sp_c_init]); try simp only [rdAllI, rdI, V.int.injEq, V.ref.injEq, eqQ_int, eqQ_bl, eqQ_str, eqQ_ref, eqQ_nn, eqQ_ni, eqQ_in, eqQ_is, eqQ_si, L2.start, List.map_cons, List.map_nil, List.cons_append, List.nil_append, List.append_nil, List.length_cons, List.length_nil, List.replicate, List.getElem?_cons_zero, List.getElem?_cons_succ, List.set_cons_zero, List.set_cons_succ, Nat.reduceSub, Nat.reduceAdd, Int.reduceLT, Int.reduceLE, Int.reducePow, Int.reduceNeg, Nat.reducePow, List.cons.injEq, exists_eq_left', exists_eq_left, eq_self, if_false, if_true, ↓reduceIte, ite_not, forall_const, Option.join, Option.bind_some, id_eq])
  refine ⟨_, _, _, _, hp, T.cl_Chart, T.n_Chart_by_path, lkp _, d, _, rfl, DGet.k (k := .inr ⟨⟨l⟩⟩) J.dc, ?_⟩
  rw [fnd_val, Option.isSome_map]; exact k
def sp_account (C A no : Addr) : Sp := sp2 fun x y H Q E => NoT H ∧ asR x fun p => asT y fun l => ∃ d cs, CAt C A H p d cs ∧ match fnd cs l with | some c => Q (.ref c.ob) H | none => E (.ref no) none H
theorem no_has (x : V) : List.lookup (Str.ofString "has") [(Str.ofString "by_path", x)] = none := by rw [lk_miss (by decide +kernel)]; rfl
theorem no_account (x : V) : List.lookup (Str.ofString "account") [(Str.ofString "by_path", x)] = none := by rw [lk_miss (by decide +kernel)]; rfl
theorem ok_Chart_account (T : Txt K mg a) : FnOk P w K mg base (XE P w) 2 a.f_Chart_account a.fd_Chart_account ["self", "path"] (sp_account a.c_Chart a.c_Account a.c_NoAccount) := by
  refine T.F_Chart_account.okG sc_Chart_account (fun vs H Q E h => sp2.len h) (fun cdv A outer s H vs Q E hr h => ?_)
  obtain ⟨x0, x1, rfl, h⟩ := sp2.inv h
  have ND := sc_Chart_account.nd
  have PX : Passes' (XE P w) (cxOf (XE P w) P w K mg base ["self", "path"] "Chart.account" (defScope s_Chart_account) a.f_Chart_account cdv A outer s H (gcE H E)) (fun _ => (gcE H E)) := passB
  have RX : Raises (cxOf (XE P w) P w K mg base ["self", "path"] "Chart.account" (defScope s_Chart_account) a.f_Chart_account cdv A outer s H (gcE H E)) (fun _ => (gcE H E)) := raisesB
  have HU : (cxOf (XE P w) P w K mg base ["self", "path"] "Chart.account" (defScope s_Chart_account) a.f_Chart_account cdv A outer s H (gcE H E)).A.units + 100 < cLine := units100 hr
  obtain ⟨hN, h1⟩ := h
  obtain ⟨p, rfl, h2⟩ := asR.inv h1
  obtain ⟨l, rfl, d, cs, J, k⟩ := asT.inv h2
  obtain ⟨dx, hp⟩ := J.ob
  have one : 1 ≤ sizeLine := by rw [sizeLine_eq]; decide
  have G_Chart_has := ok_Chart_has (P := P) (w := w) (base := base) T
  have b_Chart_has := bn_Chart_has T.F_Chart_has
  refine ⟨hN, _, (pss_cons (ps_if (pt_not (ft_val (pe_methX (fv 0) T.cl_Chart T.mt_Chart_has G_Chart_has (hr.mono (by decide)) b_Chart_has .nil PX (FA.pa (fa_cons (fv 1) fa_nil))))) (pss_one (ps_raise T.e_NoAccount PySem.F.excBase_ValueError rfl rfl T.m_NoAccount RX (FA.pa (fa_cons (pe_strT [116, 104, 101, 114, 101, 32, 105, 115, 32, 110, 111, 32, 115, 117, 99, 104, 32, 97, 99, 99, 111, 117, 110, 116]) fa_nil)))) pss_nil)
      (pss_one (ps_ret (pe_dget (Nat.lt_of_le_of_lt (Nat.add_le_add_left (by decide) _) HU) (pe_fldK K (fv 0)) (fv 1) (fun _ _ => rfl))))), ?_⟩
  ((try dsimp only [sp_is_whole, sp_is_among, sp_is_day, sp_never1, sp_signs_lie, sp_is_name, sp_are_names, sp_is_path, sp_names_of, sp_above, sp_a_init, sp_on, sp_later, sp_c_init, sp_has]); try simp only [rdAllI, rdI, V.int.injEq, V.ref.injEq, eqQ_int, eqQ_bl, eqQ_str, eqQ_ref, eqQ_nn, eqQ_ni, eqQ_in, eqQ_is, eqQ_si, L2.start, List.map_cons, List.map_nil, List.cons_append, List.nil_append, List.append_nil, List.length_cons, List.length_nil, List.replicate, List.getElem?_cons_zero, List.getElem?_cons_succ, List.set_cons_zero, List.set_cons_succ, Nat.reduceSub, Nat.reduceAdd, Int.reduceLT, Int.reduceLE, Int.reducePow, Int.reduceNeg, Nat.reducePow, List.cons.injEq, exists_eq_left', exists_eq_left, eq_self, if_false, if_true, ↓reduceIte, ite_not, forall_const, Option.join, Option.bind_some, id_eq])
  refine ⟨_, _, hp, no_has _, hN, d, cs, J, ?_⟩
  cases e : fnd cs l with
  | none =>
    rw [e] at k
    split
    · exact ⟨one, k⟩
    · rename_i z; exact absurd rfl z
  | some c =>
    rw [e] at k
    rw [if_neg (by intro z; cases z)]
    refine ⟨_, _, _, _, hp, T.cl_Chart, T.n_Chart_by_path, lkp _, d, .ref c.ob, rfl, ?_, k⟩
    have g := DGet.k (k := .inr ⟨⟨l⟩⟩) J.dc
    rw [fnd_val, e] at g
    exact g
def sp_span (C A : Addr) : Sp := sp2 fun x y H Q _ => NoT H ∧ asR x fun p => asT y fun l => ∃ d cs c, CAt C A H p d cs ∧ c ∈ cs ∧ c.pa = l ∧ ∀ q, H q = none → Q (.ref q) (upd H q (.tup [.int c.fi, cl c.un]))
theorem ok_Chart_span_of (T : Txt K mg a) : FnOk P w K mg base (XE P w) 3 a.f_Chart_span_of a.fd_Chart_span_of ["self", "path"] (sp_span a.c_Chart a.c_Account) := by
  refine T.F_Chart_span_of.okG sc_Chart_span_of (fun vs H Q E h => sp2.len h) (fun cdv A outer s H vs Q E hr h => ?_)
  obtain ⟨x0, x1, rfl, h⟩ := sp2.inv h
  have ND := sc_Chart_span_of.nd
  have PX : Passes' (XE P w) (cxOf (XE P w) P w K mg base ["self", "path", "account"] "Chart.span_of" (defScope s_Chart_span_of) a.f_Chart_span_of cdv A outer s H (gcE H E)) (fun _ => (gcE H E)) := passB
  have RX : Raises (cxOf (XE P w) P w K mg base ["self", "path", "account"] "Chart.span_of" (defScope s_Chart_span_of) a.f_Chart_span_of cdv A outer s H (gcE H E)) (fun _ => (gcE H E)) := raisesB
  have HU : (cxOf (XE P w) P w K mg base ["self", "path", "account"] "Chart.span_of" (defScope s_Chart_span_of) a.f_Chart_span_of cdv A outer s H (gcE H E)).A.units + 100 < cLine := units100 hr
  obtain ⟨hN, h1⟩ := h
  obtain ⟨p, rfl, h2⟩ := asR.inv h1
  obtain ⟨l, rfl, d, cs, c, J, hc, rfl, k⟩ := asT.inv h2
  obtain ⟨dx, hp⟩ := J.ob
  obtain ⟨dc, ho⟩ := (J.ac c hc).ob
  have G_Chart_account := ok_Chart_account (P := P) (w := w) (base := base) T
  have b_Chart_account := bn_Chart_account T.F_Chart_account
  refine ⟨hN, _, (pss_cons (ps_set (i := 2) ND rfl (Or.inl rfl) (pe_methX (fv 0) T.cl_Chart T.mt_Chart_account G_Chart_account (hr.mono (by decide)) b_Chart_account .nil PX (FA.pa (fa_cons (fv 1) fa_nil))))
      (pss_one (ps_ret (pe_tup (FA.pa (fa_cons (pe_fldK K (fv 2)) (fa_cons (pe_fldK K (fv 2)) fa_nil))))))), ?_⟩
  ((try dsimp only [sp_is_whole, sp_is_among, sp_is_day, sp_never1, sp_signs_lie, sp_is_name, sp_are_names, sp_is_path, sp_names_of, sp_above, sp_a_init, sp_on, sp_later, sp_c_init, sp_has, sp_account]); try simp only [rdAllI, rdI, V.int.injEq, V.ref.injEq, eqQ_int, eqQ_bl, eqQ_str, eqQ_ref, eqQ_nn, eqQ_ni, eqQ_in, eqQ_is, eqQ_si, L2.start, List.map_cons, List.map_nil, List.cons_append, List.nil_append, List.append_nil, List.length_cons, List.length_nil, List.replicate, List.getElem?_cons_zero, List.getElem?_cons_succ, List.set_cons_zero, List.set_cons_succ, Nat.reduceSub, Nat.reduceAdd, Int.reduceLT, Int.reduceLE, Int.reducePow, Int.reduceNeg, Nat.reducePow, List.cons.injEq, exists_eq_left', exists_eq_left, eq_self, if_false, if_true, ↓reduceIte, ite_not, forall_const, Option.join, Option.bind_some, id_eq])
  refine ⟨_, _, hp, no_account _, hN, d, cs, J, ?_⟩
  rw [fnd_of J.np hc]
  refine ⟨_, _, _, _, ho, T.cl_Account, T.n_Account_first, ff .., _, _, _, _, ho, T.cl_Account, T.n_Account_until, fu .., by rw [sizeLine_eq]; decide, fun q hq => ?_⟩
  exact ⟨_, Gc.one (same_upd _ hq) hq upd_same rfl, k q hq⟩
def sp_is_open (C A : Addr) : Sp := sp3 fun x y z H Q _ => NoT H ∧ asR x fun p => asT y fun l => asI z fun t => ∃ d cs c, CAt C A H p d cs ∧ c ∈ cs ∧ c.pa = l ∧ Q (.bl (opn c.fi c.un t)) H
theorem ok_Chart_is_open (T : Txt K mg a) : FnOk P w K mg base (XE P w) 3 a.f_Chart_is_open a.fd_Chart_is_open ["self", "path", "day"] (sp_is_open a.c_Chart a.c_Account) := by
  refine T.F_Chart_is_open.okG sc_Chart_is_open (fun vs H Q E h => sp3.len h) (fun cdv A outer s H vs Q E hr h => ?_)
  obtain ⟨x0, x1, x2, rfl, h⟩ := sp3.inv h
  have ND := sc_Chart_is_open.nd
  have PX : Passes' (XE P w) (cxOf (XE P w) P w K mg base ["self", "path", "day"] "Chart.is_open" (defScope s_Chart_is_open) a.f_Chart_is_open cdv A outer s H (gcE H E)) (fun _ => (gcE H E)) := passB
  have RX : Raises (cxOf (XE P w) P w K mg base ["self", "path", "day"] "Chart.is_open" (defScope s_Chart_is_open) a.f_Chart_is_open cdv A outer s H (gcE H E)) (fun _ => (gcE H E)) := raisesB
  have HU : (cxOf (XE P w) P w K mg base ["self", "path", "day"] "Chart.is_open" (defScope s_Chart_is_open) a.f_Chart_is_open cdv A outer s H (gcE H E)).A.units + 100 < cLine := units100 hr
  obtain ⟨hN, h1⟩ := h
  obtain ⟨p, rfl, h2⟩ := asR.inv h1
  obtain ⟨l, rfl, h3⟩ := asT.inv h2
  obtain ⟨t, rfl, d, cs, c, J, hc, rfl, k⟩ := asI.inv h3
  obtain ⟨dx, hp⟩ := J.ob
  obtain ⟨dc, ho⟩ := (J.ac c hc).ob
  have G_Account_stands_on := ok_Account_stands_on (P := P) (w := w) (base := base) T
  have b_Account_stands_on := bn_Account_stands_on T.F_Account_stands_on
  have G_Chart_account := ok_Chart_account (P := P) (w := w) (base := base) T
  have b_Chart_account := bn_Chart_account T.F_Chart_account
  refine ⟨hN, _, (pss_one (ps_ret (pe_methX (pe_methX (fv 0) T.cl_Chart T.mt_Chart_account G_Chart_account (hr.mono (by decide)) b_Chart_account .nil PX (FA.pa (fa_cons (fv 1) fa_nil))) T.cl_Account T.mt_Account_stands_on G_Account_stands_on (hr.mono (by decide)) b_Account_stands_on .nil PX (FA.pa (fa_cons (fv 2) fa_nil))))), ?_⟩
  ((try dsimp only [sp_is_whole, sp_is_among, sp_is_day, sp_never1, sp_signs_lie, sp_is_name, sp_are_names, sp_is_path, sp_names_of, sp_above, sp_a_init, sp_on, sp_later, sp_c_init, sp_has, sp_account, sp_span]); try simp only [rdAllI, rdI, V.int.injEq, V.ref.injEq, eqQ_int, eqQ_bl, eqQ_str, eqQ_ref, eqQ_nn, eqQ_ni, eqQ_in, eqQ_is, eqQ_si, L2.start, List.map_cons, List.map_nil, List.cons_append, List.nil_append, List.append_nil, List.length_cons, List.length_nil, List.replicate, List.getElem?_cons_zero, List.getElem?_cons_succ, List.set_cons_zero, List.set_cons_succ, Nat.reduceSub, Nat.reduceAdd, Int.reduceLT, Int.reduceLE, Int.reducePow, Int.reduceNeg, Nat.reducePow, List.cons.injEq, exists_eq_left', exists_eq_left, eq_self, if_false, if_true, ↓reduceIte, ite_not, forall_const, Option.join, Option.bind_some, id_eq])
  refine ⟨_, _, hp, no_account _, hN, d, cs, J, ?_⟩
  rw [fnd_of J.np hc]
  exact ⟨_, _, ho, f_on .., hN, _, _, _, _, _, _, ho, k⟩
def sp_beneath (C A : Addr) : Sp := sp2 fun x y H Q _ => NoT H ∧ asR x fun p => asT y fun l => ∃ d cs c, CAt C A H p d cs ∧ c ∈ cs ∧ c.pa = l ∧ c.be.length < 64 ∧ ∀ out : List (List Nat), out.Perm c.be → ∀ q, H q = none → Q (.ref q) (upd H q (.lst (out.map L2.T)))
theorem ok_Chart_beneath (T : Txt K mg a) : FnOk P w K mg base (XE P w) 3 a.f_Chart_beneath a.fd_Chart_beneath ["self", "path"] (sp_beneath a.c_Chart a.c_Account) := by
  refine T.F_Chart_beneath.okG sc_Chart_beneath (fun vs H Q E h => sp2.len h) (fun cdv A outer s H vs Q E hr h => ?_)
  obtain ⟨x0, x1, rfl, h⟩ := sp2.inv h
  have ND := sc_Chart_beneath.nd
  have PX : Passes' (XE P w) (cxOf (XE P w) P w K mg base ["self", "path"] "Chart.beneath" (defScope s_Chart_beneath) a.f_Chart_beneath cdv A outer s H (gcE H E)) (fun _ => (gcE H E)) := passB
  have RX : Raises (cxOf (XE P w) P w K mg base ["self", "path"] "Chart.beneath" (defScope s_Chart_beneath) a.f_Chart_beneath cdv A outer s H (gcE H E)) (fun _ => (gcE H E)) := raisesB
  have HU : (cxOf (XE P w) P w K mg base ["self", "path"] "Chart.beneath" (defScope s_Chart_beneath) a.f_Chart_beneath cdv A outer s H (gcE H E)).A.units + 100 < cLine := units100 hr
  obtain ⟨hN, h1⟩ := h
  obtain ⟨p, rfl, h2⟩ := asR.inv h1
  obtain ⟨l, rfl, d, cs, c, J, hc, rfl, h64, k⟩ := asT.inv h2
  obtain ⟨dx, hp⟩ := J.ob
  obtain ⟨dc, ho⟩ := (J.ac c hc).ob
  have G_Chart_account := ok_Chart_account (P := P) (w := w) (base := base) T
  have b_Chart_account := bn_Chart_account T.F_Chart_account
  refine ⟨hN, _, (pss_one (ps_ret (pe_callB (fc_sortS K) rfl T.z_sorted bb_sorted (FA.pa (fa_cons (pe_fldK K (pe_methX (fv 0) T.cl_Chart T.mt_Chart_account G_Chart_account (hr.mono (by decide)) b_Chart_account .nil PX (FA.pa (fa_cons (fv 1) fa_nil)))) fa_nil))))), ?_⟩
  ((try dsimp only [sp_is_whole, sp_is_among, sp_is_day, sp_never1, sp_signs_lie, sp_is_name, sp_are_names, sp_is_path, sp_names_of, sp_above, sp_a_init, sp_on, sp_later, sp_c_init, sp_has, sp_account, sp_span, sp_is_open]); try simp only [rdAllI, rdI, V.int.injEq, V.ref.injEq, eqQ_int, eqQ_bl, eqQ_str, eqQ_ref, eqQ_nn, eqQ_ni, eqQ_in, eqQ_is, eqQ_si, L2.start, List.map_cons, List.map_nil, List.cons_append, List.nil_append, List.append_nil, List.length_cons, List.length_nil, List.replicate, List.getElem?_cons_zero, List.getElem?_cons_succ, List.set_cons_zero, List.set_cons_succ, Nat.reduceSub, Nat.reduceAdd, Int.reduceLT, Int.reduceLE, Int.reducePow, Int.reduceNeg, Nat.reducePow, List.cons.injEq, exists_eq_left', exists_eq_left, eq_self, if_false, if_true, ↓reduceIte, ite_not, forall_const, Option.join, Option.bind_some, id_eq])
  refine ⟨_, _, hp, no_account _, hN, d, cs, J, ?_⟩
  rw [fnd_of J.np hc]
  refine ⟨_, _, _, _, ho, T.cl_Account, T.n_Account_below, fb .., c.be, SqL.of (J.ac c hc).ls, h64, fun out ho _ q hq => ⟨_, Gc.one (same_upd _ hq) hq upd_same rfl, k out ho q hq⟩⟩
def sp_accounts (C A : Addr) : Sp := sp1 fun x H Q _ => NoT H ∧ asR x fun p => ∃ d cs, CAt C A H p d cs ∧ cs.length < 64 ∧ ∀ out : List (List Nat), out.Perm (cs.map (·.pa)) → InO out → ∀ q, H q = none → Q (.ref q) (upd H q (.lst (out.map L2.T)))
theorem ok_Chart_accounts (T : Txt K mg a) : FnOk P w K mg base (XE P w) 1 a.f_Chart_accounts a.fd_Chart_accounts ["self"] (sp_accounts a.c_Chart a.c_Account) := by
  refine T.F_Chart_accounts.okG sc_Chart_accounts (fun vs H Q E h => sp1.len h) (fun cdv A outer s H vs Q E hr h => ?_)
  obtain ⟨x0, rfl, h⟩ := sp1.inv h
  have ND := sc_Chart_accounts.nd
  have PX : Passes' (XE P w) (cxOf (XE P w) P w K mg base ["self"] "Chart.accounts" (defScope s_Chart_accounts) a.f_Chart_accounts cdv A outer s H (gcE H E)) (fun _ => (gcE H E)) := passB
  have RX : Raises (cxOf (XE P w) P w K mg base ["self"] "Chart.accounts" (defScope s_Chart_accounts) a.f_Chart_accounts cdv A outer s H (gcE H E)) (fun _ => (gcE H E)) := raisesB
  have HU : (cxOf (XE P w) P w K mg base ["self"] "Chart.accounts" (defScope s_Chart_accounts) a.f_Chart_accounts cdv A outer s H (gcE H E)).A.units + 100 < cLine := units100 hr
  obtain ⟨hN, h1⟩ := h
  obtain ⟨p, rfl, d, cs, J, h64, k⟩ := asR.inv h1
  obtain ⟨dx, hp⟩ := J.ob
  refine ⟨hN, _, (pss_one (ps_ret (pe_callB (fc_sortD rfl) rfl T.z_sorted bb_sorted (FA.pa (fa_cons (pe_fldK K (fv 0)) fa_nil))))), ?_⟩
  ((try dsimp only [sp_is_whole, sp_is_among, sp_is_day, sp_never1, sp_signs_lie, sp_is_name, sp_are_names, sp_is_path, sp_names_of, sp_above, sp_a_init, sp_on, sp_later, sp_c_init, sp_has, sp_account, sp_span, sp_is_open, sp_beneath]); try simp only [rdAllI, rdI, V.int.injEq, V.ref.injEq, eqQ_int, eqQ_bl, eqQ_str, eqQ_ref, eqQ_nn, eqQ_ni, eqQ_in, eqQ_is, eqQ_si, L2.start, List.map_cons, List.map_nil, List.cons_append, List.nil_append, List.append_nil, List.length_cons, List.length_nil, List.replicate, List.getElem?_cons_zero, List.getElem?_cons_succ, List.set_cons_zero, List.set_cons_succ, Nat.reduceSub, Nat.reduceAdd, Int.reduceLT, Int.reduceLE, Int.reducePow, Int.reduceNeg, Nat.reducePow, List.cons.injEq, exists_eq_left', exists_eq_left, eq_self, if_false, if_true, ↓reduceIte, ite_not, forall_const, Option.join, Option.bind_some, id_eq])
  refine ⟨_, _, _, _, hp, T.cl_Chart, T.n_Chart_by_path, lkp _, _, cs.map (·.pa), J.dc, by rw [List.map_map, List.map_map]; rfl, by rw [List.length_map]; exact h64, fun out h1 h2 q hq => ⟨_, Gc.one (same_upd _ hq) hq upd_same rfl, k out h1 h2 q hq⟩⟩
end
end K8
set_option Elab.async false
set_option linter.all false
set_option maxRecDepth 100000
set_option maxHeartbeats 400000
namespace K8
open PySem L2
seal L2.PE L2.PT L2.PW L2.PA L2.PS L2.PSs L2.PI L2.PG L2.PGs L2.PO
section
variable {pS : Addr} {ns : List Int} {P : Program} {w : World} {K : PySem.W.Frag} {mg : Str → Option Value} {base : Heap} {a : Adr}
theorem nodup_snoc {β : Type} {l : List β} {x : β} (h : l.Nodup) (n : x ∉ l) : (l ++ [x]).Nodup :=
  List.nodup_append.mpr ⟨h, List.nodup_cons.mpr ⟨List.not_mem_nil, List.nodup_nil⟩, fun a ha b hb => by rw [List.mem_singleton.mp hb]; rintro rfl; exact n ha⟩
theorem CAt.bl_d {C A : Addr} {H : Hp} {p d : Addr} {cs : List Acc} (J : CAt C A H p d cs) {c : Acc} (hc : c ∈ cs) : c.bl ≠ d := ne_at (J.ac c hc).ls J.dc (by intro z; cases z)
theorem CAt.ob_d {C A : Addr} {H : Hp} {p d : Addr} {cs : List Acc} (J : CAt C A H p d cs) {c : Acc} (hc : c ∈ cs) : c.ob ≠ d := by
  obtain ⟨dx, e⟩ := (J.ac c hc).ob; exact ne_at e J.dc (by intro z; cases z)
theorem CAt.p_d {C A : Addr} {H : Hp} {p d : Addr} {cs : List Acc} (J : CAt C A H p d cs) : p ≠ d := by
  obtain ⟨dx, e⟩ := J.ob; exact ne_at e J.dc (by intro z; cases z)
theorem CAt.p_bl {C A : Addr} {H : Hp} {p d : Addr} {cs : List Acc} (J : CAt C A H p d cs) {c : Acc} (hc : c ∈ cs) : p ≠ c.bl := by
  obtain ⟨dx, e⟩ := J.ob; exact ne_at e (J.ac c hc).ls (by intro z; cases z)
theorem CAt.ob_bl {C A : Addr} {H : Hp} {p d : Addr} {cs : List Acc} (J : CAt C A H p d cs) {c c' : Acc} (hc : c ∈ cs) (hc' : c' ∈ cs) : c.ob ≠ c'.bl := by
  obtain ⟨dx, e⟩ := (J.ac c hc).ob; exact ne_at e (J.ac c' hc').ls (by intro z; cases z)
theorem putK_kyA {cs : List Acc} {l : List Nat} (h : fnd cs l = none) (c : Acc) (e : c.pa = l) : putK (cs.map kyA) (.inr ⟨⟨l⟩⟩) (.ref c.ob) = (cs ++ [c]).map kyA := by
  rw [putK_new _ (by rw [fnd_val, h]; rfl), List.map_append, ← e]; rfl
theorem CAt.more {C A : Addr} {H H' : Hp} {p d : Addr} {cs : List Acc} (J : CAt C A H p d cs) (kp : Keep [] H H') {c : Acc} (hf : fnd cs c.pa = none) (h0 : H c.ob = none) (h1 : H c.bl = none) (hc : AAt A H' c) :
    CAt C A (upd H' d (.dK ((cs ++ [c]).map kyA))) p d (cs ++ [c]) := by
  have J1 := J.keep kp List.not_mem_nil List.not_mem_nil fun _ _ => ⟨List.not_mem_nil, List.not_mem_nil⟩
  have dn := J1.dc
  obtain ⟨dc, eo⟩ := hc.ob
  have n1 : c.ob ≠ d := ne_at eo dn (by intro z; cases z)
  have n2 : c.bl ≠ d := ne_at hc.ls dn (by intro z; cases z)
  refine ⟨?_, upd_same, fun z hz => ?_, ?_, ?_, ?_⟩
  · obtain ⟨dx, e⟩ := J1.ob
    exact ⟨dx, (upd_ne J1.p_d).trans e⟩
  · rcases List.mem_append.mp hz with hz | hz
    · obtain ⟨dz, e⟩ := (J1.ac z hz).ob
      exact ⟨⟨dz, (upd_ne (J1.ob_d hz)).trans e⟩, (upd_ne (J1.bl_d hz)).trans (J1.ac z hz).ls⟩
    · rw [List.mem_singleton.mp hz]
      exact ⟨⟨dc, (upd_ne n1).trans eo⟩, (upd_ne n2).trans hc.ls⟩
  · rw [List.map_append]
    refine nodup_snoc J.np fun h => ?_
    obtain ⟨z, hz, e⟩ := List.mem_map.mp h
    exact fnd_none hf z hz e
  · rw [List.map_append]
    refine nodup_snoc J.na fun h => ?_
    obtain ⟨z, hz, e⟩ := List.mem_map.mp h
    obtain ⟨dz, eo⟩ := (J.ac z hz).ob
    rw [e, h0] at eo; cases eo
  · rw [List.map_append]
    refine nodup_snoc J.nb fun h => ?_
    obtain ⟨z, hz, e⟩ := List.mem_map.mp h
    have eo := (J.ac z hz).ls
    rw [e, h1] at eo; cases eo
def cost : List Nat := [99, 111, 115, 116]
theorem made_keep {H H' : Hp} {x dx : Addr} {o o' : HO} (hx : H x = none) (hd : H dx = none) (kp : Keep [x] (upd (upd H dx o) x o') H') : Keep [] H H' := fun c z e _ => by
  have n1 : c ≠ x := ne_of_none e hx
  have n2 : c ≠ dx := ne_of_none e hd
  exact kp c z (by rw [upd_ne n1, upd_ne n2]; exact e) (by simpa using n1)
theorem made_free {H : Hp} {x dx b : Addr} {o o' : HO} (h : upd (upd H dx o) x o' b = none) : H b = none := by
  have n1 : b ≠ x := fun z => by rw [z, upd_same] at h; cases h
  rw [upd_ne n1] at h
  have n2 : b ≠ dx := fun z => by rw [z, upd_same] at h; cases h
  rw [upd_ne n2] at h; exact h
def sp_add_top (C A bn tw : Addr) : Sp := sp3 fun x y z H Q E => NoT H ∧ asR x fun p => asT y fun l => ok l ∧ z = L2.T cost ∧ ∃ d cs, CAt C A H p d cs ∧ cs.length ≤ 100 ∧
  if nm l = true then (match fnd cs l with | none => (∀ c H', c.pa = l → c.fi = 0 → c.un = none → c.be = [] → H c.ob = none → H c.bl = none → CAt C A H' p d (cs ++ [c]) → Keep [d] H H' → NoT H' → Q .non H') | some _ => E (.ref tw) none H) else E (.ref bn) none H
theorem kinds_in : inV (L2.T cost) ([[104, 97, 118, 101], [111, 119, 101], [111, 119, 110], [103, 97, 105, 110], [99, 111, 115, 116]].map L2.T) = true := by decide
theorem ok_Chart_add_top (T : Txt K mg a) : FnOk P w K mg base (XE P w) 4 a.f_Chart_add_top a.fd_Chart_add_top ["self", "name", "kind"] (sp_add_top a.c_Chart a.c_Account a.c_BadName a.c_Twice) := by
  refine T.F_Chart_add_top.okX sc_Chart_add_top (fun vs H Q E h => sp3.len h) (fun cdv A outer s H vs Q E hr h => ?_)
  obtain ⟨x0, x1, x2, rfl, h⟩ := sp3.inv h
  have ND := sc_Chart_add_top.nd
  have PX : Passes' (XE P w) (cxOf (XE P w) P w K mg base ["self", "name", "kind"] "Chart.add_top" (defScope s_Chart_add_top) a.f_Chart_add_top cdv A outer s H E) (fun _ => E) := passB
  have RX : Raises (cxOf (XE P w) P w K mg base ["self", "name", "kind"] "Chart.add_top" (defScope s_Chart_add_top) a.f_Chart_add_top cdv A outer s H E) (fun _ => E) := raisesB
  have HU : (cxOf (XE P w) P w K mg base ["self", "name", "kind"] "Chart.add_top" (defScope s_Chart_add_top) a.f_Chart_add_top cdv A outer s H E).A.units + 100 < cLine := units100 hr
  obtain ⟨hN, h1⟩ := h
  obtain ⟨p, rfl, h2⟩ := asR.inv h1
  obtain ⟨l, rfl, hl, rfl, d, cs, J, len, k⟩ := asT.inv h2
  obtain ⟨dx, hp⟩ := J.ob
  have one : 1 ≤ sizeLine := by rw [sizeLine_eq]; decide
  have G_Account___init__ := ok_Account___init__ (P := P) (w := w) (base := base) T
  have b_Account___init__ := bn_Account___init__ T.F_Account___init__
  have G_is_name := ok_is_name (P := P) (w := w) (base := base) T
  have b_is_name := bn_is_name T.F_is_name
  refine ⟨_, (pss_cons (ps_if (pt_not (ft_val (pe_callX G_is_name (hr.mono (by decide)) rfl T.m_is_name T.F_is_name.kp b_is_name .nil PX (FA.pa (fa_cons (fv 1) fa_nil))))) (pss_one (ps_raise T.e_BadName PySem.F.excBase_ValueError rfl rfl T.m_BadName RX (FA.pa (fa_cons (pe_strT [116, 104, 105, 115, 32, 105, 115, 32, 110, 111, 32, 110, 97, 109, 101]) fa_nil)))) pss_nil)
      (pss_cons (ps_if (ft_cmp (fo_notinL K) (fv 2) (pe_glob (v := .ref a.k_KINDS) rfl T.m_KINDS rfl) (by with_unfolding_all rfl)) (pss_one (ps_raise T.e_BadKind PySem.F.excBase_ValueError rfl rfl T.m_BadKind RX (FA.pa (fa_cons (pe_strT [116, 104, 101, 114, 101, 32, 105, 115, 32, 110, 111, 32, 115, 117, 99, 104, 32, 107, 105, 110, 100]) fa_nil)))) pss_nil)
      (pss_cons (ps_if (ft_is (pc_din (Nat.lt_of_le_of_lt (Nat.add_le_add_left (by decide) _) HU) (fv 1) (pe_fldK K (fv 0))) (by with_unfolding_all rfl)) (pss_one (ps_raise T.e_Twice PySem.F.excBase_ValueError rfl rfl T.m_Twice RX (FA.pa (fa_cons (pe_strT [116, 104, 101, 114, 101, 32, 105, 115, 32, 115, 117, 99, 104, 32, 97, 110, 32, 97, 99, 99, 111, 117, 110, 116]) fa_nil)))) pss_nil)
      (pss_one (ps_dput (Nat.lt_of_le_of_lt (Nat.add_le_add_left (by decide) _) HU) (pe_fldK K (fv 0)) (fv 1) (pe_makeX T.mk_Account G_Account___init__ (hr.mono (by decide)) rfl T.m_Account b_Account___init__ .nil PX (FA.pa (fa_cons (fv 2) (fa_cons pe_non (fa_cons pe_int fa_nil))))) rfl))))), ?_⟩
  ((try dsimp only [sp_is_whole, sp_is_among, sp_is_day, sp_never1, sp_signs_lie, sp_is_name, sp_are_names, sp_is_path, sp_names_of, sp_above, sp_a_init, sp_on, sp_later, sp_c_init, sp_has, sp_account]); try simp only [rdAllI, rdI, V.int.injEq, V.ref.injEq, eqQ_int, eqQ_bl, eqQ_str, eqQ_ref, eqQ_nn, eqQ_ni, eqQ_in, eqQ_is, eqQ_si, L2.start, List.map_cons, List.map_nil, List.cons_append, List.nil_append, List.append_nil, List.length_cons, List.length_nil, List.replicate, List.getElem?_cons_zero, List.getElem?_cons_succ, List.set_cons_zero, List.set_cons_succ, Nat.reduceSub, Nat.reduceAdd, Int.reduceLT, Int.reduceLE, Int.reducePow, Int.reduceNeg, Nat.reducePow, List.cons.injEq, exists_eq_left', exists_eq_left, eq_self, if_false, if_true, ↓reduceIte, ite_not, forall_const, Option.join, Option.bind_some, id_eq])
  refine ⟨hN, fun l' e => by cases e; exact hl, ?_⟩
  have en : nameV (L2.T l) = nm l := rfl
  rw [en]
  cases e : nm l with
  | false =>
    rw [e, if_neg (by decide)] at k
    rw [if_pos rfl]
    exact ⟨one, k⟩
  | true =>
    rw [e, if_pos rfl] at k
    rw [if_neg (by decide)]
    refine ⟨_, .inr (.inr T.k_KINDS), rfl, by decide, ?_⟩
    rw [kinds_in, if_neg (by decide)]
    refine ⟨_, _, _, _, hp, T.cl_Chart, T.n_Chart_by_path, lkp _, d, _, rfl, DGet.k (k := .inr ⟨⟨l⟩⟩) J.dc, ?_⟩
    rw [fnd_val, Option.isSome_map]
    cases ef : fnd cs l with
    | some c =>
      rw [ef] at k
      split
      · exact ⟨one, k⟩
      · rename_i z; exact absurd rfl z
    | none =>
      rw [ef] at k
      dsimp only at k
      rw [if_neg (by intro z; cases z)]
      intro x dx hx hdx ne
      refine ⟨noT_upd (noT_upd hN rfl) rfl, _, upd_same, fun b H' hb h1 h2 kp hN' => ?_⟩
      have kp0 := made_keep hx hdx kp
      have J1 := J.keep kp0 List.not_mem_nil List.not_mem_nil fun _ _ => ⟨List.not_mem_nil, List.not_mem_nil⟩
      obtain ⟨dx1, hp1⟩ := J1.ob
      let c : Acc := ⟨l, x, b, L2.T cost, .non, 0, none, []⟩
      have smk : (cs.map kyA).length < sizeLine := by rw [List.length_map, sizeLine_eq]; omega
      refine ⟨_, _, _, _, hp1, T.cl_Chart, T.n_Chart_by_path, lkp _, d, _, rfl, DPut.k (k := .inr ⟨⟨l⟩⟩) J1.dc smk, ?_⟩
      rw [putK_kyA ef c rfl]
      exact k c _ rfl rfl rfl rfl hx (made_free hb) (J.more kp0 ef hx (made_free hb) ⟨⟨dx, h1⟩, h2⟩) ((kp0.mono (fun _ h => nomatch h)).put (.head _)) (noT_upd hN' rfl)
theorem joinN_snoc (s x : List Nat) : ∀ (r : List (List Nat)), r ≠ [] → joinN s (r ++ [x]) = joinN s r ++ s ++ x
  | [], h => absurd rfl h
  | [y], _ => by simp [joinN]
  | y :: z :: r, _ => by
    have := joinN_snoc s x (z :: r) (by simp)
    rw [List.cons_append, List.cons_append, joinN, ← List.cons_append, this, joinN]
    simp
theorem spN_ext {v n : List Nat} (hn : 58 ∉ n) : spN 58 (v ++ 58 :: n) = spN 58 v ++ [n] := by
  have h := spN_join 58 (spN 58 v ++ [n]) (by simp) fun p hp => by
    rcases List.mem_append.mp hp with h | h
    · exact spN_nfree 58 v p h
    · rw [List.mem_singleton.mp h]; exact hn
  rw [joinN_snoc _ _ _ (spN_ne 58 v), join_spN] at h
  rw [← h]; simp
theorem abN_ext {v n : List Nat} (hn : 58 ∉ n) : abN (v ++ 58 :: n) = abN v ++ [v] := by
  unfold abN
  rw [spN_ext hn, List.length_append, List.length_singleton, Nat.add_sub_cancel]
  have hp : 0 < (spN 58 v).length := List.length_pos_iff.mpr (spN_ne 58 v)
  obtain ⟨m, hm⟩ : ∃ m, (spN 58 v).length = m + 1 := ⟨(spN 58 v).length - 1, by omega⟩
  rw [hm, List.range_succ, List.map_append, Nat.add_sub_cancel]
  congr 1
  · apply List.map_congr_left
    intro k hk
    have := List.mem_range.mp hk
    rw [List.take_append_of_le_length (by omega)]
  · rw [List.map_singleton, ← hm, List.take_left', join_spN]
    rfl
theorem abN_top {l : List Nat} (h : 58 ∉ l) : abN l = [] := by
  have e : spN 58 l = [l] := by
    have := spN_join 58 [l] (by simp) fun p hp => by rw [List.mem_singleton.mp hp]; exact h
    simpa [joinN] using this
  unfold abN; rw [e]; rfl
def setA (cs : List Acc) (l : List Nat) (f : Acc → Acc) : List Acc := cs.map fun z => if z.pa = l then f z else z
theorem setA_map {β : Type} {cs : List Acc} {l : List Nat} {f : Acc → Acc} (g : Acc → β) (h : ∀ z, g (f z) = g z) : (setA cs l f).map g = cs.map g := by
  unfold setA
  rw [List.map_map]
  apply List.map_congr_left
  intro z _
  show g (if z.pa = l then f z else z) = g z
  split
  · exact h z
  · rfl
theorem mem_setA {cs : List Acc} {l : List Nat} {f : Acc → Acc} {z : Acc} (h : z ∈ setA cs l f) : ∃ y ∈ cs, z = if y.pa = l then f y else y := by
  obtain ⟨y, hy, e⟩ := List.mem_map.mp h
  exact ⟨y, hy, e.symm⟩
def grw (l : List Nat) (z : Acc) : Acc := { z with be := z.be ++ [l] }
def shu (t : Int) (z : Acc) : Acc := { z with un := some t }
theorem itp {c : Prop} [Decidable c] {t e : Prop} (h : c) (x : t) : ite c t e := by rw [if_pos h]; exact x
theorem itn {c : Prop} [Decidable c] {t e : Prop} (h : ¬ c) (x : e) : ite c t e := by rw [if_neg h]; exact x
theorem CAt.grow {C A : Addr} {H : Hp} {p d : Addr} {cs : List Acc} (J : CAt C A H p d cs) {u : Acc} (hu : u ∈ cs) (l : List Nat) : CAt C A (upd H u.bl (.lst (u.be.map L2.T ++ [L2.T l]))) p d (setA cs u.pa (grw l)) := by
  refine ⟨?_, ?_, fun z hz => ?_, ?_, ?_, ?_⟩
  · obtain ⟨dx, e⟩ := J.ob
    exact ⟨dx, (upd_ne (J.p_bl hu)).trans e⟩
  · rw [setA_map (f := grw l) kyA fun _ => rfl, upd_ne (Ne.symm (J.bl_d hu))]; exact J.dc
  · obtain ⟨y, hy, e⟩ := mem_setA hz
    obtain ⟨dy, ho⟩ := (J.ac y hy).ob
    by_cases h : y.pa = u.pa
    · have : y = u := uniq_of J.np hy hu h
      subst this
      rw [if_pos rfl] at e
      subst e
      exact ⟨⟨dy, (upd_ne (J.ob_bl hy hu)).trans ho⟩, by show upd H y.bl _ y.bl = some (.lst ((y.be ++ [l]).map L2.T)); rw [upd_same, List.map_append]; rfl⟩
    · rw [if_neg h] at e
      subst e
      have nb : z.bl ≠ u.bl := fun q => h (by rw [uniq_of J.nb hy hu q])
      exact ⟨⟨dy, (upd_ne (J.ob_bl hy hu)).trans ho⟩, (upd_ne nb).trans (J.ac z hy).ls⟩
  · rw [setA_map (f := grw l) _ fun _ => rfl]; exact J.np
  · rw [setA_map (f := grw l) _ fun _ => rfl]; exact J.na
  · rw [setA_map (f := grw l) _ fun _ => rfl]; exact J.nb
theorem fnd_setA {cs : List Acc} {v l : List Nat} {f : Acc → Acc} (hf : ∀ z, (f z).pa = z.pa) (h : fnd cs l = none) : fnd (setA cs v f) l = none := by
  refine List.find?_eq_none.mpr fun z hz => ?_
  obtain ⟨y, hy, e⟩ := mem_setA hz
  have := fnd_none h y hy
  subst e
  split
  · simpa [hf] using this
  · simpa using this
def sp_add (C A bp bd tw no nO : Addr) : Sp := sp4 fun x y z u H Q E => NoT H ∧ asR x fun p => asT y fun l => ((∀ c ∈ l, c < 128) ∧ l.length ≤ 199) ∧ z = .non ∧ asI u fun day => ∃ v n, l = v ++ 58 :: n ∧ 58 ∉ n ∧ ∃ d cs, CAt C A H p d cs ∧ cs.length ≤ 100 ∧ (∀ c ∈ cs, c.be.length ≤ 100) ∧
  (∀ e ∈ [bp, bd, tw, no, nO], E (.ref e) none H) ∧
  ∀ u c H', pathN l = true → fnd cs l = none → u ∈ cs → u.pa = v → u.un = none → u.fi ≤ day → 0 ≤ day → c.pa = l → c.fi = day → c.un = none → c.be = [] → H c.ob = none → H c.bl = none → CAt C A H' p d (setA cs v (grw l) ++ [c]) → Keep (d :: cs.map (·.bl)) H H' → NoT H' → Q .non H'
theorem ok_Chart_add (T : Txt K mg a) : FnOk P w K mg base (XE P w) 7 a.f_Chart_add a.fd_Chart_add ["self", "path", "currency", "day"] (sp_add a.c_Chart a.c_Account a.c_BadPath a.c_BadDay a.c_Twice a.c_NoAccount a.c_NotOpen) := by
  refine T.F_Chart_add.okX sc_Chart_add (fun vs H Q E h => sp4.len h) (fun cdv A outer s H vs Q E hr h => ?_)
  obtain ⟨x0, x1, x2, x3, rfl, h⟩ := sp4.inv h
  have ND := sc_Chart_add.nd
  have PX : Passes' (XE P w) (cxOf (XE P w) P w K mg base ["self", "path", "currency", "day", "upper"] "Chart.add" (defScope s_Chart_add) a.f_Chart_add cdv A outer s H E) (fun _ => E) := passB
  have RX : Raises (cxOf (XE P w) P w K mg base ["self", "path", "currency", "day", "upper"] "Chart.add" (defScope s_Chart_add) a.f_Chart_add cdv A outer s H E) (fun _ => E) := raisesB
  have HU : (cxOf (XE P w) P w K mg base ["self", "path", "currency", "day", "upper"] "Chart.add" (defScope s_Chart_add) a.f_Chart_add cdv A outer s H E).A.units + 100 < cLine := units100 hr
  obtain ⟨hN, h1⟩ := h
  obtain ⟨p, rfl, h2⟩ := asR.inv h1
  obtain ⟨l, rfl, hl, rfl, h3⟩ := asT.inv h2
  obtain ⟨day, rfl, v, n, el, hn, d, cs, J, len, lb, bad, k⟩ := asI.inv h3
  obtain ⟨dx, hp⟩ := J.ob
  have one : 1 ≤ sizeLine := by rw [sizeLine_eq]; decide
  have G_Account___init__ := ok_Account___init__ (P := P) (w := w) (base := base) T
  have b_Account___init__ := bn_Account___init__ T.F_Account___init__
  have G_Account_stands_on := ok_Account_stands_on (P := P) (w := w) (base := base) T
  have b_Account_stands_on := bn_Account_stands_on T.F_Account_stands_on
  have G_Chart_account := ok_Chart_account (P := P) (w := w) (base := base) T
  have b_Chart_account := bn_Chart_account T.F_Chart_account
  have G_above := ok_above (P := P) (w := w) (base := base) T
  have b_above := bn_above T.F_above
  have G_is_day := ok_is_day (P := P) (w := w) (base := base) T
  have b_is_day := bn_is_day T.F_is_day
  have G_is_currency := ok_is_currency (P := P) (w := w) (base := base) T
  have b_is_currency := bn_is_currency T.F_is_currency
  have G_names_of := ok_names_of (P := P) (w := w) (base := base) T
  have b_names_of := bn_names_of T.F_names_of
  refine ⟨_, (pss_cons (ps_if (pt_gc (ft_cmp (fo_eqQ K HU) (pe_callB (fc_lenK K) rfl T.z_len bb_len (FA.pa (fa_cons (pe_callX G_names_of (hr.mono (by decide)) rfl T.m_names_of T.F_names_of.kp b_names_of .nil PX (FA.pa (fa_cons (fv 1) fa_nil))) fa_nil))) pe_int (nomark _))) (pss_one (ps_raise T.e_BadPath PySem.F.excBase_ValueError rfl rfl T.m_BadPath RX (FA.pa (fa_cons (pe_strT [97, 32, 115, 105, 110, 103, 108, 101, 32, 110, 97, 109, 101, 32, 105, 115, 32, 97, 32, 116, 111, 112]) fa_nil)))) pss_nil)
      (pss_cons (ps_if (L2.PW.pt (pw_and (ft_is (pc_notN (fv 2))) (pw_and1 (pt_not (ft_val (pe_callX G_is_currency (hr.mono (by decide)) rfl T.m_is_currency T.F_is_currency.kp b_is_currency .nil PX (FA.pa (fa_cons (fv 2) fa_nil)))))))) (pss_one (ps_raise T.e_BadCurrency PySem.F.excBase_ValueError rfl rfl T.m_BadCurrency RX (FA.pa (fa_cons (pe_strT [116, 104, 105, 115, 32, 105, 115, 32, 110, 111, 32, 99, 117, 114, 114, 101, 110, 99, 121]) fa_nil)))) pss_nil)
      (pss_cons (ps_if (pt_not (ft_val (pe_callX G_is_day (hr.mono (by decide)) rfl T.m_is_day T.F_is_day.kp b_is_day .nil PX (FA.pa (fa_cons (fv 3) fa_nil))))) (pss_one (ps_raise T.e_BadDay PySem.F.excBase_ValueError rfl rfl T.m_BadDay RX (FA.pa (fa_cons (pe_strT [116, 104, 105, 115, 32, 105, 115, 32, 110, 111, 32, 100, 97, 121]) fa_nil)))) pss_nil)
      (pss_cons (ps_if (ft_is (pc_din (Nat.lt_of_le_of_lt (Nat.add_le_add_left (by decide) _) HU) (fv 1) (pe_fldK K (fv 0))) (by with_unfolding_all rfl)) (pss_one (ps_raise T.e_Twice PySem.F.excBase_ValueError rfl rfl T.m_Twice RX (FA.pa (fa_cons (pe_strT [116, 104, 101, 114, 101, 32, 105, 115, 32, 115, 117, 99, 104, 32, 97, 110, 32, 97, 99, 99, 111, 117, 110, 116]) fa_nil)))) pss_nil)
      (pss_cons (ps_set (i := 4) ND rfl (Or.inl rfl) (pe_methX (fv 0) T.cl_Chart T.mt_Chart_account G_Chart_account (hr.mono (by decide)) b_Chart_account .nil PX (FA.pa (fa_cons (pe_gc (pe_ix (fx_seqK K) (pe_callX G_above (hr.mono (by decide)) rfl T.m_above T.F_above.kp b_above .nil PX (FA.pa (fa_cons (fv 1) fa_nil))) (pe_un fu_neg pe_int) (fun _ _ => rfl))) fa_nil))))
      (pss_cons (ps_if (L2.PW.pt (pw_or (ft_is (pc_notN (pe_fldK K (fv 4)))) (pw_or1 (pt_not (ft_val (pe_methX (fv 4) T.cl_Account T.mt_Account_stands_on G_Account_stands_on (hr.mono (by decide)) b_Account_stands_on .nil PX (FA.pa (fa_cons (fv 3) fa_nil)))))))) (pss_one (ps_raise T.e_NotOpen PySem.F.excBase_ValueError rfl rfl T.m_NotOpen RX (FA.pa (fa_cons (pe_strT [116, 104, 101, 32, 97, 99, 99, 111, 117, 110, 116, 32, 97, 98, 111, 118, 101, 32, 105, 115, 110, 39, 116, 32, 111, 112, 101, 110]) fa_nil)))) pss_nil)
      (pss_cons (ps_expr (pe_bmK K PySem.F.plainAttrs_list PySem.F.slot_list_append PySem.F.type_list_append mt_append (pe_fldK K (fv 4)) (FA.pa (fa_cons (fv 1) fa_nil))))
      (pss_one (ps_dput (Nat.lt_of_le_of_lt (Nat.add_le_add_left (by decide) _) HU) (pe_fldK K (fv 0)) (fv 1) (pe_makeX T.mk_Account G_Account___init__ (hr.mono (by decide)) rfl T.m_Account b_Account___init__ .nil PX (FA.pa (fa_cons (pe_fldK K (fv 4)) (fa_cons (fv 2) (fa_cons (fv 3) fa_nil))))) rfl))))))))), ?_⟩
  ((try dsimp only [sp_is_whole, sp_is_among, sp_is_day, sp_never1, sp_signs_lie, sp_is_name, sp_are_names, sp_is_path, sp_names_of, sp_above, sp_a_init, sp_on, sp_later, sp_c_init, sp_has, sp_account, sp_add_top]); try simp only [rdAllI, rdI, V.int.injEq, V.ref.injEq, eqQ_int, eqQ_bl, eqQ_str, eqQ_ref, eqQ_nn, eqQ_ni, eqQ_in, eqQ_is, eqQ_si, L2.start, List.map_cons, List.map_nil, List.cons_append, List.nil_append, List.append_nil, List.length_cons, List.length_nil, List.replicate, List.getElem?_cons_zero, List.getElem?_cons_succ, List.set_cons_zero, List.set_cons_succ, Nat.reduceSub, Nat.reduceAdd, Int.reduceLT, Int.reduceLE, Int.reducePow, Int.reduceNeg, Nat.reducePow, List.cons.injEq, exists_eq_left', exists_eq_left, eq_self, if_false, if_true, ↓reduceIte, ite_not, forall_const, Option.join, Option.bind_some, id_eq])
  have eb : ∀ e, e ∈ [a.c_BadPath, a.c_BadDay, a.c_Twice, a.c_NoAccount, a.c_NotOpen] → E (Value.ref e) none H := bad
  refine ⟨hN, hN, fun l' e => by cases e; exact hl, ?_⟩
  have ep : pathV (L2.T l) = pathN l := rfl
  rw [ep]
  cases e : pathN l with
  | false =>
    rw [if_neg (by decide)]
    exact eb _ (.head _)
  | true =>
    rw [if_pos rfl]
    intro q hq
    refine ⟨_, .inl (SqL.of upd_same), H, Gc.none (same_upd _ hq), ?_⟩
    rw [List.length_map, el, spN_ext hn, List.length_append, if_neg (by
      have hp : 0 < (spN 58 v).length := List.length_pos_iff.mpr (spN_ne 58 v)
      simp only [List.length_singleton]; omega)]
    rw [← el]
    refine ⟨hN, ?_⟩
    cases ed : amg (.int day) 0 146096 with
    | false =>
      rw [if_pos rfl]
      exact ⟨one, eb _ (.tail _ (.head _))⟩
    | true =>
      rw [if_neg (by decide)]
      refine ⟨_, _, _, _, hp, T.cl_Chart, T.n_Chart_by_path, lkp _, d, _, rfl, DGet.k (k := .inr ⟨⟨l⟩⟩) J.dc, ?_⟩
      rw [fnd_val, Option.isSome_map]
      cases ef : fnd cs l with
      | some c =>
        split
        · exact ⟨one, eb _ (.tail _ (.tail _ (.head _)))⟩
        · rename_i z; exact absurd rfl z
      | none =>
        rw [if_neg (by intro z; cases z)]
        refine ⟨_, _, hp, no_account _, hN, hN, hl, fun q2 hq2 => ⟨_, L2.T v, .inl (SqL.of upd_same), ?_, ?_⟩⟩
        · rw [el, abN_ext hn, List.map_append]; exact atI_last _ _
        refine ⟨H, Gc.none (same_upd _ hq2), hN, ?_⟩
        ((try dsimp only [sp_is_whole, sp_is_among, sp_is_day, sp_never1, sp_signs_lie, sp_is_name, sp_are_names, sp_is_path, sp_names_of, sp_above, sp_a_init, sp_on, sp_later, sp_c_init, sp_has, sp_account, sp_add_top]); try simp only [rdAllI, rdI, V.int.injEq, V.ref.injEq, eqQ_int, eqQ_bl, eqQ_str, eqQ_ref, eqQ_nn, eqQ_ni, eqQ_in, eqQ_is, eqQ_si, L2.start, List.map_cons, List.map_nil, List.cons_append, List.nil_append, List.append_nil, List.length_cons, List.length_nil, List.replicate, List.getElem?_cons_zero, List.getElem?_cons_succ, List.set_cons_zero, List.set_cons_succ, Nat.reduceSub, Nat.reduceAdd, Int.reduceLT, Int.reduceLE, Int.reducePow, Int.reduceNeg, Nat.reducePow, List.cons.injEq, exists_eq_left', exists_eq_left, eq_self, if_false, if_true, ↓reduceIte, ite_not, forall_const, Option.join, Option.bind_some, id_eq])
        refine ⟨d, cs, J, ?_⟩
        cases eu : fnd cs v with
        | none => exact eb _ (.tail _ (.tail _ (.tail _ (.head _))))
        | some u =>
          obtain ⟨hu, pu⟩ := fnd_mem eu
          obtain ⟨du, ho⟩ := (J.ac u hu).ob
          refine ⟨_, _, _, _, ho, T.cl_Account, T.n_Account_until, fu .., ?_⟩
          have nO : E (Value.ref a.c_NotOpen) none H := eb _ (.tail _ (.tail _ (.tail _ (.tail _ (.head _)))))
          cases un : u.un with
          | some t =>
            rw [if_neg (by intro z; cases z)]
            exact ⟨one, nO⟩
          | none =>
            refine itp rfl ⟨_, _, ho, f_on .., hN, _, _, _, _, _, _, ho, ?_⟩
            cases eo : opn u.fi u.un day with
            | false => exact itp rfl ⟨one, nO⟩
            | true =>
              have sml : (u.be.map L2.T).length < sizeLine := by have := lb u hu; rw [List.length_map, sizeLine_eq]; omega
              refine itn (by decide) ⟨_, _, _, _, ho, T.cl_Account, T.n_Account_below, fb .., .inl ⟨rfl, _, SqL.of (J.ac u hu).ls⟩, u.bl, _, _, rfl, rfl, (J.ac u hu).ls, sml, ?_⟩
              have J1 := J.grow hu l
              have N1 : NoT (upd H u.bl (.lst (u.be.map L2.T ++ [L2.T l]))) := noT_upd hN rfl
              have ho1 := (upd_ne (o := .lst (u.be.map L2.T ++ [L2.T l])) (J.ob_bl hu hu)).trans ho
              have K1 : Keep (d :: cs.map (·.bl)) H (upd H u.bl (.lst (u.be.map L2.T ++ [L2.T l]))) := Keep.refl.put (.tail _ (List.mem_map_of_mem hu))
              generalize upd H u.bl (.lst (u.be.map L2.T ++ [L2.T l])) = H1 at J1 N1 ho1 K1 ⊢
              refine ⟨_, _, _, _, ho1, T.cl_Account, T.n_Account_kind, fk .., fun x dx1 hx hdx ne => ?_⟩
              refine ⟨noT_upd (noT_upd N1 rfl) rfl, _, upd_same, fun b H' hb h1 h2 kp hN' => ?_⟩
              have kp0 := made_keep hx hdx kp
              have J2 := J1.keep kp0 List.not_mem_nil List.not_mem_nil fun _ _ => ⟨List.not_mem_nil, List.not_mem_nil⟩
              obtain ⟨dx2, hp2⟩ := J2.ob
              let c : Acc := ⟨l, x, b, u.ki, .non, day, none, []⟩
              have smk : ((setA cs u.pa (grw l)).map kyA).length < sizeLine := by rw [setA_map (f := grw l) kyA fun _ => rfl, List.length_map, sizeLine_eq]; omega
              have ef1 : fnd (setA cs u.pa (grw l)) l = none := fnd_setA (fun _ => rfl) ef
              refine ⟨_, _, _, _, hp2, T.cl_Chart, T.n_Chart_by_path, lkp _, d, _, rfl, DPut.k (k := .inr ⟨⟨l⟩⟩) J2.dc smk, ?_⟩
              rw [putK_kyA ef1 c rfl]
              have n58 : ∀ q, H1 q = none → H q = none := fun q hq => by
                cases z : H q with
                | none => rfl
                | some o =>
                  by_cases hm : q ∈ d :: cs.map (·.bl)
                  · rcases List.mem_cons.mp hm with rfl | hm
                    · rw [J1.dc] at hq; cases hq
                    · obtain ⟨y, hy, rfl⟩ := List.mem_map.mp hm
                      have : (if y.pa = u.pa then grw l y else y) ∈ setA cs u.pa (grw l) := List.mem_map.mpr ⟨y, hy, rfl⟩
                      have q1 := (J1.ac _ this).ls
                      have e1 : (if y.pa = u.pa then grw l y else y).bl = y.bl := by split <;> rfl
                      rw [e1, hq] at q1; cases q1
                  · rw [K1 q o z hm] at hq; cases hq
              obtain ⟨d0, ed0, dd0, dd1⟩ := amg_inv ed
              cases ed0
              have h0 : u.fi ≤ day := by
                unfold opn at eo
                exact of_decide_eq_true (Bool.and_eq_true_iff.mp eo).1
              have J3 := J1.more kp0 (c := c) ef1 hx (made_free hb) ⟨⟨dx1, h1⟩, h2⟩
              rw [pu] at J3 ⊢
              exact k u c _ e ef hu pu un h0 dd0 rfl rfl rfl rfl (n58 _ hx) (n58 _ (made_free hb)) J3 ((K1.trans (kp0.mono (fun _ h => nomatch h))).put (.head _)) (noT_upd hN' rfl)
end
end K8
set_option Elab.async false
set_option linter.all false
set_option maxRecDepth 100000
set_option maxHeartbeats 400000
namespace K8
open PySem L2
seal L2.PE L2.PT L2.PW L2.PA L2.PS L2.PSs L2.PI L2.PG L2.PGs L2.PO
section
variable {pS : Addr} {ns : List Int} {P : Program} {w : World} {K : PySem.W.Frag} {mg : Str → Option Value} {base : Heap} {a : Adr}
theorem CAt.shutA {C A : Addr} {H : Hp} {p d : Addr} {cs : List Acc} (J : CAt C A H p d cs) {u : Acc} (hu : u ∈ cs) (t : Int) {dx : Addr} (ho : H u.ob = some (.ins A dx (flds u.ki u.cu (.int u.fi) (cl u.un) (.ref u.bl)))) : CAt C A (upd H u.ob (.ins A dx (flds u.ki u.cu (.int u.fi) (.int t) (.ref u.bl)))) p d (setA cs u.pa (shu t)) := by
  have pob : p ≠ u.ob ∨ p = u.ob := (Decidable.em _).symm
  refine ⟨?_, ?_, fun z hz => ?_, ?_, ?_, ?_⟩
  · obtain ⟨dp, e⟩ := J.ob
    have : p ≠ u.ob := ne_at e ho (by intro z; cases z)
    exact ⟨dp, (upd_ne this).trans e⟩
  · rw [setA_map (f := shu t) kyA fun _ => rfl, upd_ne (Ne.symm (J.ob_d hu))]; exact J.dc
  · obtain ⟨y, hy, e⟩ := mem_setA hz
    obtain ⟨dy, hoy⟩ := (J.ac y hy).ob
    by_cases h : y.pa = u.pa
    · have : y = u := uniq_of J.np hy hu h
      subst this
      rw [if_pos rfl] at e
      subst e
      exact ⟨⟨dx, upd_same⟩, (upd_ne (Ne.symm (J.ob_bl hy hu))).trans (J.ac y hy).ls⟩
    · rw [if_neg h] at e
      subst e
      have nb : z.ob ≠ u.ob := fun q => h (by rw [uniq_of J.na hy hu q])
      exact ⟨⟨dy, (upd_ne nb).trans hoy⟩, (upd_ne (Ne.symm (J.ob_bl hu hy))).trans (J.ac z hy).ls⟩
  · rw [setA_map (f := shu t) _ fun _ => rfl]; exact J.np
  · rw [setA_map (f := shu t) _ fun _ => rfl]; exact J.na
  · rw [setA_map (f := shu t) _ fun _ => rfl]; exact J.nb
def latV (as : List Acc) (day : Int) : V → Bool
  | .str y => (match fnd as y.cps.toList with | some c => lat c.un day | none => true)
  | _ => true
theorem lat_false {u : Option Int} {d : Int} (h : lat u d = false) : ∃ t, u = some t ∧ t ≤ d := by
  cases u with
  | none => cases h
  | some t => exact ⟨t, rfl, by have := of_decide_eq_false h; omega⟩
def sp_shut (C A bp bd no nO hb : Addr) : Sp := sp3 fun x y z H Q E => NoT H ∧ asR x fun p => asT y fun l => ((∀ c ∈ l, c < 128) ∧ l.length ≤ 199) ∧ asI z fun day => ∃ d cs, CAt C A H p d cs ∧ (∀ c ∈ cs, c.be.length ≤ 100 ∧ ∀ x ∈ c.be, ∃ y ∈ cs, y.pa = x) ∧
  (∀ e ∈ [bp, bd, no, nO, hb], E (.ref e) none H) ∧
  ∀ u H', u ∈ cs → u.pa = l → u.un = none → u.fi < day → (∀ x ∈ u.be, ∀ y ∈ cs, y.pa = x → ∃ t, y.un = some t ∧ t ≤ day) → CAt C A H' p d (setA cs l (shu day)) → Keep (cs.map (·.ob)) H H' → NoT H' → Q .non H'
theorem ok_Chart_shut (T : Txt K mg a) : FnOk P w K mg base (XE P w) 6 a.f_Chart_shut a.fd_Chart_shut ["self", "path", "day"] (sp_shut a.c_Chart a.c_Account a.c_BadPath a.c_BadDay a.c_NoAccount a.c_NotOpen a.c_HasBelow) := by
  refine T.F_Chart_shut.okX sc_Chart_shut (fun vs H Q E h => sp3.len h) (fun cdv A outer s H vs Q E hr h => ?_)
  obtain ⟨x0, x1, x2, rfl, h⟩ := sp3.inv h
  have ND := sc_Chart_shut.nd
  have PX : Passes' (XE P w) (cxOf (XE P w) P w K mg base ["self", "path", "day", "account"] "Chart.shut" (defScope s_Chart_shut) a.f_Chart_shut cdv A outer s H E) (fun _ => E) := passB
  have RX : Raises (cxOf (XE P w) P w K mg base ["self", "path", "day", "account"] "Chart.shut" (defScope s_Chart_shut) a.f_Chart_shut cdv A outer s H E) (fun _ => E) := raisesB
  have HU : (cxOf (XE P w) P w K mg base ["self", "path", "day", "account"] "Chart.shut" (defScope s_Chart_shut) a.f_Chart_shut cdv A outer s H E).A.units + 100 < cLine := units100 hr
  obtain ⟨hN, h1⟩ := h
  obtain ⟨p, rfl, h2⟩ := asR.inv h1
  obtain ⟨l, rfl, hl, h3⟩ := asT.inv h2
  obtain ⟨day, rfl, d, cs, J, lb, bad, k⟩ := asI.inv h3
  obtain ⟨dx, hp⟩ := J.ob
  have one : 1 ≤ sizeLine := by rw [sizeLine_eq]; decide
  have G_Account_stands_later := ok_Account_stands_later (P := P) (w := w) (base := base) T
  have b_Account_stands_later := bn_Account_stands_later T.F_Account_stands_later
  have G_is_day := ok_is_day (P := P) (w := w) (base := base) T
  have b_is_day := bn_is_day T.F_is_day
  have G_Chart_account := ok_Chart_account (P := P) (w := w) (base := base) T
  have b_Chart_account := bn_Chart_account T.F_Chart_account
  have G_is_path := ok_is_path (P := P) (w := w) (base := base) T
  have b_is_path := bn_is_path T.F_is_path
  refine ⟨_, (pss_cons (ps_if (pt_not (ft_val (pe_callX G_is_path (hr.mono (by decide)) rfl T.m_is_path T.F_is_path.kp b_is_path .nil PX (FA.pa (fa_cons (fv 1) fa_nil))))) (pss_one (ps_raise T.e_BadPath PySem.F.excBase_ValueError rfl rfl T.m_BadPath RX (FA.pa (fa_cons (pe_strT [116, 104, 105, 115, 32, 105, 115, 32, 110, 111, 32, 112, 97, 116, 104]) fa_nil)))) pss_nil)
      (pss_cons (ps_set (i := 3) ND rfl (Or.inl rfl) (pe_methX (fv 0) T.cl_Chart T.mt_Chart_account G_Chart_account (hr.mono (by decide)) b_Chart_account .nil PX (FA.pa (fa_cons (fv 1) fa_nil))))
      (pss_cons (ps_if (L2.PW.pt (pw_or (pt_not (ft_val (pe_callX G_is_day (hr.mono (by decide)) rfl T.m_is_day T.F_is_day.kp b_is_day .nil PX (FA.pa (fa_cons (fv 2) fa_nil))))) (pw_or1 (ft_cmp fo_le (fv 2) (pe_fldK K (fv 3)) (nomark _))))) (pss_one (ps_raise T.e_BadDay PySem.F.excBase_ValueError rfl rfl T.m_BadDay RX (FA.pa (fa_cons (pe_strT [116, 104, 105, 115, 32, 105, 115, 32, 110, 111, 32, 100, 97, 121, 32, 98, 101, 104, 105, 110, 100, 32, 116, 104, 101, 32, 97, 99, 99, 111, 117, 110, 116, 39, 115, 32, 102, 105, 114, 115, 116, 32, 111, 110, 101]) fa_nil)))) pss_nil)
      (pss_cons (ps_if (ft_is (pc_notN (pe_fldK K (fv 3)))) (pss_one (ps_raise T.e_NotOpen PySem.F.excBase_ValueError rfl rfl T.m_NotOpen RX (FA.pa (fa_cons (pe_strT [116, 104, 101, 32, 97, 99, 99, 111, 117, 110, 116, 32, 119, 97, 115, 32, 115, 104, 117, 116]) fa_nil)))) pss_nil)
      (pss_cons (ps_if (pt_gc (ft_val (pe_callB (fc_anyK K rfl) rfl T.z_any bb_any (FA.pa (fa_cons (pe_comp rfl (cl := _) (fr := ["day", "self"]) (ks := [2, 0]) (by exact ⟨rfl, by decide +kernel, rfl, by decide +kernel, rfl, keys_of rfl, rfl, kinds_of rfl, kinds_of (k := fun y => List.lookup y _) rfl, only_of rfl⟩) rfl (by decide) (fi_listK K (pe_fldK K (fv 3))) (fun _ _ _ _ _ => pts_nil) (fun _ _ _ _ _ => (pe_methX (pe_dget (Nat.lt_of_le_of_lt (Nat.add_le_add_left (by decide) _) HU) (pe_fldK K (fv 2)) (fv 0) (fun _ _ => rfl)) T.cl_Account T.mt_Account_stands_later G_Account_stands_later (hr.mono (by decide)) b_Account_stands_later .nil passF (FA.pa (fa_cons (fv 1) fa_nil))))) fa_nil))))) (pss_one (ps_raise T.e_HasBelow PySem.F.excBase_ValueError rfl rfl T.m_HasBelow RX (FA.pa (fa_cons (pe_strT [97, 110, 32, 97, 99, 99, 111, 117, 110, 116, 32, 98, 101, 110, 101, 97, 116, 104, 32, 105, 115, 32, 111, 112, 101, 110, 32, 116, 104, 101, 110]) fa_nil)))) pss_nil)
      (pss_one (ps_fldK K (fv 3) (fv 2)))))))), ?_⟩
  ((try dsimp only [sp_is_whole, sp_is_among, sp_is_day, sp_never1, sp_signs_lie, sp_is_name, sp_are_names, sp_is_path, sp_names_of, sp_above, sp_a_init, sp_on, sp_later, sp_c_init, sp_has, sp_account, sp_add_top, sp_add]); try simp only [rdAllI, rdI, V.int.injEq, V.ref.injEq, eqQ_int, eqQ_bl, eqQ_str, eqQ_ref, eqQ_nn, eqQ_ni, eqQ_in, eqQ_is, eqQ_si, L2.start, List.map_cons, List.map_nil, List.cons_append, List.nil_append, List.append_nil, List.length_cons, List.length_nil, List.replicate, List.getElem?_cons_zero, List.getElem?_cons_succ, List.set_cons_zero, List.set_cons_succ, Nat.reduceSub, Nat.reduceAdd, Int.reduceLT, Int.reduceLE, Int.reducePow, Int.reduceNeg, Nat.reducePow, List.cons.injEq, exists_eq_left', exists_eq_left, eq_self, if_false, if_true, ↓reduceIte, ite_not, forall_const, Option.join, Option.bind_some, id_eq])
  refine ⟨hN, fun l' e => by cases e; exact hl, ?_⟩
  have ep : pathV (L2.T l) = pathN l := rfl
  rw [ep]
  cases e : pathN l with
  | false => exact itp rfl ⟨one, bad _ (.head _)⟩
  | true =>
    refine itn (by decide) ⟨_, _, hp, no_account _, hN, d, cs, J, ?_⟩
    cases eu : fnd cs l with
    | none => exact bad _ (.tail _ (.tail _ (.head _)))
    | some u =>
      obtain ⟨hu, pu⟩ := fnd_mem eu
      obtain ⟨du, ho⟩ := (J.ac u hu).ob
      dsimp only
      refine ⟨hN, ?_⟩
      cases ed : amg (.int day) 0 146096 with
      | false => exact itp rfl ⟨one, bad _ (.tail _ (.head _))⟩
      | true =>
        refine itn (by decide) ⟨_, _, _, _, ho, T.cl_Account, T.n_Account_first, ff .., ?_⟩
        ((try dsimp only [sp_is_whole, sp_is_among, sp_is_day, sp_never1, sp_signs_lie, sp_is_name, sp_are_names, sp_is_path, sp_names_of, sp_above, sp_a_init, sp_on, sp_later, sp_c_init, sp_has, sp_account, sp_add_top, sp_add]); try simp only [rdAllI, rdI, V.int.injEq, V.ref.injEq, eqQ_int, eqQ_bl, eqQ_str, eqQ_ref, eqQ_nn, eqQ_ni, eqQ_in, eqQ_is, eqQ_si, L2.start, List.map_cons, List.map_nil, List.cons_append, List.nil_append, List.append_nil, List.length_cons, List.length_nil, List.replicate, List.getElem?_cons_zero, List.getElem?_cons_succ, List.set_cons_zero, List.set_cons_succ, Nat.reduceSub, Nat.reduceAdd, Int.reduceLT, Int.reduceLE, Int.reducePow, Int.reduceNeg, Nat.reducePow, List.cons.injEq, exists_eq_left', exists_eq_left, eq_self, if_false, if_true, ↓reduceIte, ite_not, forall_const, Option.join, Option.bind_some, id_eq])
        by_cases hd : day ≤ u.fi
        · exact itp hd ⟨one, bad _ (.tail _ (.head _))⟩
        · refine itn hd ⟨_, _, _, _, ho, T.cl_Account, T.n_Account_until, fu .., ?_⟩
          cases un : u.un with
          | some t => exact itn (by intro z; cases z) ⟨one, bad _ (.tail _ (.tail _ (.tail _ (.head _))))⟩
          | none =>
            refine itp rfl ⟨hN, ?_⟩
            have hS : SqL K H u.bl (u.be.map L2.T) := SqL.of (J.ac u hu).ls
            have sz : 1000 ≤ sizeLine := by rw [sizeLine_eq]; decide
            have lu := lb u hu
            refine comp_lst u.bl (u.be.map L2.T) (fun H' => NoT H' ∧ Same H H') (fun D ys hD => ⟨noT_upd hN rfl, same_upd _ hD⟩) (fun H' c => hS.same c.2) (fun _ => true) (fun x => .bl (latV cs day x)) (fun R r => ?_) hS (by rw [List.length_map]; omega) (fun x _ H' R _ r => r) (fun x hx _ H' R c r => ?_) (fun D hD => ?_)
            · ((try dsimp only [sp_is_whole, sp_is_among, sp_is_day, sp_never1, sp_signs_lie, sp_is_name, sp_are_names, sp_is_path, sp_names_of, sp_above, sp_a_init, sp_on, sp_later, sp_c_init, sp_has, sp_account, sp_add_top, sp_add]); try simp only [rdAllI, rdI, V.int.injEq, V.ref.injEq, eqQ_int, eqQ_bl, eqQ_str, eqQ_ref, eqQ_nn, eqQ_ni, eqQ_in, eqQ_is, eqQ_si, L2.start, List.map_cons, List.map_nil, List.cons_append, List.nil_append, List.append_nil, List.length_cons, List.length_nil, List.replicate, List.getElem?_cons_zero, List.getElem?_cons_succ, List.set_cons_zero, List.set_cons_succ, Nat.reduceSub, Nat.reduceAdd, Int.reduceLT, Int.reduceLE, Int.reducePow, Int.reduceNeg, Nat.reducePow, List.cons.injEq, exists_eq_left', exists_eq_left, eq_self, if_false, if_true, ↓reduceIte, ite_not, forall_const, Option.join, Option.bind_some, id_eq])
              exact ⟨_, _, _, _, ho, T.cl_Account, T.n_Account_below, fb .., r⟩
            · obtain ⟨l', hl', rfl⟩ := List.mem_map.mp hx
              obtain ⟨y, hy, py⟩ := lu.2 l' hl'
              have J1 := J.same c.2
              obtain ⟨dx1, hp1⟩ := J1.ob
              obtain ⟨dy, hoy⟩ := (J1.ac y hy).ob
              have fy : fnd cs l' = some y := by rw [← py]; exact fnd_of J.np hy
              have r' : R (.bl (lat y.un day)) H' := by
                have e1 : latV cs day (L2.T l') = lat y.un day := by
                  show (match fnd cs l' with | some c => lat c.un day | none => true) = _
                  rw [fy]
                rw [e1] at r; exact r
              ((try dsimp only [sp_is_whole, sp_is_among, sp_is_day, sp_never1, sp_signs_lie, sp_is_name, sp_are_names, sp_is_path, sp_names_of, sp_above, sp_a_init, sp_on, sp_later, sp_c_init, sp_has, sp_account, sp_add_top, sp_add]); try simp only [rdAllI, rdI, V.int.injEq, V.ref.injEq, eqQ_int, eqQ_bl, eqQ_str, eqQ_ref, eqQ_nn, eqQ_ni, eqQ_in, eqQ_is, eqQ_si, L2.start, List.map_cons, List.map_nil, List.cons_append, List.nil_append, List.append_nil, List.length_cons, List.length_nil, List.replicate, List.getElem?_cons_zero, List.getElem?_cons_succ, List.set_cons_zero, List.set_cons_succ, Nat.reduceSub, Nat.reduceAdd, Int.reduceLT, Int.reduceLE, Int.reducePow, Int.reduceNeg, Nat.reducePow, List.cons.injEq, exists_eq_left', exists_eq_left, eq_self, if_false, if_true, ↓reduceIte, ite_not, forall_const, Option.join, Option.bind_some, id_eq])
              refine ⟨_, _, _, _, hp1, T.cl_Chart, T.n_Chart_by_path, lkp _, d, .ref y.ob, rfl, ?_, ?_⟩
              · have g := DGet.k (k := .inr ⟨⟨l'⟩⟩) J1.dc
                rw [fnd_val, fy] at g
                exact g
              · ((try dsimp only [sp_is_whole, sp_is_among, sp_is_day, sp_never1, sp_signs_lie, sp_is_name, sp_are_names, sp_is_path, sp_names_of, sp_above, sp_a_init, sp_on, sp_later, sp_c_init, sp_has, sp_account, sp_add_top, sp_add]); try simp only [rdAllI, rdI, V.int.injEq, V.ref.injEq, eqQ_int, eqQ_bl, eqQ_str, eqQ_ref, eqQ_nn, eqQ_ni, eqQ_in, eqQ_is, eqQ_si, L2.start, List.map_cons, List.map_nil, List.cons_append, List.nil_append, List.append_nil, List.length_cons, List.length_nil, List.replicate, List.getElem?_cons_zero, List.getElem?_cons_succ, List.set_cons_zero, List.set_cons_succ, Nat.reduceSub, Nat.reduceAdd, Int.reduceLT, Int.reduceLE, Int.reducePow, Int.reduceNeg, Nat.reducePow, List.cons.injEq, exists_eq_left', exists_eq_left, eq_self, if_false, if_true, ↓reduceIte, ite_not, forall_const, Option.join, Option.bind_some, id_eq])
                exact ⟨_, _, hoy, f_later .., c.1, _, _, _, _, _, _, hoy, r'⟩
            · refine ⟨u.be.map fun x => latV cs day (L2.T x), SqL.of (by rw [upd_same, List.filter_eq_self.mpr (by simp), List.map_map, List.map_map]; rfl), H, Gc.none (same_upd _ hD), ?_⟩
              cases ea : (u.be.map fun x => latV cs day (L2.T x)).any id with
              | true => exact itp rfl ⟨one, bad _ (.tail _ (.tail _ (.tail _ (.tail _ (.head _)))))⟩
              | false =>
                refine itn (by decide) ⟨_, _, _, ho, T.cl_Account, T.n_Account_until, by show 5 < 1000; decide, ?_⟩
                rw [f_put]
                have J1 := J.shutA hu day ho
                rw [pu] at J1
                refine k u _ hu pu un (by omega) (fun x hx y hy py => ?_) J1 (Keep.refl.put (List.mem_map_of_mem hu)) (noT_upd hN rfl)
                have := List.any_eq_false.mp ea (latV cs day (L2.T x)) (List.mem_map_of_mem hx)
                have e1 : latV cs day (L2.T x) = lat y.un day := by
                  show (match fnd cs x with | some c => lat c.un day | none => true) = _
                  rw [← py, fnd_of J.np hy]
                rw [e1] at this
                exact lat_false (by simpa using this)
end
end K8
set_option Elab.async false
set_option linter.all false
set_option maxRecDepth 100000
set_option maxHeartbeats 400000
namespace K8
open PySem L2
seal L2.PE L2.PT L2.PW L2.PA L2.PS L2.PSs L2.PI L2.PG L2.PGs L2.PO
section
def qT (l : List Nat) : Bool := !decide (58 ∈ l)
structure Good (cs : List Acc) : Prop where
  pl : ∀ c ∈ cs, (∀ x ∈ c.pa, x < 128) ∧ c.pa.length ≤ 78
  pm : ((cs.map (·.pa)).filter qT ++ cs.flatMap (·.be)).Perm (cs.map (·.pa))
  up : ∀ c ∈ cs, 58 ∉ c.pa ∨ ∃ u ∈ cs, (∃ n, 58 ∉ n ∧ c.pa = u.pa ++ 58 :: n) ∧ c.pa ∈ u.be ∧ u.fi ≤ c.fi ∧ ∀ t, u.un = some t → ∃ t', c.un = some t' ∧ t' ≤ t
  sp : ∀ c ∈ cs, ∀ t, c.un = some t → c.fi < t
theorem be_len : ∀ {cs : List Acc} {c : Acc}, c ∈ cs → c.be.length ≤ (cs.flatMap (·.be)).length
  | [], _, h => nomatch h
  | z :: r, c, h => by
    rw [List.flatMap_cons, List.length_append]
    rcases List.mem_cons.mp h with h | h
    · subst h; omega
    · have := be_len h; omega
theorem Good.len {cs : List Acc} (G : Good cs) {c : Acc} (h : c ∈ cs) : c.be.length ≤ cs.length := by
  have h1 := be_len h
  have h2 := G.pm.length_eq
  rw [List.length_append, List.length_map] at h2
  omega
theorem Good.mem {cs : List Acc} (G : Good cs) {c : Acc} (h : c ∈ cs) {x : List Nat} (hx : x ∈ c.be) : ∃ y ∈ cs, y.pa = x := by
  have : x ∈ cs.map (·.pa) := G.pm.mem_iff.mp (List.mem_append_right _ (List.mem_flatMap.mpr ⟨c, h, hx⟩))
  obtain ⟨y, hy, e⟩ := List.mem_map.mp this
  exact ⟨y, hy, e⟩
theorem Good.nil : Good [] := ⟨(fun _ h => nomatch h), List.Perm.nil, (fun _ h => nomatch h), (fun _ h => nomatch h)⟩
theorem Good.top {cs : List Acc} (G : Good cs) {c : Acc} (h0 : (∀ x ∈ c.pa, x < 128) ∧ c.pa.length ≤ 78) (h1 : 58 ∉ c.pa) (h2 : c.un = none) (h3 : c.be = []) : Good (cs ++ [c]) where
  pl := fun z hz => by
    rcases List.mem_append.mp hz with h | h
    · exact G.pl z h
    · rw [List.mem_singleton.mp h]; exact h0
  pm := by
    rw [List.map_append, List.filter_append, List.flatMap_append]
    have e1 : ([c].map (·.pa)).filter qT = [c.pa] := by simp [qT, h1]
    have e2 : [c].flatMap (·.be) = [] := by simp [h3]
    rw [e1, e2, List.append_nil, List.append_assoc]
    refine ((List.perm_append_comm (l₁ := [c.pa])).append_left _).trans ?_
    rw [← List.append_assoc]
    exact G.pm.append_right _
  up := fun z hz => by
    rcases List.mem_append.mp hz with h | h
    · rcases G.up z h with q | ⟨u, hu, q⟩
      · exact .inl q
      · exact .inr ⟨u, List.mem_append_left _ hu, q⟩
    · rw [List.mem_singleton.mp h]; exact .inl h1
  sp := fun z hz t e => by
    rcases List.mem_append.mp hz with h | h
    · exact G.sp z h t e
    · rw [List.mem_singleton.mp h, h2] at e; cases e
theorem setA_no {r : List Acc} {v : List Nat} {f : Acc → Acc} (h : v ∉ r.map (·.pa)) : setA r v f = r := by
  unfold setA
  conv => rhs; rw [← List.map_id r]
  apply List.map_congr_left
  intro z hz
  rw [if_neg (fun e : z.pa = v => h (e ▸ List.mem_map_of_mem (f := fun x => x.pa) hz))]; rfl
theorem grow_perm (l v : List Nat) : ∀ {cs : List Acc}, (cs.map (·.pa)).Nodup → (∃ u ∈ cs, u.pa = v) → ((setA cs v (grw l)).flatMap (·.be)).Perm (cs.flatMap (·.be) ++ [l])
  | [], _, h => by obtain ⟨u, hu, _⟩ := h; cases hu
  | z :: r, hn, h => by
    rw [List.map_cons, List.nodup_cons] at hn
    by_cases e : z.pa = v
    · have e1 : setA (z :: r) v (grw l) = grw l z :: r := by
        have : setA r v (grw l) = r := setA_no (e ▸ hn.1)
        show (if z.pa = v then grw l z else z) :: setA r v (grw l) = _
        rw [this, if_pos e]
      rw [e1, List.flatMap_cons, List.flatMap_cons]
      show (z.be ++ [l] ++ _).Perm _
      rw [List.append_assoc, List.append_assoc]
      exact (List.perm_append_comm (l₁ := [l])).append_left _
    · have e1 : setA (z :: r) v (grw l) = z :: setA r v (grw l) := by
        show (if z.pa = v then grw l z else z) :: setA r v (grw l) = _
        rw [if_neg e]
      rw [e1, List.flatMap_cons, List.flatMap_cons, List.append_assoc]
      refine (grow_perm l v hn.2 ?_).append_left _
      obtain ⟨u, hu, eu⟩ := h
      rcases List.mem_cons.mp hu with q | q
      · subst q; exact absurd eu e
      · exact ⟨u, q, eu⟩
theorem setA_mem {cs : List Acc} {l : List Nat} {f : Acc → Acc} {y : Acc} (h : y ∈ cs) : (if y.pa = l then f y else y) ∈ setA cs l f := List.mem_map.mpr ⟨y, h, rfl⟩
theorem Good.child {cs : List Acc} (G : Good cs) (hn : (cs.map (·.pa)).Nodup) {u c : Acc} {n : List Nat} (hu : u ∈ cs) (e : c.pa = u.pa ++ 58 :: n) (h58 : 58 ∉ n) (h0 : (∀ x ∈ c.pa, x < 128) ∧ c.pa.length ≤ 78) (hun : u.un = none) (hf : u.fi ≤ c.fi) (h2 : c.un = none) (h3 : c.be = []) :
    Good (setA cs u.pa (grw c.pa) ++ [c]) where
  pl := fun z hz => by
    rcases List.mem_append.mp hz with h | h
    · obtain ⟨y, hy, e⟩ := mem_setA h
      have := G.pl y hy
      subst e
      split
      · exact this
      · exact this
    · rw [List.mem_singleton.mp h]; exact h0
  pm := by
    rw [List.map_append, setA_map (f := grw c.pa) (·.pa) fun _ => rfl, List.filter_append, List.flatMap_append]
    have e1 : ([c].map (·.pa)).filter qT = [] := by simp [qT, e]
    have e2 : [c].flatMap (·.be) = [] := by simp [h3]
    rw [e1, e2, List.append_nil, List.append_nil]
    refine ((grow_perm c.pa u.pa hn ⟨u, hu, rfl⟩).append_left _).trans ?_
    rw [← List.append_assoc]
    exact G.pm.append_right _
  up := fun z hz => by
    rcases List.mem_append.mp hz with h | h
    · obtain ⟨y, hy, ez⟩ := mem_setA h
      have key : 58 ∉ y.pa ∨ ∃ u_1 ∈ setA cs u.pa (grw c.pa) ++ [c], (∃ n, 58 ∉ n ∧ y.pa = u_1.pa ++ 58 :: n) ∧ y.pa ∈ u_1.be ∧ u_1.fi ≤ y.fi ∧ ∀ t, u_1.un = some t → ∃ t', y.un = some t' ∧ t' ≤ t := by
        rcases G.up y hy with q | ⟨u', hu', q1, q2, q3, q4⟩
        · exact .inl q
        · refine .inr ⟨_, List.mem_append_left _ (setA_mem hu'), ?_⟩
          split
          · exact ⟨q1, List.mem_append_left _ q2, q3, q4⟩
          · exact ⟨q1, q2, q3, q4⟩
      subst ez
      split
      · exact key
      · exact key
    · rw [List.mem_singleton.mp h]
      refine .inr ⟨_, List.mem_append_left _ (setA_mem hu), ?_⟩
      rw [if_pos rfl]
      exact ⟨⟨n, h58, e⟩, List.mem_append_right _ (.head _), hf, fun t et => by rw [show (grw c.pa u).un = u.un from rfl, hun] at et; cases et⟩
  sp := fun z hz t et => by
    rcases List.mem_append.mp hz with h | h
    · obtain ⟨y, hy, ez⟩ := mem_setA h
      subst ez
      split at et
      · rename_i q; rw [if_pos q]; exact G.sp y hy t et
      · rename_i q; rw [if_neg q]; exact G.sp y hy t et
    · rw [List.mem_singleton.mp h, h2] at et; cases et
theorem Good.shut {cs : List Acc} (G : Good cs) (hn : (cs.map (·.pa)).Nodup) {u : Acc} {d : Int} (hu : u ∈ cs) (hun : u.un = none) (hf : u.fi < d) (hb : ∀ x ∈ u.be, ∀ y ∈ cs, y.pa = x → ∃ t, y.un = some t ∧ t ≤ d) : Good (setA cs u.pa (shu d)) where
  pl := fun z hz => by
    obtain ⟨y, hy, e⟩ := mem_setA hz
    have := G.pl y hy
    subst e
    split
    · exact this
    · exact this
  pm := by
    have e1 : (setA cs u.pa (shu d)).flatMap (·.be) = cs.flatMap (·.be) := by
      rw [List.flatMap_def, List.flatMap_def, setA_map (f := shu d) (·.be) fun _ => rfl]
    rw [e1, setA_map (f := shu d) (·.pa) fun _ => rfl]
    exact G.pm
  up := fun z hz => by
    obtain ⟨y, hy, ez⟩ := mem_setA hz
    have pz : z.pa = y.pa := by subst ez; split <;> rfl
    have fz : z.fi = y.fi := by subst ez; split <;> rfl
    have uz : ∀ t, y.un = some t → z.un = some t := fun t et => by
      subst ez
      split
      · rename_i q
        have := uniq_of hn hy hu q
        subst this; rw [hun] at et; cases et
      · exact et
    rcases G.up y hy with q | ⟨u', hu', q1, q2, q3, q4⟩
    · rw [pz]; exact .inl q
    · refine .inr ⟨_, setA_mem hu', ?_⟩
      rw [pz, fz]
      by_cases q : u'.pa = u.pa
      · rw [if_pos q]
        have := uniq_of hn hu' hu q
        subst this
        refine ⟨q1, q2, q3, fun t et => ?_⟩
        have et : t = d := by cases et; rfl
        subst et
        obtain ⟨t', e1, e2⟩ := hb _ q2 y hy rfl
        exact ⟨t', uz t' e1, e2⟩
      · rw [if_neg q]
        refine ⟨q1, q2, q3, fun t et => ?_⟩
        obtain ⟨t', e1, e2⟩ := q4 t et
        exact ⟨t', uz t' e1, e2⟩
  sp := fun z hz t et => by
    obtain ⟨y, hy, ez⟩ := mem_setA hz
    by_cases q : y.pa = u.pa
    · rw [if_pos q] at ez
      have := uniq_of hn hy hu q
      subst this ez
      have : t = d := by cases et; rfl
      subst this
      exact hf
    · rw [if_neg q] at ez
      subst ez
      exact G.sp z hy t et
theorem opn_up {c u : Acc} {d : Int} (h1 : u.fi ≤ c.fi) (h2 : ∀ t, u.un = some t → ∃ t', c.un = some t' ∧ t' ≤ t) (h : opn c.fi c.un d = true) : opn u.fi u.un d = true := by
  unfold opn at h ⊢
  obtain ⟨a1, a2⟩ := Bool.and_eq_true_iff.mp h
  have a1 := of_decide_eq_true a1
  refine Bool.and_eq_true_iff.mpr ⟨decide_eq_true (by omega), ?_⟩
  cases e : u.un with
  | none => rfl
  | some t =>
    obtain ⟨t', e1, e2⟩ := h2 t e
    rw [e1] at a2
    have := of_decide_eq_true (show decide (d < t') = true from a2)
    exact decide_eq_true (show d < t by omega)
theorem Good.uppers {cs : List Acc} (G : Good cs) : ∀ (m : Nat) (c : Acc), c ∈ cs → c.pa.length ≤ m → ∀ x ∈ abN c.pa, ∃ y ∈ cs, y.pa = x ∧ ∀ d, opn c.fi c.un d = true → opn y.fi y.un d = true
  | m, c, hc, hm, x, hx => by
    rcases G.up c hc with h | ⟨u, hu, ⟨n, hn, e⟩, _, q3, q4⟩
    · rw [abN_top h] at hx; cases hx
    · rw [e, abN_ext hn] at hx
      rcases List.mem_append.mp hx with h | h
      · have hl : u.pa.length < c.pa.length := by rw [e]; simp
        match m, hm with
        | 0, hm => omega
        | m + 1, hm =>
          obtain ⟨y, hy, ey, oy⟩ := Good.uppers G m u hu (by omega) x h
          exact ⟨y, hy, ey, fun d hd => oy d (opn_up q3 q4 hd)⟩
      · rw [List.mem_singleton.mp h]
        exact ⟨u, hu, rfl, fun d hd => opn_up q3 q4 hd⟩
theorem joinN_len : ∀ (ps : List (List Nat)), (∀ p ∈ ps, p.length ≤ 12) → (joinN [58] ps).length ≤ 13 * ps.length
  | [], _ => by simp [joinN]
  | [p], h => by have := h p (by simp); simp [joinN]; omega
  | p :: q :: r, h => by
    have h1 := h p (by simp)
    have h2 := joinN_len (q :: r) fun x hx => h x (List.mem_cons_of_mem _ hx)
    rw [joinN]
    simp only [List.length_append, List.length_cons, List.length_nil] at h2 ⊢
    omega
theorem path_len {l : List Nat} (h : pathN l = true) : l.length ≤ 78 := by
  unfold pathN at h
  obtain ⟨h1, h2⟩ := Bool.and_eq_true_iff.mp h
  have h3 := of_decide_eq_true (Bool.and_eq_true_iff.mp h1).2
  have h4 := joinN_len (spN 58 l) fun p hp => (nm_len (List.all_eq_true.mp h2 p hp)).2.1
  rw [join_spN] at h4
  omega
end
end K8
set_option Elab.async false
set_option linter.all false
set_option maxRecDepth 100000
set_option maxHeartbeats 400000
namespace K8
open PySem L2
seal L2.PE L2.PT L2.PW L2.PA L2.PS L2.PSs L2.PI L2.PG L2.PGs L2.PO
section
variable {pS : Addr} {ns : List Int} {P : Program} {w : World} {K : PySem.W.Frag} {mg : Str → Option Value} {base : Heap} {a : Adr}
theorem no_top (x : V) : List.lookup (Str.ofString "add_top") [(Str.ofString "by_path", x)] = none := by rw [lk_miss (by decide +kernel)]; rfl
theorem no_add (x : V) : List.lookup (Str.ofString "add") [(Str.ofString "by_path", x)] = none := by rw [lk_miss (by decide +kernel)]; rfl
theorem no_shut (x : V) : List.lookup (Str.ofString "shut") [(Str.ofString "by_path", x)] = none := by rw [lk_miss (by decide +kernel)]; rfl
theorem no_span (x : V) : List.lookup (Str.ofString "span_of") [(Str.ofString "by_path", x)] = none := by rw [lk_miss (by decide +kernel)]; rfl
theorem no_open (x : V) : List.lookup (Str.ofString "is_open") [(Str.ofString "by_path", x)] = none := by rw [lk_miss (by decide +kernel)]; rfl
theorem no_beneath (x : V) : List.lookup (Str.ofString "beneath") [(Str.ofString "by_path", x)] = none := by rw [lk_miss (by decide +kernel)]; rfl
theorem no_accounts (x : V) : List.lookup (Str.ofString "accounts") [(Str.ofString "by_path", x)] = none := by rw [lk_miss (by decide +kernel)]; rfl
def own (d : Addr) (cs : List Acc) : List Addr := d :: (cs.map (·.ob) ++ cs.map (·.bl))
def txt (l : List Nat) : Prop := (∀ c ∈ l, c < 128) ∧ l.length ≤ 199
def sp_went (C A : Addr) : Sp := sp4 fun x k y t H Q _ => NoT H ∧ asR x fun p => asI k fun kind => asT y fun l => txt l ∧ asI t fun day => ∃ d cs, CAt C A H p d cs ∧ Good cs ∧ cs.length ≤ 50 ∧
  (kind = 0 → 58 ∉ l) ∧ (kind ≠ 0 → kind < 4 → ∃ v n, l = v ++ 58 :: n ∧ 58 ∉ n) ∧ Q (.bl false) H ∧
  ∀ cs' H', CAt C A H' p d cs' → Good cs' → cs'.map (·.pa) = (if kind < 4 then cs.map (·.pa) ++ [l] else cs.map (·.pa)) → (∀ z ∈ cs', (z.bl ∈ cs.map (·.bl) ∨ H z.bl = none) ∧ (z.ob ∈ cs.map (·.ob) ∨ H z.ob = none)) → Keep (own d cs) H H' → NoT H' → Q (.bl true) H'
theorem ok__law_went (T : Txt K mg a) : FnOk P w K mg base (XE P w) 9 a.f__law_went a.fd__law_went ["_law_chart", "_law_kind", "_law_path", "_law_day"] (sp_went a.c_Chart a.c_Account) := by
  refine T.F__law_went.okX sc__law_went (fun vs H Q E h => sp4.len h) (fun cdv A outer s H vs Q E hr h => ?_)
  obtain ⟨x0, x1, x2, x3, rfl, h⟩ := sp4.inv h
  have ND := sc__law_went.nd
  have PX : Passes' (XE P w) (cxOf (XE P w) P w K mg base ["_law_chart", "_law_kind", "_law_path", "_law_day"] "_law_went" (defScope s__law_went) a.f__law_went cdv A outer s H E) (fun _ => E) := passB
  have RX : Raises (cxOf (XE P w) P w K mg base ["_law_chart", "_law_kind", "_law_path", "_law_day"] "_law_went" (defScope s__law_went) a.f__law_went cdv A outer s H E) (fun _ => E) := raisesB
  have HU : (cxOf (XE P w) P w K mg base ["_law_chart", "_law_kind", "_law_path", "_law_day"] "_law_went" (defScope s__law_went) a.f__law_went cdv A outer s H E).A.units + 100 < cLine := units100 hr
  obtain ⟨hN, h1⟩ := h
  obtain ⟨p, rfl, h2⟩ := asR.inv h1
  obtain ⟨kind, rfl, h3⟩ := asI.inv h2
  obtain ⟨l, rfl, hl, h4⟩ := asT.inv h3
  obtain ⟨day, rfl, d, cs, J, G, len, k0, k1, kF, k⟩ := asI.inv h4
  obtain ⟨dx, hp⟩ := J.ob
  have G_Chart_add_top := ok_Chart_add_top (P := P) (w := w) (base := base) T
  have b_Chart_add_top := bn_Chart_add_top T.F_Chart_add_top
  have G_Chart_add := ok_Chart_add (P := P) (w := w) (base := base) T
  have b_Chart_add := bn_Chart_add T.F_Chart_add
  have G_Chart_shut := ok_Chart_shut (P := P) (w := w) (base := base) T
  have b_Chart_shut := bn_Chart_shut T.F_Chart_shut
  refine ⟨_, (pss_cons (ps_tryN rfl T.m_HouseError rfl rfl rfl (fun pn Ee Ex PX => (pss_one (ps_if (ft_cmp (fo_eqQ K HU) (fv 1) pe_int (nomark _)) (pss_one (ps_expr (pe_methX (fv 0) T.cl_Chart T.mt_Chart_add_top G_Chart_add_top (hr.mono (by decide)) b_Chart_add_top .nil PX (FA.pa (fa_cons (fv 2) (fa_cons (pe_strT [99, 111, 115, 116]) fa_nil)))))) (pss_one (ps_if (ft_cmp fo_lt (fv 1) pe_int (nomark _)) (pss_one (ps_expr (pe_methX (fv 0) T.cl_Chart T.mt_Chart_add G_Chart_add (hr.mono (by decide)) b_Chart_add .nil PX (FA.pa (fa_cons (fv 2) (fa_cons pe_non (fa_cons (fv 3) fa_nil))))))) (pss_one (ps_expr (pe_methX (fv 0) T.cl_Chart T.mt_Chart_shut G_Chart_shut (hr.mono (by decide)) b_Chart_shut .nil PX (FA.pa (fa_cons (fv 2) (fa_cons (fv 3) fa_nil))))))))))) (fun e => (pss_one (ps_ret pe_bl))))
      (pss_one (ps_ret pe_bl))), ?_⟩
  ((try dsimp only [sp_is_whole, sp_is_among, sp_is_day, sp_never1, sp_signs_lie, sp_is_name, sp_are_names, sp_is_path, sp_names_of, sp_above, sp_a_init, sp_on, sp_later, sp_c_init, sp_has, sp_account, sp_add_top, sp_add, sp_shut, sp_span, sp_is_open, sp_beneath, sp_accounts, sp_at, sp_name_by]); try simp only [rdAllI, rdI, V.int.injEq, V.ref.injEq, eqQ_int, eqQ_bl, eqQ_str, eqQ_ref, eqQ_nn, eqQ_ni, eqQ_in, eqQ_is, eqQ_si, L2.start, List.map_cons, List.map_nil, List.cons_append, List.nil_append, List.append_nil, List.length_cons, List.length_nil, List.replicate, List.getElem?_cons_zero, List.getElem?_cons_succ, List.set_cons_zero, List.set_cons_succ, Nat.reduceSub, Nat.reduceAdd, Int.reduceLT, Int.reduceLE, Int.reducePow, Int.reduceNeg, Nat.reducePow, List.cons.injEq, exists_eq_left', exists_eq_left, eq_self, if_false, if_true, ↓reduceIte, ite_not, forall_const, Option.join, Option.bind_some, id_eq])
  by_cases hk : kind = 0
  · refine itp hk ⟨_, _, hp, no_top _, hN, ⟨hl.1, Nat.le_trans hl.2 (by decide)⟩, rfl, d, cs, J, by omega, ?_⟩
    by_cases e : nm l = true
    case neg => exact itn e ⟨_, rfl, T.t_BadName_HouseError, kF⟩
    case pos =>
      refine itp e ?_
      cases ef : fnd cs l with
      | some c => exact ⟨_, rfl, T.t_Twice_HouseError, kF⟩
      | none =>
        intro c H' e1 e2 e3 e4 n1 n2 J' K' N'
        have hnm := nm_len e
        refine k (cs ++ [c]) H' J' (G.top ⟨by rw [e1]; exact hl.1, by rw [e1]; omega⟩ (by rw [e1]; exact k0 hk) e3 e4) (by rw [if_pos (by omega), List.map_append, ← e1]; rfl) (fun z hz => ?_) (K'.mono fun c hc => by rw [List.mem_singleton.mp hc]; exact .head _) N'
        rcases List.mem_append.mp hz with h | h
        · exact ⟨.inl (List.mem_map_of_mem h), .inl (List.mem_map_of_mem h)⟩
        · rw [List.mem_singleton.mp h]; exact ⟨.inr n2, .inr n1⟩
  · refine itn hk ?_
    by_cases hq4 : kind < 4
    · obtain ⟨v, n, el, hn⟩ := k1 hk hq4
      refine itp hq4 ⟨_, _, hp, no_add _, hN, hl, v, n, el, hn, d, cs, J, by omega, fun c hc => by have := G.len hc; omega, fun e he => ?_, fun u c H' ep ef hu pu hun hf h0 e1 e2 e3 e4 n1 n2 J' K' N' => ?_⟩
      · simp only [List.mem_cons, List.not_mem_nil, or_false] at he
        rcases he with rfl | rfl | rfl | rfl | rfl
        · exact ⟨_, rfl, T.t_BadPath_HouseError, kF⟩
        · exact ⟨_, rfl, T.t_BadDay_HouseError, kF⟩
        · exact ⟨_, rfl, T.t_Twice_HouseError, kF⟩
        · exact ⟨_, rfl, T.t_NoAccount_HouseError, kF⟩
        · exact ⟨_, rfl, T.t_NotOpen_HouseError, kF⟩
      · subst pu
        have G' := G.child J.np hu (e1.trans el) hn ⟨by rw [e1]; exact hl.1, by rw [e1]; exact path_len ep⟩ hun (by rw [e2]; exact hf) e3 e4
        rw [e1] at G'
        refine k _ H' J' G' (by rw [if_pos hq4, List.map_append, setA_map (f := grw l) (·.pa) fun _ => rfl, ← e1]; rfl) (fun z hz => ?_) (K'.mono fun c hc => ?_) N'
        · rcases List.mem_append.mp hz with h | h
          · obtain ⟨y, hy, ez⟩ := mem_setA h
            have e1 : z.bl = y.bl := by subst ez; split <;> rfl
            have e2 : z.ob = y.ob := by subst ez; split <;> rfl
            rw [e1, e2]; exact ⟨.inl (List.mem_map_of_mem hy), .inl (List.mem_map_of_mem hy)⟩
          · rw [List.mem_singleton.mp h]; exact ⟨.inr n2, .inr n1⟩
        · rcases List.mem_cons.mp hc with rfl | h
          · exact .head _
          · exact .tail _ (List.mem_append_right _ h)
    · refine itn hq4 ⟨_, _, hp, no_shut _, hN, hl, d, cs, J, fun c hc => ⟨by have := G.len hc; omega, fun x hx => G.mem hc hx⟩, fun e he => ?_, fun u H' hu pu hun hf hb J' K' N' => ?_⟩
      · simp only [List.mem_cons, List.not_mem_nil, or_false] at he
        rcases he with rfl | rfl | rfl | rfl | rfl
        · exact ⟨_, rfl, T.t_BadPath_HouseError, kF⟩
        · exact ⟨_, rfl, T.t_BadDay_HouseError, kF⟩
        · exact ⟨_, rfl, T.t_NoAccount_HouseError, kF⟩
        · exact ⟨_, rfl, T.t_NotOpen_HouseError, kF⟩
        · exact ⟨_, rfl, T.t_HasBelow_HouseError, kF⟩
      · subst pu
        refine k _ H' J' (G.shut J.np hu hun hf hb) (by rw [if_neg hq4, setA_map (f := shu day) (·.pa) fun _ => rfl]) (fun z hz => ?_) (K'.mono fun c hc => .tail _ (List.mem_append_left _ hc)) N'
        obtain ⟨y, hy, ez⟩ := mem_setA hz
        have e1 : z.bl = y.bl := by subst ez; split <;> rfl
        have e2 : z.ob = y.ob := by subst ez; split <;> rfl
        rw [e1, e2]; exact ⟨.inl (List.mem_map_of_mem hy), .inl (List.mem_map_of_mem hy)⟩
def sp_uppers : Sp := sp1 fun x H Q _ => NoT H ∧ asT x fun l => txt l ∧ ∀ p, H p = none → Q (.ref p) (upd H p (tx (abN l)))
theorem ok__law_uppers (T : Txt K mg a) : FnOk P w K mg base (XE P w) 1 a.f__law_uppers a.fd__law_uppers ["_law_path"] sp_uppers := by
  refine T.F__law_uppers.okG sc__law_uppers (fun vs H Q E h => sp1.len h) (fun cdv A outer s H vs Q E hr h => ?_)
  obtain ⟨x0, rfl, h⟩ := sp1.inv h
  have ND := sc__law_uppers.nd
  have PX : Passes' (XE P w) (cxOf (XE P w) P w K mg base ["_law_path", "_law_names"] "_law_uppers" (defScope s__law_uppers) a.f__law_uppers cdv A outer s H (gcE H E)) (fun _ => (gcE H E)) := passB
  have RX : Raises (cxOf (XE P w) P w K mg base ["_law_path", "_law_names"] "_law_uppers" (defScope s__law_uppers) a.f__law_uppers cdv A outer s H (gcE H E)) (fun _ => (gcE H E)) := raisesB
  have HU : (cxOf (XE P w) P w K mg base ["_law_path", "_law_names"] "_law_uppers" (defScope s__law_uppers) a.f__law_uppers cdv A outer s H (gcE H E)).A.units + 100 < cLine := units100 hr
  obtain ⟨hN, h1⟩ := h
  obtain ⟨l, rfl, hl, k⟩ := asT.inv h1
  refine ⟨hN, _, (pss_cons (ps_set (i := 1) ND rfl (Or.inr rfl) (pe_bmK K PySem.F.plainAttrs_str PySem.F.slot_str_split PySem.F.type_str_split fm_split (fv 0) (FA.pa (fa_cons (pe_strT [58]) fa_nil))))
      (pss_one (ps_ret (pe_comp rfl (cl := _) (fr := ["_law_names"]) (ks := [1]) (by exact ⟨rfl, by decide +kernel, rfl, by decide +kernel, rfl, keys_of rfl, rfl, kinds_of rfl, kinds_of (k := fun y => List.lookup y _) rfl, only_of rfl⟩) rfl (by decide) (pi_range2 rfl T.z_range (FA.pa (fa_cons pe_int (fa_cons (pe_callB (fc_lenK K) rfl T.z_len bb_len (FA.pa (fa_cons (fv 1) fa_nil))) fa_nil)))) (fun _ _ _ _ _ => pts_nil) (fun _ _ _ _ _ => (pe_gc (pe_bmK K PySem.F.plainAttrs_str PySem.F.slot_str_join PySem.F.type_str_join (fm_joinK K) (pe_strT [58]) (FA.pa (fa_cons (pe_slice (fs_listK K) (fv 1) po_none (po_some (fv 0))) fa_nil))))))))), ?_⟩
  ((try dsimp only [sp_is_whole, sp_is_among, sp_is_day, sp_never1, sp_signs_lie, sp_is_name, sp_are_names, sp_is_path, sp_names_of, sp_above, sp_a_init, sp_on, sp_later, sp_c_init, sp_has, sp_account, sp_add_top, sp_add, sp_shut, sp_span, sp_is_open, sp_beneath, sp_accounts, sp_at, sp_name_by, sp_went]); try simp only [rdAllI, rdI, V.int.injEq, V.ref.injEq, eqQ_int, eqQ_bl, eqQ_str, eqQ_ref, eqQ_nn, eqQ_ni, eqQ_in, eqQ_is, eqQ_si, L2.start, List.map_cons, List.map_nil, List.cons_append, List.nil_append, List.append_nil, List.length_cons, List.length_nil, List.replicate, List.getElem?_cons_zero, List.getElem?_cons_succ, List.set_cons_zero, List.set_cons_succ, Nat.reduceSub, Nat.reduceAdd, Int.reduceLT, Int.reduceLE, Int.reducePow, Int.reduceNeg, Nat.reducePow, List.cons.injEq, exists_eq_left', exists_eq_left, eq_self, if_false, if_true, ↓reduceIte, ite_not, forall_const, Option.join, Option.bind_some, id_eq])
  have sz : 1000 ≤ sizeLine := by rw [sizeLine_eq]; decide
  have sl := spN_len 58 l
  have hl2 := hl.2
  refine ⟨by omega, fun p hp => ?_⟩
  have sm := same_upd (HO.lst (List.map L2.T (spN 58 l))) hp
  have nb : ((spN 58 l).length : Int) < 2 ^ 62 := by
    have : (400 : Int) < 2 ^ 62 := by decide
    omega
  refine comp_rng2 (fun H' => NoT H' ∧ SqL K H' p (List.map L2.T (spN 58 l))) (fun D ys hD => ⟨noT_upd (noT_upd hN rfl) rfl, SqL.same (same_upd _ hD) (SqL.of upd_same)⟩) 1 (spN 58 l).length ((spN 58 l).length - 1) (by omega) (fun _ => true)
    (fun v => match v with | .int i => L2.T (joinN [58] ((spN 58 l).take i.toNat)) | _ => .non) (fun R r => ?_) ⟨by decide, by decide, by omega, nb⟩ (by omega) (fun x _ H' R _ r => r) (fun j hj _ H' R c r => ?_) (fun D hD => ?_)
  · ((try dsimp only [sp_is_whole, sp_is_among, sp_is_day, sp_never1, sp_signs_lie, sp_is_name, sp_are_names, sp_is_path, sp_names_of, sp_above, sp_a_init, sp_on, sp_later, sp_c_init, sp_has, sp_account, sp_add_top, sp_add, sp_shut, sp_span, sp_is_open, sp_beneath, sp_accounts, sp_at, sp_name_by, sp_went]); try simp only [rdAllI, rdI, V.int.injEq, V.ref.injEq, eqQ_int, eqQ_bl, eqQ_str, eqQ_ref, eqQ_nn, eqQ_ni, eqQ_in, eqQ_is, eqQ_si, L2.start, List.map_cons, List.map_nil, List.cons_append, List.nil_append, List.append_nil, List.length_cons, List.length_nil, List.replicate, List.getElem?_cons_zero, List.getElem?_cons_succ, List.set_cons_zero, List.set_cons_succ, Nat.reduceSub, Nat.reduceAdd, Int.reduceLT, Int.reduceLE, Int.reducePow, Int.reduceNeg, Nat.reducePow, List.cons.injEq, exists_eq_left', exists_eq_left, eq_self, if_false, if_true, ↓reduceIte, ite_not, forall_const, Option.join, Option.bind_some, id_eq])
    exact ⟨_, .inl (SqL.of upd_same), by rw [List.length_map]; exact r⟩
  · ((try dsimp only [sp_is_whole, sp_is_among, sp_is_day, sp_never1, sp_signs_lie, sp_is_name, sp_are_names, sp_is_path, sp_names_of, sp_above, sp_a_init, sp_on, sp_later, sp_c_init, sp_has, sp_account, sp_add_top, sp_add, sp_shut, sp_span, sp_is_open, sp_beneath, sp_accounts, sp_at, sp_name_by, sp_went]); try simp only [rdAllI, rdI, V.int.injEq, V.ref.injEq, eqQ_int, eqQ_bl, eqQ_str, eqQ_ref, eqQ_nn, eqQ_ni, eqQ_in, eqQ_is, eqQ_si, L2.start, List.map_cons, List.map_nil, List.cons_append, List.nil_append, List.append_nil, List.length_cons, List.length_nil, List.replicate, List.getElem?_cons_zero, List.getElem?_cons_succ, List.set_cons_zero, List.set_cons_succ, Nat.reduceSub, Nat.reduceAdd, Int.reduceLT, Int.reduceLE, Int.reducePow, Int.reduceNeg, Nat.reducePow, List.cons.injEq, exists_eq_left', exists_eq_left, eq_self, if_false, if_true, ↓reduceIte, ite_not, forall_const, Option.join, Option.bind_some, id_eq])
    refine ⟨c.1, p, _, rfl, c.2, fun q hq => ⟨(spN 58 l).take (1 + (j : Int)).toNat, SqL.of (by rw [upd_same, cutVt _ (by omega), List.map_take]), fitJ_any (fun x hx => ?_) (by rw [List.length_take]; omega), H', Gc.none (same_upd _ hq), r⟩⟩
    have := (spN_mem 58 l x (List.mem_of_mem_take hx)).1
    omega
  · refine ⟨_, Gc.one (sm.trans (same_upd _ hD)) (sm.free hD) upd_same rfl, ?_⟩
    have e : (List.map (fun v => match v with | V.int i => L2.T (joinN [58] (List.take i.toNat (spN 58 l))) | _ => V.non) (List.filter (fun _ => true) (List.map (fun k : Nat => V.int (1 + (k : Int))) (List.range ((spN 58 l).length - 1))))) = (abN l).map L2.T := by
      rw [List.filter_eq_self.mpr (by simp), List.map_map]
      unfold abN
      rw [List.map_map]
      apply List.map_congr_left
      intro k _
      show L2.T (joinN [58] (List.take (1 + (k : Int)).toNat (spN 58 l))) = L2.T (joinN [58] (List.take (k + 1) (spN 58 l)))
      rw [show (1 + (k : Int)).toNat = k + 1 by omega]
    rw [e]; exact k D (sm.free hD)
theorem same_fresh {H H' : Hp} {D : Addr} {o : HO} (s : Same H H') (h : H D = none) : Same H (upd H' D o) := fun c z e => by
  rw [upd_ne (ne_of_none e h)]; exact s c z e
def IntK (kvs : List (Key × V)) : Prop := ∀ e ∈ kvs, ∃ i, e.1 = .inl i
theorem IntK.put {kvs : List (Key × V)} (h : IntK kvs) (i : Int) (v : V) : IntK (putK kvs (.inl i) v) := by
  intro e he
  unfold putK at he
  split at he
  · obtain ⟨z, hz, rfl⟩ := List.mem_map.mp he
    split
    · exact h z hz
    · exact h z hz
  · rcases List.mem_append.mp he with q | q
    · exact h e q
    · rw [List.mem_singleton.mp q]; exact ⟨i, rfl⟩
theorem IntK.ints {kvs : List (Key × V)} (h : IntK kvs) : ∃ ds : List Int, kvs.map (fun e => kV e.1) = ds.map V.int ∧ ds.length = kvs.length := by
  induction kvs with
  | nil => exact ⟨[], rfl, rfl⟩
  | cons e r ih =>
    obtain ⟨ds, e1, e2⟩ := ih fun z hz => h z (List.mem_cons_of_mem _ hz)
    obtain ⟨i, ei⟩ := h e (List.mem_cons_self ..)
    exact ⟨i :: ds, by rw [List.map_cons, List.map_cons, e1, ei]; rfl, by rw [List.length_cons, List.length_cons, e2]⟩
def sp_days (K : PySem.W.Frag) (C A : Addr) : Sp := sp2 fun x y H Q _ => NoT H ∧ asR x fun p => asR y fun t => ∃ d cs, CAt C A H p d cs ∧ cs.length ≤ 50 ∧ H t = some (.lst ((cs.map (·.pa)).map L2.T)) ∧ ∀ (ds : List Int) q, ds.length ≤ 500 → H q = none → Q (.ref q) (upd H q (.lst (ds.map V.int)))
theorem ok__law_days (T : Txt K mg a) : FnOk P w K mg base (XE P w) 5 a.f__law_days a.fd__law_days ["_law_chart", "_law_taken"] (sp_days K a.c_Chart a.c_Account) := by
  refine T.F__law_days.okG sc__law_days (fun vs H Q E h => sp2.len h) (fun cdv A outer s H vs Q E hr h => ?_)
  obtain ⟨x0, x1, rfl, h⟩ := sp2.inv h
  have ND := sc__law_days.nd
  have PX : Passes' (XE P w) (cxOf (XE P w) P w K mg base ["_law_chart", "_law_taken", "_law_found", "_law_path", "_law_day"] "_law_days" (defScope s__law_days) a.f__law_days cdv A outer s H (gcE H E)) (fun _ => (gcE H E)) := passB
  have RX : Raises (cxOf (XE P w) P w K mg base ["_law_chart", "_law_taken", "_law_found", "_law_path", "_law_day"] "_law_days" (defScope s__law_days) a.f__law_days cdv A outer s H (gcE H E)) (fun _ => (gcE H E)) := raisesB
  have HU : (cxOf (XE P w) P w K mg base ["_law_chart", "_law_taken", "_law_found", "_law_path", "_law_day"] "_law_days" (defScope s__law_days) a.f__law_days cdv A outer s H (gcE H E)).A.units + 100 < cLine := units100 hr
  have PW : PassesOwn (model P w) (cxOf (XE P w) P w K mg base ["_law_chart", "_law_taken", "_law_found", "_law_path", "_law_day"] "_law_days" (defScope s__law_days) a.f__law_days cdv A outer s H (gcE H E)).A (cxOf (XE P w) P w K mg base ["_law_chart", "_law_taken", "_law_found", "_law_path", "_law_day"] "_law_days" (defScope s__law_days) a.f__law_days cdv A outer s H (gcE H E)).env (cxOf (XE P w) P w K mg base ["_law_chart", "_law_taken", "_law_found", "_law_path", "_law_day"] "_law_days" (defScope s__law_days) a.f__law_days cdv A outer s H (gcE H E)).xe := by passes_own
  obtain ⟨hN, h1⟩ := h
  obtain ⟨p, rfl, h2⟩ := asR.inv h1
  obtain ⟨t, rfl, d, cs, J, len, ht, k⟩ := asR.inv h2
  have G_Chart_span_of := ok_Chart_span_of (P := P) (w := w) (base := base) T
  have b_Chart_span_of := bn_Chart_span_of T.F_Chart_span_of
  refine ⟨hN, _, (pss_cons (ps_set (i := 2) ND rfl (Or.inl rfl) (pe_disp (pps_cons pe_int pe_bl (pps_cons pe_int pe_bl pps_nil)) rfl rfl (by simp) (by decide)))
      (pss_cons (ps_for PW rfl (fi_listK K (fv 1)) (pg_name (i := 3) ND rfl (Or.inl rfl)) (pss_one (ps_for PW rfl (fi_tupK K (pe_methX (fv 0) T.cl_Chart T.mt_Chart_span_of G_Chart_span_of (hr.mono (by decide)) b_Chart_span_of .nil PX (FA.pa (fa_cons (fv 3) fa_nil)))) (pg_name (i := 4) ND rfl (Or.inl rfl)) (pss_one (ps_if (ft_is (pc_notN (fv 4))) (pss_cons (ps_dput (Nat.lt_of_le_of_lt (Nat.add_le_add_left (by decide) _) HU) (fv 2) (fv 4) pe_bl rfl)
      (pss_one (ps_dput (Nat.lt_of_le_of_lt (Nat.add_le_add_left (by decide) _) HU) (fv 2) (pe_callB (fc_max rfl) rfl T.z_max bb_max (FA.pa (fa_cons pe_int (fa_cons (pe_op fo_sub (fv 4) pe_int) fa_nil)))) pe_bl rfl))) pss_nil)))))
      (pss_one (ps_ret (pe_callTy (fc_listD rfl) rfl T.z_list bb_list (FA.pa (fa_cons (fv 2) fa_nil))))))), ?_⟩
  ((try dsimp only [sp_is_whole, sp_is_among, sp_is_day, sp_never1, sp_signs_lie, sp_is_name, sp_are_names, sp_is_path, sp_names_of, sp_above, sp_a_init, sp_on, sp_later, sp_c_init, sp_has, sp_account, sp_add_top, sp_add, sp_shut, sp_span, sp_is_open, sp_beneath, sp_accounts, sp_at, sp_name_by, sp_went, sp_uppers]); try simp only [rdAllI, rdI, V.int.injEq, V.ref.injEq, eqQ_int, eqQ_bl, eqQ_str, eqQ_ref, eqQ_nn, eqQ_ni, eqQ_in, eqQ_is, eqQ_si, L2.start, List.map_cons, List.map_nil, List.cons_append, List.nil_append, List.append_nil, List.length_cons, List.length_nil, List.replicate, List.getElem?_cons_zero, List.getElem?_cons_succ, List.set_cons_zero, List.set_cons_succ, Nat.reduceSub, Nat.reduceAdd, Int.reduceLT, Int.reduceLE, Int.reducePow, Int.reduceNeg, Nat.reducePow, List.cons.injEq, exists_eq_left', exists_eq_left, eq_self, if_false, if_true, ↓reduceIte, ite_not, forall_const, Option.join, Option.bind_some, id_eq])
  unfold tDisp
  intro D hD
  simp only [tPairs]
  ((try dsimp only [sp_is_whole, sp_is_among, sp_is_day, sp_never1, sp_signs_lie, sp_is_name, sp_are_names, sp_is_path, sp_names_of, sp_above, sp_a_init, sp_on, sp_later, sp_c_init, sp_has, sp_account, sp_add_top, sp_add, sp_shut, sp_span, sp_is_open, sp_beneath, sp_accounts, sp_at, sp_name_by, sp_went, sp_uppers]); try simp only [rdAllI, rdI, V.int.injEq, V.ref.injEq, eqQ_int, eqQ_bl, eqQ_str, eqQ_ref, eqQ_nn, eqQ_ni, eqQ_in, eqQ_is, eqQ_si, L2.start, List.map_cons, List.map_nil, List.cons_append, List.nil_append, List.append_nil, List.length_cons, List.length_nil, List.replicate, List.getElem?_cons_zero, List.getElem?_cons_succ, List.set_cons_zero, List.set_cons_succ, Nat.reduceSub, Nat.reduceAdd, Int.reduceLT, Int.reduceLE, Int.reducePow, Int.reduceNeg, Nat.reducePow, List.cons.injEq, exists_eq_left', exists_eq_left, eq_self, if_false, if_true, ↓reduceIte, ite_not, forall_const, Option.join, Option.bind_some, id_eq])
  have i0 : IntK [(Sum.inl 0, V.bl true), (Sum.inl 146096, V.bl true)] := by
    intro e he
    simp only [List.mem_cons, List.not_mem_nil, or_false] at he
    rcases he with rfl | rfl
    · exact ⟨_, rfl⟩
    · exact ⟨_, rfl⟩
  have sz : 1000 ≤ sizeLine := by rw [sizeLine_eq]; decide
  refine ⟨upd_same, [(.inl 0, .bl true), (.inl 146096, .bl true)], rfl, by decide, ?_⟩
  rw [upd_upd, show mergeK [] [((Sum.inl 0 : Key), V.bl true), (Sum.inl 146096, V.bl true)] = [(Sum.inl 0, V.bl true), (Sum.inl 146096, V.bl true)] from rfl]
  have tD : t ≠ D := ne_of_none ht hD
  refine for_lstB ?_
  ((try dsimp only [sp_is_whole, sp_is_among, sp_is_day, sp_never1, sp_signs_lie, sp_is_name, sp_are_names, sp_is_path, sp_names_of, sp_above, sp_a_init, sp_on, sp_later, sp_c_init, sp_has, sp_account, sp_add_top, sp_add, sp_shut, sp_span, sp_is_open, sp_beneath, sp_accounts, sp_at, sp_name_by, sp_went, sp_uppers]); try simp only [rdAllI, rdI, V.int.injEq, V.ref.injEq, eqQ_int, eqQ_bl, eqQ_str, eqQ_ref, eqQ_nn, eqQ_ni, eqQ_in, eqQ_is, eqQ_si, L2.start, List.map_cons, List.map_nil, List.cons_append, List.nil_append, List.append_nil, List.length_cons, List.length_nil, List.replicate, List.getElem?_cons_zero, List.getElem?_cons_succ, List.set_cons_zero, List.set_cons_succ, Nat.reduceSub, Nat.reduceAdd, Int.reduceLT, Int.reduceLE, Int.reducePow, Int.reduceNeg, Nat.reducePow, List.cons.injEq, exists_eq_left', exists_eq_left, eq_self, if_false, if_true, ↓reduceIte, ite_not, forall_const, Option.join, Option.bind_some, id_eq])
  have ht0 := (upd_ne (o := .dK [(Sum.inl 0, V.bl true), (Sum.inl 146096, V.bl true)]) tD).trans ht
  refine for_lstC (SqL.of ht0) (for_list (fun i σ H' => Same H H' ∧ NoT H' ∧ ∃ kvs z1 z2, H' D = some (.dK kvs) ∧ IntK kvs ∧ kvs.length ≤ 2 + 4 * i ∧ σ = [some (.ref p), some (.ref t), some (.ref D), z1, z2]) ⟨same_upd _ hD, noT_upd hN rfl, _, _, _, upd_same, i0, by decide, rfl⟩ (fun i σ H' _ h => SqL.of (h.1 _ _ ht)) ?_ ?_)
  · rintro i x σ H1 hx ⟨sm, nT, kvs, z1, z2, hd1, ik, lk, rfl⟩
    rw [List.map_map] at hx
    obtain ⟨c, hc, rfl⟩ : ∃ c ∈ cs, x = L2.T c.pa := by
      rw [List.getElem?_map] at hx
      obtain ⟨c, e1, e2⟩ := Option.map_eq_some_iff.mp hx
      exact ⟨c, List.mem_of_getElem? e1, e2.symm⟩
    have hi : i < cs.length := by
      have := (List.getElem?_eq_some_iff.mp hx).1
      simpa using this
    ((try dsimp only [sp_is_whole, sp_is_among, sp_is_day, sp_never1, sp_signs_lie, sp_is_name, sp_are_names, sp_is_path, sp_names_of, sp_above, sp_a_init, sp_on, sp_later, sp_c_init, sp_has, sp_account, sp_add_top, sp_add, sp_shut, sp_span, sp_is_open, sp_beneath, sp_accounts, sp_at, sp_name_by, sp_went, sp_uppers]); try simp only [rdAllI, rdI, V.int.injEq, V.ref.injEq, eqQ_int, eqQ_bl, eqQ_str, eqQ_ref, eqQ_nn, eqQ_ni, eqQ_in, eqQ_is, eqQ_si, L2.start, List.map_cons, List.map_nil, List.cons_append, List.nil_append, List.append_nil, List.length_cons, List.length_nil, List.replicate, List.getElem?_cons_zero, List.getElem?_cons_succ, List.set_cons_zero, List.set_cons_succ, Nat.reduceSub, Nat.reduceAdd, Int.reduceLT, Int.reduceLE, Int.reducePow, Int.reduceNeg, Nat.reducePow, List.cons.injEq, exists_eq_left', exists_eq_left, eq_self, if_false, if_true, ↓reduceIte, ite_not, forall_const, Option.join, Option.bind_some, id_eq])
    refine for_tupB ?_
    have J1 := J.same sm
    obtain ⟨dx, hp⟩ := J1.ob
    ((try dsimp only [sp_is_whole, sp_is_among, sp_is_day, sp_never1, sp_signs_lie, sp_is_name, sp_are_names, sp_is_path, sp_names_of, sp_above, sp_a_init, sp_on, sp_later, sp_c_init, sp_has, sp_account, sp_add_top, sp_add, sp_shut, sp_span, sp_is_open, sp_beneath, sp_accounts, sp_at, sp_name_by, sp_went, sp_uppers]); try simp only [rdAllI, rdI, V.int.injEq, V.ref.injEq, eqQ_int, eqQ_bl, eqQ_str, eqQ_ref, eqQ_nn, eqQ_ni, eqQ_in, eqQ_is, eqQ_si, L2.start, List.map_cons, List.map_nil, List.cons_append, List.nil_append, List.append_nil, List.length_cons, List.length_nil, List.replicate, List.getElem?_cons_zero, List.getElem?_cons_succ, List.set_cons_zero, List.set_cons_succ, Nat.reduceSub, Nat.reduceAdd, Int.reduceLT, Int.reduceLE, Int.reducePow, Int.reduceNeg, Nat.reducePow, List.cons.injEq, exists_eq_left', exists_eq_left, eq_self, if_false, if_true, ↓reduceIte, ite_not, forall_const, Option.join, Option.bind_some, id_eq])
    refine ⟨_, _, hp, no_span _, nT, d, cs, c, J1, hc, rfl, fun q hq => ?_⟩
    have qD : D ≠ q := ne_of_none hd1 hq
    refine for_tupC (SqT.of upd_same) (for_tup (fun j σ H' => Same H H' ∧ NoT H' ∧ H' q = some (.tup [.int c.fi, cl c.un]) ∧ ∃ kvs z2, H' D = some (.dK kvs) ∧ IntK kvs ∧ kvs.length ≤ 2 + 4 * i + 2 * j ∧ σ = [some (.ref p), some (.ref t), some (.ref D), some (L2.T c.pa), z2]) ⟨sm.trans (same_upd _ hq), noT_upd nT rfl, upd_same, kvs, z2, (upd_ne qD).trans hd1, ik, by omega, rfl⟩ (fun j σ H' _ h => SqT.of h.2.2.1) ?_ ?_)
    · rintro j x σ H2 hx2 ⟨sm2, nT2, hq2, kvs2, z3, hd2, ik2, lk2, rfl⟩
      have hj : j < 2 := by
        have := (List.getElem?_eq_some_iff.mp hx2).1
        simpa using this
      have hx3 : x = .non ∨ ∃ m, x = .int m := by
        have : x ∈ [V.int c.fi, cl c.un] := List.mem_of_getElem? hx2
        simp only [List.mem_cons, List.not_mem_nil, or_false] at this
        rcases this with rfl | rfl
        · exact .inr ⟨_, rfl⟩
        · cases c.un with
          | none => exact .inl rfl
          | some t => exact .inr ⟨t, rfl⟩
      have q2D : q ≠ D := Ne.symm qD
      rcases hx3 with rfl | ⟨m, rfl⟩
      · ((try dsimp only [sp_is_whole, sp_is_among, sp_is_day, sp_never1, sp_signs_lie, sp_is_name, sp_are_names, sp_is_path, sp_names_of, sp_above, sp_a_init, sp_on, sp_later, sp_c_init, sp_has, sp_account, sp_add_top, sp_add, sp_shut, sp_span, sp_is_open, sp_beneath, sp_accounts, sp_at, sp_name_by, sp_went, sp_uppers]); try simp only [rdAllI, rdI, V.int.injEq, V.ref.injEq, eqQ_int, eqQ_bl, eqQ_str, eqQ_ref, eqQ_nn, eqQ_ni, eqQ_in, eqQ_is, eqQ_si, L2.start, List.map_cons, List.map_nil, List.cons_append, List.nil_append, List.append_nil, List.length_cons, List.length_nil, List.replicate, List.getElem?_cons_zero, List.getElem?_cons_succ, List.set_cons_zero, List.set_cons_succ, Nat.reduceSub, Nat.reduceAdd, Int.reduceLT, Int.reduceLE, Int.reducePow, Int.reduceNeg, Nat.reducePow, List.cons.injEq, exists_eq_left', exists_eq_left, eq_self, if_false, if_true, ↓reduceIte, ite_not, forall_const, Option.join, Option.bind_some, id_eq])
        exact ⟨sm2, nT2, hq2, kvs2, _, hd2, ik2, by omega, rfl⟩
      · ((try dsimp only [sp_is_whole, sp_is_among, sp_is_day, sp_never1, sp_signs_lie, sp_is_name, sp_are_names, sp_is_path, sp_names_of, sp_above, sp_a_init, sp_on, sp_later, sp_c_init, sp_has, sp_account, sp_add_top, sp_add, sp_shut, sp_span, sp_is_open, sp_beneath, sp_accounts, sp_at, sp_name_by, sp_went, sp_uppers]); try simp only [rdAllI, rdI, V.int.injEq, V.ref.injEq, eqQ_int, eqQ_bl, eqQ_str, eqQ_ref, eqQ_nn, eqQ_ni, eqQ_in, eqQ_is, eqQ_si, L2.start, List.map_cons, List.map_nil, List.cons_append, List.nil_append, List.append_nil, List.length_cons, List.length_nil, List.replicate, List.getElem?_cons_zero, List.getElem?_cons_succ, List.set_cons_zero, List.set_cons_succ, Nat.reduceSub, Nat.reduceAdd, Int.reduceLT, Int.reduceLE, Int.reducePow, Int.reduceNeg, Nat.reducePow, List.cons.injEq, exists_eq_left', exists_eq_left, eq_self, if_false, if_true, ↓reduceIte, ite_not, forall_const, Option.join, Option.bind_some, id_eq])
        have l1 := length_putK kvs2 (.inl m) (.bl true)
        have l2 := length_putK (putK kvs2 (.inl m) (.bl true)) (.inl (if m - 1 > 0 then m - 1 else 0)) (.bl true)
        exact itn (by intro z; cases z) ⟨D, _, rfl, DPut.k (k := .inl m) hd2 (by omega), D, _, rfl, DPut.k (k := .inl _) upd_same (by omega), same_fresh (same_fresh sm2 hD) hD, noT_upd (noT_upd nT2 rfl) rfl, by rw [upd_ne q2D, upd_ne q2D]; exact hq2, _, _, upd_same, (ik2.put _ _).put _ _, by omega, rfl⟩
    · rintro σ H2 ⟨sm2, nT2, hq2, kvs2, z3, hd2, ik2, lk2, rfl⟩
      exact ⟨sm2, nT2, kvs2, _, _, hd2, ik2, by simp only [List.length_cons, List.length_nil] at lk2; omega, rfl⟩
  · rintro σ H1 ⟨sm, nT, kvs, z1, z2, hd1, ik, lk, rfl⟩
    ((try dsimp only [sp_is_whole, sp_is_among, sp_is_day, sp_never1, sp_signs_lie, sp_is_name, sp_are_names, sp_is_path, sp_names_of, sp_above, sp_a_init, sp_on, sp_later, sp_c_init, sp_has, sp_account, sp_add_top, sp_add, sp_shut, sp_span, sp_is_open, sp_beneath, sp_accounts, sp_at, sp_name_by, sp_went, sp_uppers]); try simp only [rdAllI, rdI, V.int.injEq, V.ref.injEq, eqQ_int, eqQ_bl, eqQ_str, eqQ_ref, eqQ_nn, eqQ_ni, eqQ_in, eqQ_is, eqQ_si, L2.start, List.map_cons, List.map_nil, List.cons_append, List.nil_append, List.append_nil, List.length_cons, List.length_nil, List.replicate, List.getElem?_cons_zero, List.getElem?_cons_succ, List.set_cons_zero, List.set_cons_succ, Nat.reduceSub, Nat.reduceAdd, Int.reduceLT, Int.reduceLE, Int.reducePow, Int.reduceNeg, Nat.reducePow, List.cons.injEq, exists_eq_left', exists_eq_left, eq_self, if_false, if_true, ↓reduceIte, ite_not, forall_const, Option.join, Option.bind_some, id_eq])
    obtain ⟨ds, e1, e2⟩ := ik.ints
    rw [List.length_map, List.length_map] at lk
    refine ⟨kvs, hd1, fun q hq => ?_⟩
    rw [e1]
    exact ⟨_, Gc.one (sm.trans (same_upd _ hq)) (sm.free hq) upd_same rfl, k ds q (by omega) (sm.free hq)⟩
theorem eqR_nil {K : PySem.W.Frag} {H : Hp} {p q : Addr} {xs : List V} (hx : SqL K H p xs) (hq : SqL K H q []) : EqR K H p q xs.isEmpty := by
  cases xs with
  | nil => exact EqR.lst (e := fun _ => true) hx hq rfl fun j x y g _ => by simp at g
  | cons a r => exact EqR.len hx hq (by simp)
def shutV (as : List Acc) (dd : Int) : V → Bool
  | .str y => (match fnd as y.cps.toList with | some c => !(opn c.fi c.un dd) | none => false)
  | _ => false
theorem gLt_cl {u : Option Int} {t dd : Int} {H : Hp} {R : VK} (h : u = some t) (q : R (.bl (decide (dd < t))) H) : gLt (.int dd) (cl u) H R := by subst h; exact q
theorem gLe_cl {u : Option Int} {t dd : Int} {H : Hp} {R : VK} (h : u = some t) (q : R (.bl (decide (t ≤ dd))) H) : gLe (cl u) (.int dd) H R := by subst h; exact q
theorem once {A B : Prop} (f : A → B) (x : A) : B := f x
def sp_span_good (K : PySem.W.Frag) (C A : Addr) : Sp := sp3 fun x y z H Q _ => NoT H ∧ asR x fun p => asT y fun l => asR z fun q => ∃ d cs c ds, CAt C A H p d cs ∧ Good cs ∧ c ∈ cs ∧ c.pa = l ∧ H q = some (.lst ((ds : List Int).map V.int)) ∧ Q (.bl true) H
theorem ok__law_span_good (T : Txt K mg a) : FnOk P w K mg base (XE P w) 6 a.f__law_span_good a.fd__law_span_good ["_law_chart", "_law_path", "_law_days_here"] (sp_span_good K a.c_Chart a.c_Account) := by
  refine T.F__law_span_good.okG sc__law_span_good (fun vs H Q E h => sp3.len h) (fun cdv A outer s H vs Q E hr h => ?_)
  obtain ⟨x0, x1, x2, rfl, h⟩ := sp3.inv h
  have ND := sc__law_span_good.nd
  have PX : Passes' (XE P w) (cxOf (XE P w) P w K mg base ["_law_chart", "_law_path", "_law_days_here", "_law_first", "_law_end", "_law_day", "_law_found", "_law_shut"] "_law_span_good" (defScope s__law_span_good) a.f__law_span_good cdv A outer s H (gcE H E)) (fun _ => (gcE H E)) := passB
  have RX : Raises (cxOf (XE P w) P w K mg base ["_law_chart", "_law_path", "_law_days_here", "_law_first", "_law_end", "_law_day", "_law_found", "_law_shut"] "_law_span_good" (defScope s__law_span_good) a.f__law_span_good cdv A outer s H (gcE H E)) (fun _ => (gcE H E)) := raisesB
  have HU : (cxOf (XE P w) P w K mg base ["_law_chart", "_law_path", "_law_days_here", "_law_first", "_law_end", "_law_day", "_law_found", "_law_shut"] "_law_span_good" (defScope s__law_span_good) a.f__law_span_good cdv A outer s H (gcE H E)).A.units + 100 < cLine := units100 hr
  have PW : PassesOwn (model P w) (cxOf (XE P w) P w K mg base ["_law_chart", "_law_path", "_law_days_here", "_law_first", "_law_end", "_law_day", "_law_found", "_law_shut"] "_law_span_good" (defScope s__law_span_good) a.f__law_span_good cdv A outer s H (gcE H E)).A (cxOf (XE P w) P w K mg base ["_law_chart", "_law_path", "_law_days_here", "_law_first", "_law_end", "_law_day", "_law_found", "_law_shut"] "_law_span_good" (defScope s__law_span_good) a.f__law_span_good cdv A outer s H (gcE H E)).env (cxOf (XE P w) P w K mg base ["_law_chart", "_law_path", "_law_days_here", "_law_first", "_law_end", "_law_day", "_law_found", "_law_shut"] "_law_span_good" (defScope s__law_span_good) a.f__law_span_good cdv A outer s H (gcE H E)).xe := by passes_own
  obtain ⟨hN, h1⟩ := h
  obtain ⟨p, rfl, h2⟩ := asR.inv h1
  obtain ⟨l, rfl, h3⟩ := asT.inv h2
  obtain ⟨q, rfl, d, cs, c, ds, J, G, hc, rfl, hq, k⟩ := asR.inv h3
  have G__law_uppers := ok__law_uppers (P := P) (w := w) (base := base) T
  have b__law_uppers := bn__law_uppers T.F__law_uppers
  have G_Chart_is_open := ok_Chart_is_open (P := P) (w := w) (base := base) T
  have b_Chart_is_open := bn_Chart_is_open T.F_Chart_is_open
  have G_Chart_span_of := ok_Chart_span_of (P := P) (w := w) (base := base) T
  have b_Chart_span_of := bn_Chart_span_of T.F_Chart_span_of
  have c2 : ∃ u, PSs (cxOf (XE P w) P w K mg base ["_law_chart", "_law_path", "_law_days_here", "_law_first", "_law_end", "_law_day", "_law_found", "_law_shut"] "_law_span_good" (defScope s__law_span_good) a.f__law_span_good cdv A outer s H (gcE H E)) (List.drop 2 (defBody s__law_span_good)) u ∧ ∀ H1, Same H H1 → NoT H1 → u { nx := fun _ H' => ∃ G, Gc H G H' ∧ Q .non G, rt := fun v H' => ∃ G, Gc H G H' ∧ Q v G } [some (.ref p), some (L2.T c.pa), some (.ref q), some (.int c.fi), some (cl c.un), none, none, none] H1 := by
    refine ⟨_, (pss_cons (ps_for PW rfl (fi_listK K (fv 2)) (pg_name (i := 5) ND rfl (Or.inr rfl)) (pss_cons (ps_set (i := 6) ND rfl (Or.inl rfl) (pe_methX (fv 0) T.cl_Chart T.mt_Chart_is_open G_Chart_is_open (hr.mono (by decide)) b_Chart_is_open .nil PX (FA.pa (fa_cons (fv 1) (fa_cons (fv 5) fa_nil)))))
      (pss_cons (ps_if (L2.PW.pt (pw_or (pt_not (ft_val (pe_callB (fc_isiK K) rfl T.z_isinstance bb_isinstance (FA.pa (fa_cons (fv 6) (fa_cons (pe_bltn (v := .ty "bool") rfl T.z_bool bb_bool rfl) fa_nil)))))) (pw_or1 (ft_cmp (fo_neQ K HU) (fv 6) (fe_and (pe_cmpR fo_le (fv 3) (fv 5) (nomark _)) (pe_one (fe_or (pe_cmp (pc_isN (fv 4))) (pe_one (pe_cmpR fo_lt (fv 5) (fv 4) (nomark _)))))) (nomark _))))) (pss_one (ps_ret pe_bl)) pss_nil)
      (pss_cons (ps_setC (i0 := 7) ND rfl (Or.inl rfl) rfl (cl := _) (fr := ["_law_day", "_law_chart"]) (ks := [5, 0]) (by exact ⟨rfl, by decide +kernel, rfl, by decide +kernel, rfl, keys_of rfl, rfl, kinds_of rfl, kinds_of (k := fun y => List.lookup y _) rfl, only_of rfl⟩) rfl (by decide) (fi_listK K (pe_callX G__law_uppers (hr.mono (by decide)) rfl T.m__law_uppers T.F__law_uppers.kp b__law_uppers .nil PX (FA.pa (fa_cons (fv 1) fa_nil)))) (fun _ _ _ _ _ => (pts_one (ft_is (pc_notB (pe_methX (fv 2) T.cl_Chart T.mt_Chart_is_open G_Chart_is_open (hr.mono (by decide)) b_Chart_is_open .nil passF (FA.pa (fa_cons (fv 0) (fa_cons (fv 1) fa_nil)))))))) (fun _ _ _ _ _ => (fv 0)))
      (pss_one (ps_if (pt_gc (L2.PW.pt (pw_and (ft_val (fv 6)) (pw_and1 (ft_cmp (fo_neQ K HU) (fv 7) (pe_lst (FA.pa fa_nil)) (nomark _)))))) (pss_one (ps_ret pe_bl)) pss_nil))))))
      (pss_one (ps_ret pe_bl))), fun H1 s1 n1 => ?_⟩
    ((try dsimp only [sp_is_whole, sp_is_among, sp_is_day, sp_never1, sp_signs_lie, sp_is_name, sp_are_names, sp_is_path, sp_names_of, sp_above, sp_a_init, sp_on, sp_later, sp_c_init, sp_has, sp_account, sp_add_top, sp_add, sp_shut, sp_span, sp_is_open, sp_beneath, sp_accounts, sp_at, sp_name_by, sp_went, sp_uppers, sp_days]); try simp only [rdAllI, rdI, V.int.injEq, V.ref.injEq, eqQ_int, eqQ_bl, eqQ_str, eqQ_ref, eqQ_nn, eqQ_ni, eqQ_in, eqQ_is, eqQ_si, L2.start, List.map_cons, List.map_nil, List.cons_append, List.nil_append, List.append_nil, List.length_cons, List.length_nil, List.replicate, List.getElem?_cons_zero, List.getElem?_cons_succ, List.set_cons_zero, List.set_cons_succ, Nat.reduceSub, Nat.reduceAdd, Int.reduceLT, Int.reduceLE, Int.reducePow, Int.reduceNeg, Nat.reducePow, List.cons.injEq, exists_eq_left', exists_eq_left, eq_self, if_false, if_true, ↓reduceIte, ite_not, forall_const, Option.join, Option.bind_some, id_eq])
    refine for_lstB ?_
    ((try dsimp only [sp_is_whole, sp_is_among, sp_is_day, sp_never1, sp_signs_lie, sp_is_name, sp_are_names, sp_is_path, sp_names_of, sp_above, sp_a_init, sp_on, sp_later, sp_c_init, sp_has, sp_account, sp_add_top, sp_add, sp_shut, sp_span, sp_is_open, sp_beneath, sp_accounts, sp_at, sp_name_by, sp_went, sp_uppers, sp_days]); try simp only [rdAllI, rdI, V.int.injEq, V.ref.injEq, eqQ_int, eqQ_bl, eqQ_str, eqQ_ref, eqQ_nn, eqQ_ni, eqQ_in, eqQ_is, eqQ_si, L2.start, List.map_cons, List.map_nil, List.cons_append, List.nil_append, List.append_nil, List.length_cons, List.length_nil, List.replicate, List.getElem?_cons_zero, List.getElem?_cons_succ, List.set_cons_zero, List.set_cons_succ, Nat.reduceSub, Nat.reduceAdd, Int.reduceLT, Int.reduceLE, Int.reducePow, Int.reduceNeg, Nat.reducePow, List.cons.injEq, exists_eq_left', exists_eq_left, eq_self, if_false, if_true, ↓reduceIte, ite_not, forall_const, Option.join, Option.bind_some, id_eq])
    refine for_lstC (SqL.of (s1 _ _ hq)) (for_list (fun i σ H' => Same H H' ∧ NoT H' ∧ ∃ z1 z2 z3, σ = [some (.ref p), some (L2.T c.pa), some (.ref q), some (.int c.fi), some (cl c.un), z1, z2, z3]) ⟨s1, n1, none, none, none, rfl⟩ (fun i σ H' _ h => SqL.of (h.1 _ _ hq)) ?_ ?_)
    · rintro i x σ H2 hx ⟨sm, nT, z1, z2, z3, rfl⟩
      obtain ⟨dd, rfl⟩ : ∃ dd, x = .int dd := by
        rw [List.getElem?_map] at hx
        obtain ⟨c, e1, e2⟩ := Option.map_eq_some_iff.mp hx
        exact ⟨c, e2.symm⟩
      have J1 := J.same sm
      obtain ⟨dx, hp⟩ := J1.ob
      ((try dsimp only [sp_is_whole, sp_is_among, sp_is_day, sp_never1, sp_signs_lie, sp_is_name, sp_are_names, sp_is_path, sp_names_of, sp_above, sp_a_init, sp_on, sp_later, sp_c_init, sp_has, sp_account, sp_add_top, sp_add, sp_shut, sp_span, sp_is_open, sp_beneath, sp_accounts, sp_at, sp_name_by, sp_went, sp_uppers, sp_days]); try simp only [rdAllI, rdI, V.int.injEq, V.ref.injEq, eqQ_int, eqQ_bl, eqQ_str, eqQ_ref, eqQ_nn, eqQ_ni, eqQ_in, eqQ_is, eqQ_si, L2.start, List.map_cons, List.map_nil, List.cons_append, List.nil_append, List.append_nil, List.length_cons, List.length_nil, List.replicate, List.getElem?_cons_zero, List.getElem?_cons_succ, List.set_cons_zero, List.set_cons_succ, Nat.reduceSub, Nat.reduceAdd, Int.reduceLT, Int.reduceLE, Int.reducePow, Int.reduceNeg, Nat.reducePow, List.cons.injEq, exists_eq_left', exists_eq_left, eq_self, if_false, if_true, ↓reduceIte, ite_not, forall_const, Option.join, Option.bind_some, id_eq])
      refine ⟨_, _, hp, no_open _, nT, d, cs, c, J1, hc, rfl, ?_⟩
      refine' once (fun key => _) _
      rotate_left 1
      · have hu : c.un = none ∨ ∃ t, c.un = some t := by cases c.un <;> simp
        by_cases h1 : c.fi ≤ dd
        · refine itp h1 ?_
          rcases hu with hu | ⟨t, hu⟩
          · refine itp (by rw [hu]; rfl) ?_
            exact itp (by simp [opn, lat, h1, hu]) key
          · refine itn (by rw [hu]; intro z; cases z) (gLt_cl hu ?_)
            have e1 : opn c.fi c.un dd = decide (dd < t) := by rw [hu]; unfold opn lat; rw [decide_eq_true h1]; rfl
            rw [eqQ_bl]
            have e2 : (true ^^ decide (opn c.fi c.un dd = decide (dd < t))) = false := by rw [decide_eq_true e1]; rfl
            rw [e2]
            exact key
        · refine itn h1 ?_
          have e1 : opn c.fi c.un dd = false := by unfold opn; rw [decide_eq_false h1]; rfl
          exact itp e1 key
      · refine comp_lstB ?_
        ((try dsimp only [sp_is_whole, sp_is_among, sp_is_day, sp_never1, sp_signs_lie, sp_is_name, sp_are_names, sp_is_path, sp_names_of, sp_above, sp_a_init, sp_on, sp_later, sp_c_init, sp_has, sp_account, sp_add_top, sp_add, sp_shut, sp_span, sp_is_open, sp_beneath, sp_accounts, sp_at, sp_name_by, sp_went, sp_uppers, sp_days]); try simp only [rdAllI, rdI, V.int.injEq, V.ref.injEq, eqQ_int, eqQ_bl, eqQ_str, eqQ_ref, eqQ_nn, eqQ_ni, eqQ_in, eqQ_is, eqQ_si, L2.start, List.map_cons, List.map_nil, List.cons_append, List.nil_append, List.append_nil, List.length_cons, List.length_nil, List.replicate, List.getElem?_cons_zero, List.getElem?_cons_succ, List.set_cons_zero, List.set_cons_succ, Nat.reduceSub, Nat.reduceAdd, Int.reduceLT, Int.reduceLE, Int.reducePow, Int.reduceNeg, Nat.reducePow, List.cons.injEq, exists_eq_left', exists_eq_left, eq_self, if_false, if_true, ↓reduceIte, ite_not, forall_const, Option.join, Option.bind_some, id_eq])
        refine ⟨nT, ⟨(G.pl c hc).1, Nat.le_trans (G.pl c hc).2 (by decide)⟩, fun l1 hl1 => ?_⟩
        have sz : 1000 ≤ sizeLine := by rw [sizeLine_eq]; decide
        have al : (abN c.pa).length ≤ 200 := by
          have h1 := spN_len 58 c.pa
          have h2 := (G.pl c hc).2
          unfold abN; rw [List.length_map, List.length_range]; omega
        have ups := G.uppers c.pa.length c hc (Nat.le_refl _)
        have sm1 := sm.trans (same_upd (tx (abN c.pa)) hl1)
        have N1 : NoT (upd H2 l1 (tx (abN c.pa))) := noT_upd nT rfl
        have hS : SqL K (upd H2 l1 (tx (abN c.pa))) l1 ((abN c.pa).map L2.T) := SqL.of upd_same
        generalize upd H2 l1 (tx (abN c.pa)) = H3 at sm1 N1 hS ⊢
        refine comp_lst l1 ((abN c.pa).map L2.T) (fun H' => NoT H' ∧ Same H3 H') (fun D ys hD => ⟨noT_upd N1 rfl, same_upd _ hD⟩) (fun H' c => hS.same c.2) (shutV cs dd) (fun x => x) (fun R r => r) hS (by rw [List.length_map]; omega) (fun x hx H' R cc r => ?_) (fun x _ _ H' R _ r => r) (fun D hD => ?_)
        · obtain ⟨l', hl', rfl⟩ := List.mem_map.mp hx
          obtain ⟨y, hy, py, oy⟩ := ups l' hl'
          have J3 := J.same (sm1.trans cc.2)
          obtain ⟨dx3, hp3⟩ := J3.ob
          have fy : fnd cs l' = some y := by rw [← py]; exact fnd_of J.np hy
          have e1 : shutV cs dd (L2.T l') = !(opn y.fi y.un dd) := by
            show (match fnd cs l' with | some c => !(opn c.fi c.un dd) | none => false) = _
            rw [fy]
          rw [e1] at r
          ((try dsimp only [sp_is_whole, sp_is_among, sp_is_day, sp_never1, sp_signs_lie, sp_is_name, sp_are_names, sp_is_path, sp_names_of, sp_above, sp_a_init, sp_on, sp_later, sp_c_init, sp_has, sp_account, sp_add_top, sp_add, sp_shut, sp_span, sp_is_open, sp_beneath, sp_accounts, sp_at, sp_name_by, sp_went, sp_uppers, sp_days]); try simp only [rdAllI, rdI, V.int.injEq, V.ref.injEq, eqQ_int, eqQ_bl, eqQ_str, eqQ_ref, eqQ_nn, eqQ_ni, eqQ_in, eqQ_is, eqQ_si, L2.start, List.map_cons, List.map_nil, List.cons_append, List.nil_append, List.append_nil, List.length_cons, List.length_nil, List.replicate, List.getElem?_cons_zero, List.getElem?_cons_succ, List.set_cons_zero, List.set_cons_succ, Nat.reduceSub, Nat.reduceAdd, Int.reduceLT, Int.reduceLE, Int.reducePow, Int.reduceNeg, Nat.reducePow, List.cons.injEq, exists_eq_left', exists_eq_left, eq_self, if_false, if_true, ↓reduceIte, ite_not, forall_const, Option.join, Option.bind_some, id_eq])
          refine ⟨_, _, hp3, no_open _, cc.1, d, cs, y, J3, hy, py, ?_⟩
          rw [Bool.decide_eq_true]; exact r
        · have n4 : NoT (upd H3 D (HO.lst (List.map (fun x => x) (List.filter (shutV cs dd) (List.map L2.T (abN c.pa)))))) := noT_upd N1 rfl
          have s4 := sm1.trans (same_upd (HO.lst (List.map (fun x => x) (List.filter (shutV cs dd) (List.map L2.T (abN c.pa))))) hD)
          refine ⟨n4, ?_⟩
          by_cases ho : opn c.fi c.un dd = true
          · refine itp ho ⟨Nat.zero_le _, fun p2 hp2 => ?_⟩
            have e0 : List.map (fun x => x) (List.filter (shutV cs dd) (List.map L2.T (abN c.pa))) = [] := by
              rw [List.map_eq_nil_iff]
              refine List.filter_eq_nil_iff.mpr fun x hx => ?_
              obtain ⟨l', hl', rfl⟩ := List.mem_map.mp hx
              obtain ⟨y, hy, py, oy⟩ := ups l' hl'
              have fy : fnd cs l' = some y := by rw [← py]; exact fnd_of J.np hy
              have e1 : shutV cs dd (L2.T l') = !(opn y.fi y.un dd) := by
                show (match fnd cs l' with | some c => !(opn c.fi c.un dd) | none => false) = _
                rw [fy]
              rw [e1, oy dd ho]; decide
            rw [e0] at hp2 n4 s4 ⊢
            refine ⟨_, eqR_nil (.inl (.inl ((upd_ne (fun z => by rw [← z, upd_same] at hp2; cases hp2)).trans upd_same))) (.inl (.inl upd_same)), ?_⟩
            exact ⟨_, Gc.none (same_upd _ hp2), s4, n4, _, _, _, rfl, rfl, rfl⟩
          · exact itn ho ⟨s4, n4, _, _, _, rfl, rfl, rfl⟩
    · rintro σ H2 ⟨sm, nT, z1, z2, z3, rfl⟩
      ((try dsimp only [sp_is_whole, sp_is_among, sp_is_day, sp_never1, sp_signs_lie, sp_is_name, sp_are_names, sp_is_path, sp_names_of, sp_above, sp_a_init, sp_on, sp_later, sp_c_init, sp_has, sp_account, sp_add_top, sp_add, sp_shut, sp_span, sp_is_open, sp_beneath, sp_accounts, sp_at, sp_name_by, sp_went, sp_uppers, sp_days]); try simp only [rdAllI, rdI, V.int.injEq, V.ref.injEq, eqQ_int, eqQ_bl, eqQ_str, eqQ_ref, eqQ_nn, eqQ_ni, eqQ_in, eqQ_is, eqQ_si, L2.start, List.map_cons, List.map_nil, List.cons_append, List.nil_append, List.append_nil, List.length_cons, List.length_nil, List.replicate, List.getElem?_cons_zero, List.getElem?_cons_succ, List.set_cons_zero, List.set_cons_succ, Nat.reduceSub, Nat.reduceAdd, Int.reduceLT, Int.reduceLE, Int.reducePow, Int.reduceNeg, Nat.reducePow, List.cons.injEq, exists_eq_left', exists_eq_left, eq_self, if_false, if_true, ↓reduceIte, ite_not, forall_const, Option.join, Option.bind_some, id_eq])
      exact ⟨H, Gc.none sm, k⟩
  obtain ⟨u2, hu2, c2⟩ := c2
  refine ⟨hN, _, (pss_cons (ps_asg (pe_methX (fv 0) T.cl_Chart T.mt_Chart_span_of G_Chart_span_of (hr.mono (by decide)) b_Chart_span_of .nil PX (FA.pa (fa_cons (fv 1) fa_nil))) (fg_tupK K (n := 2) rfl (pgs_cons (pg_name (i := 3) ND rfl (Or.inl rfl)) (pgs_cons (pg_name (i := 4) ND rfl (Or.inl rfl)) pgs_nil))))
      (pss_cons (ps_if (L2.PW.pt (pw_and (ft_is (pc_notN (fv 4))) (pw_and1 (ft_cmp fo_le (fv 4) (fv 3) (nomark _))))) (pss_one (ps_ret pe_bl)) pss_nil)
      hu2)), ?_⟩
  ((try dsimp only [sp_is_whole, sp_is_among, sp_is_day, sp_never1, sp_signs_lie, sp_is_name, sp_are_names, sp_is_path, sp_names_of, sp_above, sp_a_init, sp_on, sp_later, sp_c_init, sp_has, sp_account, sp_add_top, sp_add, sp_shut, sp_span, sp_is_open, sp_beneath, sp_accounts, sp_at, sp_name_by, sp_went, sp_uppers, sp_days]); try simp only [rdAllI, rdI, V.int.injEq, V.ref.injEq, eqQ_int, eqQ_bl, eqQ_str, eqQ_ref, eqQ_nn, eqQ_ni, eqQ_in, eqQ_is, eqQ_si, L2.start, List.map_cons, List.map_nil, List.cons_append, List.nil_append, List.append_nil, List.length_cons, List.length_nil, List.replicate, List.getElem?_cons_zero, List.getElem?_cons_succ, List.set_cons_zero, List.set_cons_succ, Nat.reduceSub, Nat.reduceAdd, Int.reduceLT, Int.reduceLE, Int.reducePow, Int.reduceNeg, Nat.reducePow, List.cons.injEq, exists_eq_left', exists_eq_left, eq_self, if_false, if_true, ↓reduceIte, ite_not, forall_const, Option.join, Option.bind_some, id_eq])
  obtain ⟨dx, hp⟩ := J.ob
  refine ⟨_, _, hp, no_span _, hN, d, cs, c, J, hc, rfl, fun q1 hq1 => ⟨q1, _, rfl, SqT.of upd_same, rfl, _, _, rfl, _, _, rfl, rfl, ?_⟩⟩
  have c3 := c2 _ (same_upd (.tup [V.int c.fi, cl c.un]) hq1) (noT_upd hN rfl)
  cases eu : c.un with
  | none =>
    rw [eu] at c3
    exact itp rfl c3
  | some t =>
    rw [eu] at c3
    refine itn (by intro z; cases z) ?_
    have ht := G.sp c hc t eu
    refine gLe_cl rfl ?_
    rw [decide_eq_false (by omega)]
    exact c3
end
end K8
set_option Elab.async false
set_option linter.all false
set_option maxRecDepth 100000
set_option maxHeartbeats 400000
namespace K8
open PySem L2
seal L2.PE L2.PT L2.PW L2.PA L2.PS L2.PSs L2.PI L2.PG L2.PGs L2.PO
section
variable {pS : Addr} {ns : List Int} {P : Program} {w : World} {K : PySem.W.Frag} {mg : Str → Option Value} {base : Heap} {a : Adr}
theorem flat_txts (ls : List (List Nat)) : (ls.map L2.T).all flatV = true := by
  rw [List.all_map]; exact List.all_eq_true.mpr fun _ _ => rfl
def topV : V → Bool
  | .str y => qT y.cps.toList
  | _ => false
theorem top_txts (ls : List (List Nat)) : List.map (fun x => x) (List.filter topV (ls.map L2.T)) = (ls.filter qT).map L2.T := by
  rw [List.map_id', List.filter_map]; rfl
def sp_all_good (C A : Addr) : Sp := sp2 fun x y H Q _ => NoT H ∧ asR x fun p => asR y fun t => ∃ d cs, CAt C A H p d cs ∧ Good cs ∧ cs.length ≤ 50 ∧ H t = some (.lst ((cs.map (·.pa)).map L2.T)) ∧ Q (.bl true) H
theorem ok__law_all_good (T : Txt K mg a) : FnOk P w K mg base (XE P w) 8 a.f__law_all_good a.fd__law_all_good ["_law_chart", "_law_taken"] (sp_all_good a.c_Chart a.c_Account) := by
  refine T.F__law_all_good.okG sc__law_all_good (fun vs H Q E h => sp2.len h) (fun cdv A outer s H vs Q E hr h => ?_)
  obtain ⟨x0, x1, rfl, h⟩ := sp2.inv h
  have ND := sc__law_all_good.nd
  have PX : Passes' (XE P w) (cxOf (XE P w) P w K mg base ["_law_chart", "_law_taken", "_law_below", "_law_path", "_law_days_here"] "_law_all_good" (defScope s__law_all_good) a.f__law_all_good cdv A outer s H (gcE H E)) (fun _ => (gcE H E)) := passB
  have RX : Raises (cxOf (XE P w) P w K mg base ["_law_chart", "_law_taken", "_law_below", "_law_path", "_law_days_here"] "_law_all_good" (defScope s__law_all_good) a.f__law_all_good cdv A outer s H (gcE H E)) (fun _ => (gcE H E)) := raisesB
  have HU : (cxOf (XE P w) P w K mg base ["_law_chart", "_law_taken", "_law_below", "_law_path", "_law_days_here"] "_law_all_good" (defScope s__law_all_good) a.f__law_all_good cdv A outer s H (gcE H E)).A.units + 100 < cLine := units100 hr
  have PW : PassesOwn (model P w) (cxOf (XE P w) P w K mg base ["_law_chart", "_law_taken", "_law_below", "_law_path", "_law_days_here"] "_law_all_good" (defScope s__law_all_good) a.f__law_all_good cdv A outer s H (gcE H E)).A (cxOf (XE P w) P w K mg base ["_law_chart", "_law_taken", "_law_below", "_law_path", "_law_days_here"] "_law_all_good" (defScope s__law_all_good) a.f__law_all_good cdv A outer s H (gcE H E)).env (cxOf (XE P w) P w K mg base ["_law_chart", "_law_taken", "_law_below", "_law_path", "_law_days_here"] "_law_all_good" (defScope s__law_all_good) a.f__law_all_good cdv A outer s H (gcE H E)).xe := by passes_own
  obtain ⟨hN, h1⟩ := h
  obtain ⟨p, rfl, h2⟩ := asR.inv h1
  obtain ⟨t, rfl, d, cs, J, G, len, ht, k⟩ := asR.inv h2
  have G__law_span_good := ok__law_span_good (P := P) (w := w) (base := base) T
  have b__law_span_good := bn__law_span_good T.F__law_span_good
  have G__law_days := ok__law_days (P := P) (w := w) (base := base) T
  have b__law_days := bn__law_days T.F__law_days
  have G_Chart_beneath := ok_Chart_beneath (P := P) (w := w) (base := base) T
  have b_Chart_beneath := bn_Chart_beneath T.F_Chart_beneath
  have G_Chart_accounts := ok_Chart_accounts (P := P) (w := w) (base := base) T
  have b_Chart_accounts := bn_Chart_accounts T.F_Chart_accounts
  have c4 : ∃ u, PSs (cxOf (XE P w) P w K mg base ["_law_chart", "_law_taken", "_law_below", "_law_path", "_law_days_here"] "_law_all_good" (defScope s__law_all_good) a.f__law_all_good cdv A outer s H (gcE H E)) (List.drop 4 (defBody s__law_all_good)) u ∧ ∀ H1 z1 z2, Same H H1 → NoT H1 → u { nx := fun _ H' => ∃ G, Gc H G H' ∧ Q .non G, rt := fun v H' => ∃ G, Gc H G H' ∧ Q v G } [some (.ref p), some (.ref t), z1, z2, none] H1 := by
    refine ⟨_, (pss_cons (ps_set (i := 4) ND rfl (Or.inr rfl) (pe_callX G__law_days (hr.mono (by decide)) rfl T.m__law_days T.F__law_days.kp b__law_days .nil PX (FA.pa (fa_cons (fv 0) (fa_cons (fv 1) fa_nil)))))
      (pss_one (ps_ret (pe_cmpR (fo_eqQ K HU) (pe_comp rfl (cl := _) (fr := ["_law_chart", "_law_days_here"]) (ks := [0, 4]) (by exact ⟨rfl, by decide +kernel, rfl, by decide +kernel, rfl, keys_of rfl, rfl, kinds_of rfl, kinds_of (k := fun y => List.lookup y _) rfl, only_of rfl⟩) rfl (by decide) (fi_listK K (fv 1)) (fun _ _ _ _ _ => (pts_one (pt_not (ft_val (pe_callX G__law_span_good (hr.mono (by decide)) rfl T.m__law_span_good T.F__law_span_good.kp b__law_span_good .nil passF (FA.pa (fa_cons (fv 1) (fa_cons (fv 0) (fa_cons (fv 2) fa_nil))))))))) (fun _ _ _ _ _ => (fv 0))) (pe_lst (FA.pa fa_nil)) (nomark _))))), fun H1 z1 z2 sm nT => ?_⟩
    ((try dsimp only [sp_is_whole, sp_is_among, sp_is_day, sp_never1, sp_signs_lie, sp_is_name, sp_are_names, sp_is_path, sp_names_of, sp_above, sp_a_init, sp_on, sp_later, sp_c_init, sp_has, sp_account, sp_add_top, sp_add, sp_shut, sp_span, sp_is_open, sp_beneath, sp_accounts, sp_at, sp_name_by, sp_went, sp_uppers, sp_days, sp_span_good]); try simp only [rdAllI, rdI, V.int.injEq, V.ref.injEq, eqQ_int, eqQ_bl, eqQ_str, eqQ_ref, eqQ_nn, eqQ_ni, eqQ_in, eqQ_is, eqQ_si, L2.start, List.map_cons, List.map_nil, List.cons_append, List.nil_append, List.append_nil, List.length_cons, List.length_nil, List.replicate, List.getElem?_cons_zero, List.getElem?_cons_succ, List.set_cons_zero, List.set_cons_succ, Nat.reduceSub, Nat.reduceAdd, Int.reduceLT, Int.reduceLE, Int.reducePow, Int.reduceNeg, Nat.reducePow, List.cons.injEq, exists_eq_left', exists_eq_left, eq_self, if_false, if_true, ↓reduceIte, ite_not, forall_const, Option.join, Option.bind_some, id_eq])
    refine ⟨nT, d, cs, J.same sm, len, sm _ _ ht, fun ds q _ hq => ?_⟩
    have s2 := sm.trans (same_upd (HO.lst (List.map V.int ds)) hq)
    have n2 : NoT (upd H1 q (HO.lst (List.map V.int ds))) := noT_upd nT rfl
    have hds : upd H1 q (HO.lst (List.map V.int ds)) q = some (HO.lst (List.map V.int ds)) := upd_same
    generalize upd H1 q (HO.lst (List.map V.int ds)) = H2 at s2 n2 hds ⊢
    have hS : SqL K H2 t ((cs.map (·.pa)).map L2.T) := SqL.of (s2 _ _ ht)
    refine comp_lst t ((cs.map (·.pa)).map L2.T) (fun H' => NoT H' ∧ Same H2 H') (fun D ys hD => ⟨noT_upd n2 rfl, same_upd _ hD⟩) (fun H' c => hS.same c.2) (fun _ => false) (fun x => x) (fun R r => r) hS (by rw [List.length_map, List.length_map, sizeLine_eq]; omega) (fun x hx H' R cc r => ?_) (fun x _ _ H' R _ r => r) (fun D hD => ?_)
    · rw [List.map_map] at hx
      obtain ⟨c, hc, rfl⟩ := List.mem_map.mp hx
      have J3 := J.same (s2.trans cc.2)
      show (tNot _ : TT) [some (L2.T c.pa), _, _] H' R
      ((try dsimp only [sp_is_whole, sp_is_among, sp_is_day, sp_never1, sp_signs_lie, sp_is_name, sp_are_names, sp_is_path, sp_names_of, sp_above, sp_a_init, sp_on, sp_later, sp_c_init, sp_has, sp_account, sp_add_top, sp_add, sp_shut, sp_span, sp_is_open, sp_beneath, sp_accounts, sp_at, sp_name_by, sp_went, sp_uppers, sp_days, sp_span_good]); try simp only [rdAllI, rdI, V.int.injEq, V.ref.injEq, eqQ_int, eqQ_bl, eqQ_str, eqQ_ref, eqQ_nn, eqQ_ni, eqQ_in, eqQ_is, eqQ_si, L2.start, List.map_cons, List.map_nil, List.cons_append, List.nil_append, List.append_nil, List.length_cons, List.length_nil, List.replicate, List.getElem?_cons_zero, List.getElem?_cons_succ, List.set_cons_zero, List.set_cons_succ, Nat.reduceSub, Nat.reduceAdd, Int.reduceLT, Int.reduceLE, Int.reducePow, Int.reduceNeg, Nat.reducePow, List.cons.injEq, exists_eq_left', exists_eq_left, eq_self, if_false, if_true, ↓reduceIte, ite_not, forall_const, Option.join, Option.bind_some, id_eq])
      exact ⟨cc.1, d, cs, c, ds, J3, G, hc, rfl, cc.2 _ _ hds, r⟩
    · refine ⟨Nat.zero_le _, fun p2 hp2 => ?_⟩
      have e0 : List.map (fun x => x) (List.filter (fun _ => false) (List.map L2.T (cs.map (·.pa)))) = [] := by
        rw [List.map_eq_nil_iff]; exact List.filter_eq_nil_iff.mpr fun x hx => by decide
      rw [e0] at hp2 ⊢
      exact ⟨_, eqR_nil (.inl (.inl ((upd_ne (fun z => by rw [← z, upd_same] at hp2; cases hp2)).trans upd_same))) (.inl (.inl upd_same)), H, Gc.none ((s2.trans (same_upd _ hD)).trans (same_upd _ hp2)), k⟩
  obtain ⟨u4, hu4, c4⟩ := c4
  have c3 : ∃ u, PSs (cxOf (XE P w) P w K mg base ["_law_chart", "_law_taken", "_law_below", "_law_path", "_law_days_here"] "_law_all_good" (defScope s__law_all_good) a.f__law_all_good cdv A outer s H (gcE H E)) (List.drop 3 (defBody s__law_all_good)) u ∧ ∀ H1 b z2 (ls : List (List Nat)), Same H H1 → NoT H1 → H1 b = some (.lst (ls.map L2.T)) → ls.Perm (cs.map (·.pa)) → u { nx := fun _ H' => ∃ G, Gc H G H' ∧ Q .non G, rt := fun v H' => ∃ G, Gc H G H' ∧ Q v G } [some (.ref p), some (.ref t), some (.ref b), z2, none] H1 := by
    refine ⟨_, (pss_cons (ps_if (pt_gc (ft_cmp (fo_neQ K HU) (pe_callB (fc_sortS K) rfl T.z_sorted bb_sorted (FA.pa (fa_cons (fv 2) fa_nil))) (pe_callB (fc_sortS K) rfl T.z_sorted bb_sorted (FA.pa (fa_cons (fv 1) fa_nil))) (nomark _))) (pss_one (ps_ret pe_bl)) pss_nil)
      hu4), fun H1 b z2 ls sm nT hb pm => ?_⟩
    ((try dsimp only [sp_is_whole, sp_is_among, sp_is_day, sp_never1, sp_signs_lie, sp_is_name, sp_are_names, sp_is_path, sp_names_of, sp_above, sp_a_init, sp_on, sp_later, sp_c_init, sp_has, sp_account, sp_add_top, sp_add, sp_shut, sp_span, sp_is_open, sp_beneath, sp_accounts, sp_at, sp_name_by, sp_went, sp_uppers, sp_days, sp_span_good]); try simp only [rdAllI, rdI, V.int.injEq, V.ref.injEq, eqQ_int, eqQ_bl, eqQ_str, eqQ_ref, eqQ_nn, eqQ_ni, eqQ_in, eqQ_is, eqQ_si, L2.start, List.map_cons, List.map_nil, List.cons_append, List.nil_append, List.append_nil, List.length_cons, List.length_nil, List.replicate, List.getElem?_cons_zero, List.getElem?_cons_succ, List.set_cons_zero, List.set_cons_succ, Nat.reduceSub, Nat.reduceAdd, Int.reduceLT, Int.reduceLE, Int.reducePow, Int.reduceNeg, Nat.reducePow, List.cons.injEq, exists_eq_left', exists_eq_left, eq_self, if_false, if_true, ↓reduceIte, ite_not, forall_const, Option.join, Option.bind_some, id_eq])
    have pl := pm.length_eq
    rw [List.length_map] at pl
    refine ⟨nT, ls, SqL.of hb, by omega, fun out o1 o2 q hq => ⟨cs.map (·.pa), SqL.of (same_upd _ hq _ _ (sm _ _ ht)), by rw [List.length_map]; omega, fun out2 o3 o4 q2 hq2 => ?_⟩⟩
    have e := ino_uniq ((o1.trans pm).trans o3.symm) o2 o4
    subst e
    exact ⟨true, EqR.flatL (SqL.of ((upd_ne (fun z => by rw [← z, upd_same] at hq2; cases hq2)).trans upd_same)) (SqL.of upd_same) (flat_txts out), H1, Gc.none ((same_upd _ hq).trans (same_upd _ hq2)), c4 H1 _ _ sm nT⟩
  obtain ⟨u3, hu3, c3⟩ := c3
  have c1 : ∃ u, PSs (cxOf (XE P w) P w K mg base ["_law_chart", "_law_taken", "_law_below", "_law_path", "_law_days_here"] "_law_all_good" (defScope s__law_all_good) a.f__law_all_good cdv A outer s H (gcE H E)) (List.drop 1 (defBody s__law_all_good)) u ∧ ∀ H1, Same H H1 → NoT H1 → u { nx := fun _ H' => ∃ G, Gc H G H' ∧ Q .non G, rt := fun v H' => ∃ G, Gc H G H' ∧ Q v G } [some (.ref p), some (.ref t), none, none, none] H1 := by
    refine ⟨_, (pss_cons (ps_setC (i0 := 2) ND rfl (Or.inl rfl) rfl (cl := _) (fr := []) (ks := []) (by exact ⟨rfl, by decide +kernel, rfl, by decide +kernel, rfl, keys_of rfl, rfl, kinds_of rfl, kinds_of (k := fun y => List.lookup y _) rfl, only_of rfl⟩) rfl (by decide) (fi_listK K (fv 1)) (fun _ _ _ _ _ => (pts_one (ft_cmp fo_notin (pe_strT [58]) (fv 0) (by with_unfolding_all rfl)))) (fun _ _ _ _ _ => (fv 0)))
      (pss_cons (ps_for PW rfl (fi_listK K (fv 1)) (pg_name (i := 3) ND rfl (Or.inl rfl)) (pss_one (ps_set (i := 2) ND rfl (Or.inl rfl) (pe_op fo_cat (fv 2) (pe_methX (fv 0) T.cl_Chart T.mt_Chart_beneath G_Chart_beneath (hr.mono (by decide)) b_Chart_beneath .nil PX (FA.pa (fa_cons (fv 3) fa_nil)))))))
      hu3)), fun H1 sm nT => ?_⟩
    ((try dsimp only [sp_is_whole, sp_is_among, sp_is_day, sp_never1, sp_signs_lie, sp_is_name, sp_are_names, sp_is_path, sp_names_of, sp_above, sp_a_init, sp_on, sp_later, sp_c_init, sp_has, sp_account, sp_add_top, sp_add, sp_shut, sp_span, sp_is_open, sp_beneath, sp_accounts, sp_at, sp_name_by, sp_went, sp_uppers, sp_days, sp_span_good]); try simp only [rdAllI, rdI, V.int.injEq, V.ref.injEq, eqQ_int, eqQ_bl, eqQ_str, eqQ_ref, eqQ_nn, eqQ_ni, eqQ_in, eqQ_is, eqQ_si, L2.start, List.map_cons, List.map_nil, List.cons_append, List.nil_append, List.append_nil, List.length_cons, List.length_nil, List.replicate, List.getElem?_cons_zero, List.getElem?_cons_succ, List.set_cons_zero, List.set_cons_succ, Nat.reduceSub, Nat.reduceAdd, Int.reduceLT, Int.reduceLE, Int.reducePow, Int.reduceNeg, Nat.reducePow, List.cons.injEq, exists_eq_left', exists_eq_left, eq_self, if_false, if_true, ↓reduceIte, ite_not, forall_const, Option.join, Option.bind_some, id_eq])
    have hS : SqL K H1 t ((cs.map (·.pa)).map L2.T) := SqL.of (sm _ _ ht)
    refine comp_lst t ((cs.map (·.pa)).map L2.T) (fun H' => SqL K H' t ((cs.map (·.pa)).map L2.T)) (fun D ys hD => hS.same (same_upd _ hD)) (fun H' c => c) topV (fun x => x) (fun R r => r) hS (by rw [List.length_map, List.length_map, sizeLine_eq]; omega) (fun x hx H' R cc r => ?_) (fun x _ _ H' R _ r => r) (fun D hD => ?_)
    · obtain ⟨l, hl, rfl⟩ := List.mem_map.mp hx
      have r' : R (!decide (58 ∈ l)) H' := r
      ((try dsimp only [sp_is_whole, sp_is_among, sp_is_day, sp_never1, sp_signs_lie, sp_is_name, sp_are_names, sp_is_path, sp_names_of, sp_above, sp_a_init, sp_on, sp_later, sp_c_init, sp_has, sp_account, sp_add_top, sp_add, sp_shut, sp_span, sp_is_open, sp_beneath, sp_accounts, sp_at, sp_name_by, sp_went, sp_uppers, sp_days, sp_span_good]); try simp only [rdAllI, rdI, V.int.injEq, V.ref.injEq, eqQ_int, eqQ_bl, eqQ_str, eqQ_ref, eqQ_nn, eqQ_ni, eqQ_in, eqQ_is, eqQ_si, L2.start, List.map_cons, List.map_nil, List.cons_append, List.nil_append, List.append_nil, List.length_cons, List.length_nil, List.replicate, List.getElem?_cons_zero, List.getElem?_cons_succ, List.set_cons_zero, List.set_cons_succ, Nat.reduceSub, Nat.reduceAdd, Int.reduceLT, Int.reduceLE, Int.reducePow, Int.reduceNeg, Nat.reducePow, List.cons.injEq, exists_eq_left', exists_eq_left, eq_self, if_false, if_true, ↓reduceIte, ite_not, forall_const, Option.join, Option.bind_some, id_eq])
      exact r'
    · rw [top_txts]
      have s2 := sm.trans (same_upd (HO.lst (((cs.map (·.pa)).filter qT).map L2.T)) hD)
      have n2 : NoT (upd H1 D (HO.lst (((cs.map (·.pa)).filter qT).map L2.T))) := noT_upd nT rfl
      refine for_lstB ?_
      ((try dsimp only [sp_is_whole, sp_is_among, sp_is_day, sp_never1, sp_signs_lie, sp_is_name, sp_are_names, sp_is_path, sp_names_of, sp_above, sp_a_init, sp_on, sp_later, sp_c_init, sp_has, sp_account, sp_add_top, sp_add, sp_shut, sp_span, sp_is_open, sp_beneath, sp_accounts, sp_at, sp_name_by, sp_went, sp_uppers, sp_days, sp_span_good]); try simp only [rdAllI, rdI, V.int.injEq, V.ref.injEq, eqQ_int, eqQ_bl, eqQ_str, eqQ_ref, eqQ_nn, eqQ_ni, eqQ_in, eqQ_is, eqQ_si, L2.start, List.map_cons, List.map_nil, List.cons_append, List.nil_append, List.append_nil, List.length_cons, List.length_nil, List.replicate, List.getElem?_cons_zero, List.getElem?_cons_succ, List.set_cons_zero, List.set_cons_succ, Nat.reduceSub, Nat.reduceAdd, Int.reduceLT, Int.reduceLE, Int.reducePow, Int.reduceNeg, Nat.reducePow, List.cons.injEq, exists_eq_left', exists_eq_left, eq_self, if_false, if_true, ↓reduceIte, ite_not, forall_const, Option.join, Option.bind_some, id_eq])
      refine for_lstC (SqL.of (s2 _ _ ht)) (for_list (fun i σ H' => Same H H' ∧ NoT H' ∧ ∃ (b : Addr) (z : Option V) (ls : List (List Nat)), H' b = some (.lst (ls.map L2.T)) ∧ ls.Perm ((cs.map (·.pa)).filter qT ++ (cs.take i).flatMap (·.be)) ∧ σ = [some (.ref p), some (.ref t), some (.ref b), z, none]) ⟨s2, n2, D, none, _, upd_same, by rw [List.take_zero, List.flatMap_nil, List.append_nil], rfl⟩ (fun i σ H' _ h => SqL.of (h.1 _ _ ht)) ?_ ?_)
      · rintro i x σ H2 hx ⟨s3, n3, b, z, ls, hb, pm, rfl⟩
        rw [List.map_map, List.getElem?_map] at hx
        obtain ⟨c, e1, e2⟩ := Option.map_eq_some_iff.mp hx
        have hc : c ∈ cs := List.mem_of_getElem? e1
        have e2 : x = L2.T c.pa := e2.symm
        subst e2
        have J3 := J.same s3
        obtain ⟨dx, hp⟩ := J3.ob
        have lc := G.len hc
        have tk : cs.take (i + 1) = cs.take i ++ [c] := by rw [List.take_succ, e1]; rfl
        have ll : ls.length ≤ 50 := by
          have h1 := pm.length_eq
          have h2 := G.pm.length_eq
          rw [List.length_append] at h1 h2
          have h3 : ((cs.take i).flatMap (·.be)).length ≤ (cs.flatMap (·.be)).length := by
            conv => rhs; rw [← List.take_append_drop i cs, List.flatMap_append, List.length_append]
            omega
          rw [List.length_map] at h2
          omega
        ((try dsimp only [sp_is_whole, sp_is_among, sp_is_day, sp_never1, sp_signs_lie, sp_is_name, sp_are_names, sp_is_path, sp_names_of, sp_above, sp_a_init, sp_on, sp_later, sp_c_init, sp_has, sp_account, sp_add_top, sp_add, sp_shut, sp_span, sp_is_open, sp_beneath, sp_accounts, sp_at, sp_name_by, sp_went, sp_uppers, sp_days, sp_span_good]); try simp only [rdAllI, rdI, V.int.injEq, V.ref.injEq, eqQ_int, eqQ_bl, eqQ_str, eqQ_ref, eqQ_nn, eqQ_ni, eqQ_in, eqQ_is, eqQ_si, L2.start, List.map_cons, List.map_nil, List.cons_append, List.nil_append, List.append_nil, List.length_cons, List.length_nil, List.replicate, List.getElem?_cons_zero, List.getElem?_cons_succ, List.set_cons_zero, List.set_cons_succ, Nat.reduceSub, Nat.reduceAdd, Int.reduceLT, Int.reduceLE, Int.reducePow, Int.reduceNeg, Nat.reducePow, List.cons.injEq, exists_eq_left', exists_eq_left, eq_self, if_false, if_true, ↓reduceIte, ite_not, forall_const, Option.join, Option.bind_some, id_eq])
        refine ⟨_, _, hp, no_beneath _, n3, d, cs, c, J3, hc, rfl, by omega, fun out po q hq => ?_⟩
        have qb : b ≠ q := ne_of_none hb hq
        refine ⟨_, _, (upd_ne qb).trans hb, upd_same, by rw [List.length_map, List.length_map, po.length_eq, sizeLine_eq]; omega, fun q2 hq2 => ?_⟩
        refine ⟨(s3.trans (same_upd _ hq)).trans (same_upd _ hq2), noT_upd (noT_upd n3 rfl) rfl, q2, _, ls ++ out, by rw [upd_same, List.map_append], ?_, rfl, rfl⟩
        rw [tk, List.flatMap_append, ← List.append_assoc]
        refine pm.append ?_
        simpa using po
      · rintro σ H2 ⟨s3, n3, b, z, ls, hb, pm, rfl⟩
        rw [List.length_map, List.length_map, List.take_length] at pm
        exact c3 H2 b z ls s3 n3 hb (pm.trans G.pm)
  obtain ⟨u1, hu1, c1⟩ := c1
  refine ⟨hN, _, (pss_cons (ps_if (pt_gc (ft_cmp (fo_neQ K HU) (pe_methX0 (fv 0) T.cl_Chart T.mt_Chart_accounts G_Chart_accounts (hr.mono (by decide)) b_Chart_accounts .nil PX) (pe_callB (fc_sortS K) rfl T.z_sorted bb_sorted (FA.pa (fa_cons (fv 1) fa_nil))) (nomark _))) (pss_one (ps_ret pe_bl)) pss_nil)
      hu1), ?_⟩
  ((try dsimp only [sp_is_whole, sp_is_among, sp_is_day, sp_never1, sp_signs_lie, sp_is_name, sp_are_names, sp_is_path, sp_names_of, sp_above, sp_a_init, sp_on, sp_later, sp_c_init, sp_has, sp_account, sp_add_top, sp_add, sp_shut, sp_span, sp_is_open, sp_beneath, sp_accounts, sp_at, sp_name_by, sp_went, sp_uppers, sp_days, sp_span_good]); try simp only [rdAllI, rdI, V.int.injEq, V.ref.injEq, eqQ_int, eqQ_bl, eqQ_str, eqQ_ref, eqQ_nn, eqQ_ni, eqQ_in, eqQ_is, eqQ_si, L2.start, List.map_cons, List.map_nil, List.cons_append, List.nil_append, List.append_nil, List.length_cons, List.length_nil, List.replicate, List.getElem?_cons_zero, List.getElem?_cons_succ, List.set_cons_zero, List.set_cons_succ, Nat.reduceSub, Nat.reduceAdd, Int.reduceLT, Int.reduceLE, Int.reducePow, Int.reduceNeg, Nat.reducePow, List.cons.injEq, exists_eq_left', exists_eq_left, eq_self, if_false, if_true, ↓reduceIte, ite_not, forall_const, Option.join, Option.bind_some, id_eq])
  obtain ⟨dx, hp⟩ := J.ob
  refine ⟨hN, _, _, hp, no_accounts _, hN, d, cs, J, by omega, fun out o1 o2 q hq => ⟨cs.map (·.pa), SqL.of (same_upd _ hq _ _ ht), by rw [List.length_map]; omega, fun out2 o3 o4 q2 hq2 => ?_⟩⟩
  have e := ino_uniq (o1.trans o3.symm) o2 o4
  subst e
  exact ⟨true, EqR.flatL (SqL.of ((upd_ne (fun z => by rw [← z, upd_same] at hq2; cases hq2)).trans upd_same)) (SqL.of upd_same) (flat_txts out), H, Gc.none ((same_upd _ hq).trans (same_upd _ hq2)), c1 H (Same.refl _) hN⟩
end
end K8
set_option Elab.async false
set_option linter.all false
set_option maxRecDepth 100000
set_option maxHeartbeats 400000
namespace K8
open PySem L2
seal L2.PE L2.PT L2.PW L2.PA L2.PS L2.PSs L2.PI L2.PG L2.PGs L2.PO
section
variable {pS : Addr} {ns : List Int} {P : Program} {w : World} {K : PySem.W.Frag} {mg : Str → Option Value} {base : Heap} {a : Adr}
def itC (J : It) : TI := fun _ H R => R J H
theorem for_rng3n {ta : TA} {g : TG} {tb : TS} {D : Ends} {σ : St} {H : Hp} (h : ta σ H fun vs H1 => ∃ i j c : Int, vs = [.int i, .int j, .int c] ∧ (0 ≤ i ∧ i < 1000000 ∧ -1000000 ≤ j ∧ j < 1000000 ∧ 1 ≤ c ∧ c < 1000000) ∧ tFor (itC (Itr3 i c (rsz i j c))) g tb D σ H1) : tFor (iRng3n ta) g tb D σ H := h
theorem Keep.toSame {S : List Addr} {H H1 H2 : Hp} (s : Same H H1) (k : Keep S H1 H2) (f : ∀ x ∈ S, H x = none) : Same H H2 := fun c z e => k c z (s c z e) fun m => by rw [f c m] at e; cases e
structure LS (C A : Addr) (H H1 : Hp) (p d t nm_ : Addr) (cs : List Acc) (ls : List (List Nat)) : Prop where
  sm : Same H H1
  nT : NoT H1
  at_ : CAt C A H1 p d cs
  gd : Good cs
  ta : H1 t = some (.lst ((cs.map (·.pa)).map L2.T))
  na : H1 nm_ = some (.lst (ls.map L2.T))
  tb : t ∉ cs.map (·.bl)
  nb : nm_ ∉ cs.map (·.bl)
  tn : t ≠ nm_
  fr : ∀ q ∈ own d cs, H q = none
  ft : H t = none
  ne : cs ≠ []
theorem LS.core {C A : Addr} {H H' H2 : Hp} {p d t n : Addr} {cs cs' : List Acc} {ls : List (List Nat)} (L : LS C A H H' p d t n cs ls) (hb : ∀ z ∈ cs', (z.bl ∈ cs.map (·.bl) ∨ H' z.bl = none) ∧ (z.ob ∈ cs.map (·.ob) ∨ H' z.ob = none)) (K' : Keep (own d cs) H' H2) :
    Same H H2 ∧ H2 t = some (.lst ((cs.map (·.pa)).map L2.T)) ∧ H2 n = some (.lst (ls.map L2.T)) ∧ t ∉ cs'.map (·.bl) ∧ n ∉ cs'.map (·.bl) ∧ ∀ q ∈ own d cs', H q = none := by
  have tout : ∀ q xs, H' q = some (.lst xs) → q ∉ cs.map (·.bl) → q ∉ own d cs := fun q xs hq hn hm => by
    rcases List.mem_cons.mp hm with rfl | hm
    · rw [L.at_.dc] at hq; cases hq
    · rcases List.mem_append.mp hm with hm | hm
      · obtain ⟨z, hz, rfl⟩ := List.mem_map.mp hm
        obtain ⟨dz, e⟩ := (L.at_.ac z hz).ob
        rw [e] at hq; cases hq
      · exact hn hm
  have nout : ∀ q xs, H' q = some (.lst xs) → q ∉ cs.map (·.bl) → q ∉ cs'.map (·.bl) := fun q xs hq hn hm => by
    obtain ⟨z, hz, rfl⟩ := List.mem_map.mp hm
    rcases (hb z hz).1 with h | h
    · exact hn h
    · rw [hq] at h; cases h
  have free : ∀ q, H' q = none → H q = none := fun q h => by
    cases e : H q with
    | none => rfl
    | some o => rw [L.sm _ _ e] at h; cases h
  refine ⟨Keep.toSame L.sm K' L.fr, K' _ _ L.ta (tout _ _ L.ta L.tb), K' _ _ L.na (tout _ _ L.na L.nb), nout _ _ L.ta L.tb, nout _ _ L.na L.nb, fun q hq => ?_⟩
  rcases List.mem_cons.mp hq with rfl | hq
  · exact L.fr _ (.head _)
  · rcases List.mem_append.mp hq with hq | hq
    · obtain ⟨z, hz, rfl⟩ := List.mem_map.mp hq
      rcases (hb z hz).2 with h | h
      · exact L.fr _ (.tail _ (List.mem_append_left _ h))
      · exact free _ h
    · obtain ⟨z, hz, rfl⟩ := List.mem_map.mp hq
      rcases (hb z hz).1 with h | h
      · exact L.fr _ (.tail _ (List.mem_append_right _ h))
      · exact free _ h
theorem LS.next {C A : Addr} {H H' H2 : Hp} {p d t n : Addr} {cs cs' : List Acc} {ls : List (List Nat)} (L : LS C A H H' p d t n cs ls) (J' : CAt C A H2 p d cs') (G' : Good cs') (e : cs'.map (·.pa) = cs.map (·.pa)) (hb : ∀ z ∈ cs', (z.bl ∈ cs.map (·.bl) ∨ H' z.bl = none) ∧ (z.ob ∈ cs.map (·.ob) ∨ H' z.ob = none)) (K' : Keep (own d cs) H' H2) (N' : NoT H2) : LS C A H H2 p d t n cs' ls := by
  obtain ⟨h1, h2, h3, h4, h5, h6⟩ := L.core hb K'
  exact ⟨h1, N', J', G', by rw [e]; exact h2, h3, h4, h5, L.tn, h6, L.ft, fun z => by
    rw [z] at e
    exact L.ne (List.map_eq_nil_iff.mp e.symm)⟩
theorem LS.push {C A : Addr} {H H' H2 : Hp} {p d t n : Addr} {cs cs' : List Acc} {ls : List (List Nat)} {l : List Nat} (L : LS C A H H' p d t n cs ls) (J' : CAt C A H2 p d cs') (G' : Good cs') (e : cs'.map (·.pa) = cs.map (·.pa) ++ [l]) (hb : ∀ z ∈ cs', (z.bl ∈ cs.map (·.bl) ∨ H' z.bl = none) ∧ (z.ob ∈ cs.map (·.ob) ∨ H' z.ob = none)) (K' : Keep (own d cs) H' H2) (N' : NoT H2) :
    H2 t = some (.lst ((cs.map (·.pa)).map L2.T)) ∧ LS C A H (upd H2 t (.lst ((cs.map (·.pa)).map L2.T ++ [L2.T l]))) p d t n cs' ls := by
  obtain ⟨h1, h2, h3, h4, h5, h6⟩ := L.core hb K'
  have pt : p ≠ t := by obtain ⟨dx, e⟩ := J'.ob; exact ne_at e h2 (by intro z; cases z)
  have dt : d ≠ t := ne_at J'.dc h2 (by intro z; cases z)
  refine ⟨h2, same_fresh h1 L.ft, noT_upd N' rfl, J'.keep (S := [t]) (Keep.refl.put (.head _)) (by simpa using pt) (by simpa using dt) (fun c hc => ⟨?_, ?_⟩), G', ?_, ?_, h4, h5, L.tn, h6, L.ft, fun z => by rw [z] at e; simp at e⟩
  · obtain ⟨dz, eo⟩ := (J'.ac c hc).ob
    have := ne_at eo h2 (by intro z; cases z)
    simpa using this
  · intro hm
    rw [← List.mem_singleton.mp hm] at h4
    exact h4 (List.mem_map_of_mem hc)
  · rw [upd_same, e, List.map_append]; rfl
  · rw [upd_ne (Ne.symm L.tn)]; exact h3
theorem itc {c : Prop} [Decidable c] {X Y : Prop} (hx : X) (hy : Y) : ite c X Y := by split; exact hx; exact hy
def sp_law (K : PySem.W.Frag) : Sp := sp1 fun x H Q _ => asR x fun p => NoT H ∧ ∃ ns : List Int, SqL K H p (ns.map V.int) ∧ ns.length ≤ 63 ∧ Q (.bl true) H
theorem ok_law (T : Txt K mg a) : FnOk P w K mg base (XE P w) 14 a.f_law a.fd_law ["_law_script"] (sp_law K) := by
  refine T.F_law.okG sc_law (fun vs H Q E h => sp1.len h) (fun cdv A outer s H vs Q E hr h => ?_)
  obtain ⟨x0, rfl, h⟩ := sp1.inv h
  have ND := sc_law.nd
  have PX : Passes' (XE P w) (cxOf (XE P w) P w K mg base ["_law_script", "_law_names", "_law_base", "_law_chart", "_law_taken", "_law_middle", "_law_k", "_law_kind", "_law_cell", "_law_day", "_law_path"] "law" (defScope s_law) a.f_law cdv A outer s H (gcE H E)) (fun _ => (gcE H E)) := passB
  have RX : Raises (cxOf (XE P w) P w K mg base ["_law_script", "_law_names", "_law_base", "_law_chart", "_law_taken", "_law_middle", "_law_k", "_law_kind", "_law_cell", "_law_day", "_law_path"] "law" (defScope s_law) a.f_law cdv A outer s H (gcE H E)) (fun _ => (gcE H E)) := raisesB
  have HU : (cxOf (XE P w) P w K mg base ["_law_script", "_law_names", "_law_base", "_law_chart", "_law_taken", "_law_middle", "_law_k", "_law_kind", "_law_cell", "_law_day", "_law_path"] "law" (defScope s_law) a.f_law cdv A outer s H (gcE H E)).A.units + 100 < cLine := units100 hr
  have PW : PassesOwn (model P w) (cxOf (XE P w) P w K mg base ["_law_script", "_law_names", "_law_base", "_law_chart", "_law_taken", "_law_middle", "_law_k", "_law_kind", "_law_cell", "_law_day", "_law_path"] "law" (defScope s_law) a.f_law cdv A outer s H (gcE H E)).A (cxOf (XE P w) P w K mg base ["_law_script", "_law_names", "_law_base", "_law_chart", "_law_taken", "_law_middle", "_law_k", "_law_kind", "_law_cell", "_law_day", "_law_path"] "law" (defScope s_law) a.f_law cdv A outer s H (gcE H E)).env (cxOf (XE P w) P w K mg base ["_law_script", "_law_names", "_law_base", "_law_chart", "_law_taken", "_law_middle", "_law_k", "_law_kind", "_law_cell", "_law_day", "_law_path"] "law" (defScope s_law) a.f_law cdv A outer s H (gcE H E)).xe := by passes_own
  obtain ⟨pS, rfl, hN, ns, hS, hl, k⟩ := asR.inv h
  have G__law_all_good := ok__law_all_good (P := P) (w := w) (base := base) T
  have b__law_all_good := bn__law_all_good T.F__law_all_good
  have G__law_went := ok__law_went (P := P) (w := w) (base := base) T
  have b__law_went := bn__law_went T.F__law_went
  have G__law_cell_at := ok__law_cell_at (P := P) (w := w) (base := base) T (pS := pS) (ns := ns)
  have b__law_cell_at := bn__law_cell_at T.F__law_cell_at
  have G_Chart_add_top := ok_Chart_add_top (P := P) (w := w) (base := base) T
  have b_Chart_add_top := bn_Chart_add_top T.F_Chart_add_top
  have G_Chart___init__ := ok_Chart___init__ (P := P) (w := w) (base := base) T
  have b_Chart___init__ := bn_Chart___init__ T.F_Chart___init__
  have G__law_name_by := ok__law_name_by (P := P) (w := w) (base := base) T
  have b__law_name_by := bn__law_name_by T.F__law_name_by
  have sz : 10000 ≤ sizeLine := by rw [sizeLine_eq]; decide
  have c7 : ∃ u, PSs (cxOf (XE P w) P w K mg base ["_law_script", "_law_names", "_law_base", "_law_chart", "_law_taken", "_law_middle", "_law_k", "_law_kind", "_law_cell", "_law_day", "_law_path"] "law" (defScope s_law) a.f_law cdv A outer s H (gcE H E)) (List.drop 7 (defBody s_law)) u ∧ ∀ p d t n cs ls x1 x2 x5 x6 x7 x8 x9 x10 H1, LS a.c_Chart a.c_Account H H1 p d t n cs ls → cs.length ≤ 50 →
      u { nx := fun _ H' => ∃ G, Gc H G H' ∧ Q .non G, rt := fun v H' => ∃ G, Gc H G H' ∧ Q v G } [some (.ref pS), x1, x2, some (.ref p), some (.ref t), x5, x6, x7, x8, x9, x10] H1 := by
    refine ⟨_, (pss_one (ps_ret (pe_callX G__law_all_good (hr.mono (by decide)) rfl T.m__law_all_good T.F__law_all_good.kp b__law_all_good .nil PX (FA.pa (fa_cons (fv 3) (fa_cons (fv 4) fa_nil)))))), fun p d t n cs ls x1 x2 x5 x6 x7 x8 x9 x10 H1 L len => ?_⟩
    ((try dsimp only [sp_is_whole, sp_is_among, sp_is_day, sp_never1, sp_signs_lie, sp_is_name, sp_are_names, sp_is_path, sp_names_of, sp_above, sp_a_init, sp_on, sp_later, sp_c_init, sp_has, sp_account, sp_add_top, sp_add, sp_shut, sp_span, sp_is_open, sp_beneath, sp_accounts, sp_at, sp_name_by, sp_went, sp_uppers, sp_days, sp_span_good, sp_all_good]); try simp only [rdAllI, rdI, V.int.injEq, V.ref.injEq, eqQ_int, eqQ_bl, eqQ_str, eqQ_ref, eqQ_nn, eqQ_ni, eqQ_in, eqQ_is, eqQ_si, L2.start, List.map_cons, List.map_nil, List.cons_append, List.nil_append, List.append_nil, List.length_cons, List.length_nil, List.replicate, List.getElem?_cons_zero, List.getElem?_cons_succ, List.set_cons_zero, List.set_cons_succ, Nat.reduceSub, Nat.reduceAdd, Int.reduceLT, Int.reduceLE, Int.reducePow, Int.reduceNeg, Nat.reducePow, List.cons.injEq, exists_eq_left', exists_eq_left, eq_self, if_false, if_true, ↓reduceIte, ite_not, forall_const, Option.join, Option.bind_some, id_eq])
    exact ⟨L.nT, d, cs, L.at_, L.gd, len, L.ta, H, Gc.none L.sm, k⟩
  obtain ⟨u7, hu7, c7⟩ := c7
  have c6 : ∃ u, PSs (cxOf (XE P w) P w K mg base ["_law_script", "_law_names", "_law_base", "_law_chart", "_law_taken", "_law_middle", "_law_k", "_law_kind", "_law_cell", "_law_day", "_law_path"] "law" (defScope s_law) a.f_law cdv A outer s H (gcE H E)) (List.drop 6 (defBody s_law)) u ∧ ∀ p d t n cs ls (bs md : Int) H1, LS a.c_Chart a.c_Account H H1 p d t n cs ls → cs.length ≤ 1 → ls.length = 4 → (∀ l ∈ ls, nm l = true) →
      u { nx := fun _ H' => ∃ G, Gc H G H' ∧ Q .non G, rt := fun v H' => ∃ G, Gc H G H' ∧ Q v G } [some (.ref pS), some (.ref n), some (.int bs), some (.ref p), some (.ref t), some (.int md), none, none, none, none, none] H1 := by
    refine ⟨_, (pss_cons (ps_for PW rfl (pi_range3n rfl T.z_range (FA.pa (fa_cons pe_int (fa_cons (pe_callB (fc_min rfl) rfl T.z_min bb_min (FA.pa (fa_cons pe_int (fa_cons (pe_op fo_sub (pe_callB (fc_lenK K) rfl T.z_len bb_len (FA.pa (fa_cons (fv 0) fa_nil))) pe_int) fa_nil)))) (fa_cons pe_int fa_nil))))) (pg_name (i := 6) ND rfl (Or.inl rfl)) (pss_cons (ps_set (i := 7) ND rfl (Or.inl rfl) (pe_op fo_mod (pe_ix (fx_seqK K) (fv 0) (fv 6) (fun _ _ => rfl)) pe_int))
      (pss_cons (ps_set (i := 8) ND rfl (Or.inl rfl) (pe_ix (fx_seqK K) (fv 0) (pe_op fo_add (fv 6) pe_int) (fun _ _ => rfl)))
      (pss_cons (ps_set (i := 9) ND rfl (Or.inl rfl) (pe_callB (fc_min rfl) rfl T.z_min bb_min (FA.pa (fa_cons pe_int (fa_cons (pe_op fo_add (fv 2) (pe_op fo_mod (pe_ix (fx_seqK K) (fv 0) (pe_op fo_add (fv 6) pe_int) (fun _ _ => rfl)) pe_int)) fa_nil)))))
      (pss_cons (ps_set (i := 10) ND rfl (Or.inl rfl) (pe_ix (fx_seqK K) (fv 4) (pe_op fo_mod (pe_op fo_fdiv (fv 8) pe_int) (pe_callB (fc_lenK K) rfl T.z_len bb_len (FA.pa (fa_cons (fv 4) fa_nil)))) (fun _ _ => rfl)))
      (pss_cons (ps_if (ft_cmp (fo_eqQ K HU) (fv 7) pe_int (nomark _)) (pss_one (ps_set (i := 10) ND rfl (Or.inl rfl) (pe_ix (fx_seqK K) (fv 1) (pe_op fo_mod (fv 8) pe_int) (fun _ _ => rfl)))) (pss_one (ps_if (ft_cmp fo_lt (fv 7) pe_int (nomark _)) (pss_one (ps_set (i := 10) ND rfl (Or.inl rfl) (pe_op fo_add (pe_op fo_add (fv 10) (pe_strT [58])) (pe_ix (fx_seqK K) (fv 1) (pe_op fo_mod (fv 8) pe_int) (fun _ _ => rfl))))) pss_nil)))
      (pss_cons (ps_if (L2.PW.pt (pw_and (ft_val (pe_callX G__law_went (hr.mono (by decide)) rfl T.m__law_went T.F__law_went.kp b__law_went .nil PX (FA.pa (fa_cons (fv 3) (fa_cons (fv 7) (fa_cons (fv 10) (fa_cons (fv 9) fa_nil))))))) (pw_and1 (ft_cmp fo_lt (fv 7) pe_int (nomark _))))) (pss_one (ps_expr (pe_bmK K PySem.F.plainAttrs_list PySem.F.slot_list_append PySem.F.type_list_append mt_append (fv 4) (FA.pa (fa_cons (fv 10) fa_nil))))) pss_nil)
      (pss_one (ps_if (L2.PW.pt (pw_and (ft_cmp (fo_eqQ K HU) (fv 6) (fv 5) (nomark _)) (pw_and1 (pt_not (ft_val (pe_callX G__law_all_good (hr.mono (by decide)) rfl T.m__law_all_good T.F__law_all_good.kp b__law_all_good .nil PX (FA.pa (fa_cons (fv 3) (fa_cons (fv 4) fa_nil))))))))) (pss_one (ps_ret pe_bl)) pss_nil)))))))))
      hu7), fun p d t n cs ls bs md H1 L len l4 hnm => ?_⟩
    ((try dsimp only [sp_is_whole, sp_is_among, sp_is_day, sp_never1, sp_signs_lie, sp_is_name, sp_are_names, sp_is_path, sp_names_of, sp_above, sp_a_init, sp_on, sp_later, sp_c_init, sp_has, sp_account, sp_add_top, sp_add, sp_shut, sp_span, sp_is_open, sp_beneath, sp_accounts, sp_at, sp_name_by, sp_went, sp_uppers, sp_days, sp_span_good, sp_all_good]); try simp only [rdAllI, rdI, V.int.injEq, V.ref.injEq, eqQ_int, eqQ_bl, eqQ_str, eqQ_ref, eqQ_nn, eqQ_ni, eqQ_in, eqQ_is, eqQ_si, L2.start, List.map_cons, List.map_nil, List.cons_append, List.nil_append, List.append_nil, List.length_cons, List.length_nil, List.replicate, List.getElem?_cons_zero, List.getElem?_cons_succ, List.set_cons_zero, List.set_cons_succ, Nat.reduceSub, Nat.reduceAdd, Int.reduceLT, Int.reduceLE, Int.reducePow, Int.reduceNeg, Nat.reducePow, List.cons.injEq, exists_eq_left', exists_eq_left, eq_self, if_false, if_true, ↓reduceIte, ite_not, forall_const, Option.join, Option.bind_some, id_eq])
    refine for_rng3n ?_
    ((try dsimp only [sp_is_whole, sp_is_among, sp_is_day, sp_never1, sp_signs_lie, sp_is_name, sp_are_names, sp_is_path, sp_names_of, sp_above, sp_a_init, sp_on, sp_later, sp_c_init, sp_has, sp_account, sp_add_top, sp_add, sp_shut, sp_span, sp_is_open, sp_beneath, sp_accounts, sp_at, sp_name_by, sp_went, sp_uppers, sp_days, sp_span_good, sp_all_good]); try simp only [rdAllI, rdI, V.int.injEq, V.ref.injEq, eqQ_int, eqQ_bl, eqQ_str, eqQ_ref, eqQ_nn, eqQ_ni, eqQ_in, eqQ_is, eqQ_si, L2.start, List.map_cons, List.map_nil, List.cons_append, List.nil_append, List.append_nil, List.length_cons, List.length_nil, List.replicate, List.getElem?_cons_zero, List.getElem?_cons_succ, List.set_cons_zero, List.set_cons_succ, Nat.reduceSub, Nat.reduceAdd, Int.reduceLT, Int.reduceLE, Int.reducePow, Int.reduceNeg, Nat.reducePow, List.cons.injEq, exists_eq_left', exists_eq_left, eq_self, if_false, if_true, ↓reduceIte, ite_not, forall_const, Option.join, Option.bind_some, id_eq])
    have ll : (ns.map V.int).length ≤ 63 := by rw [List.length_map]; exact hl
    refine ⟨_, .inl (hS.same L.sm), ?_⟩
    ((try dsimp only [sp_is_whole, sp_is_among, sp_is_day, sp_never1, sp_signs_lie, sp_is_name, sp_are_names, sp_is_path, sp_names_of, sp_above, sp_a_init, sp_on, sp_later, sp_c_init, sp_has, sp_account, sp_add_top, sp_add, sp_shut, sp_span, sp_is_open, sp_beneath, sp_accounts, sp_at, sp_name_by, sp_went, sp_uppers, sp_days, sp_span_good, sp_all_good]); try simp only [rdAllI, rdI, V.int.injEq, V.ref.injEq, eqQ_int, eqQ_bl, eqQ_str, eqQ_ref, eqQ_nn, eqQ_ni, eqQ_in, eqQ_is, eqQ_si, L2.start, List.map_cons, List.map_nil, List.cons_append, List.nil_append, List.append_nil, List.length_cons, List.length_nil, List.replicate, List.getElem?_cons_zero, List.getElem?_cons_succ, List.set_cons_zero, List.set_cons_succ, Nat.reduceSub, Nat.reduceAdd, Int.reduceLT, Int.reduceLE, Int.reducePow, Int.reduceNeg, Nat.reducePow, List.cons.injEq, exists_eq_left', exists_eq_left, eq_self, if_false, if_true, ↓reduceIte, ite_not, forall_const, Option.join, Option.bind_some, id_eq])
    rw [List.length_map]
    generalize hj : (if (ns.length : Int) - 2 < 50 then (ns.length : Int) - 2 else 50) = j
    have j1 : j ≤ 50 ∧ j ≤ (ns.length : Int) - 2 ∧ -2 ≤ j := by rw [← hj]; split <;> omega
    refine ⟨2, j, 3, ?_, ⟨by decide, by decide, by omega, by omega, by decide, by decide⟩, ?_⟩
    · exact ⟨rfl, rfl, rfl⟩
    have hr : rsz 2 j 3 ≤ 16 ∧ ∀ i, i < rsz 2 j 3 → 2 + 3 * (i : Int) < j := by
      unfold rsz
      split
      · refine ⟨by omega, fun i hi => by omega⟩
      · exact ⟨by omega, fun i hi => by omega⟩
    generalize rsz 2 j 3 = m at hr ⊢
    refine for_range3 (fun i σ H' => ∃ cs x6 x7 x8 x9 x10, LS a.c_Chart a.c_Account H H' p d t n cs ls ∧ cs.length ≤ 1 + i ∧ σ = [some (.ref pS), some (.ref n), some (.int bs), some (.ref p), some (.ref t), some (.int md), x6, x7, x8, x9, x10]) ⟨cs, none, none, none, none, none, L, by omega, rfl⟩ ?_ ?_
    · clear L len
      rintro i σ H' hi ⟨cs, x6, x7, x8, x9, x10, L, len, rfl⟩
      have hk := hr.2 i hi
      have hS1 := hS.same L.sm
      have k0 : atI (ns.map V.int) (2 + (i : Int) * 3) = some (.int (ns.getD (2 + (i : Int) * 3).toNat 0)) := at_get (by omega) (by omega)
      have k1 : atI (ns.map V.int) (2 + (i : Int) * 3 + 1) = some (.int (ns.getD (2 + (i : Int) * 3 + 1).toNat 0)) := at_get (by omega) (by omega)
      have k2 : atI (ns.map V.int) (2 + (i : Int) * 3 + 2) = some (.int (ns.getD (2 + (i : Int) * 3 + 2).toNat 0)) := at_get (by omega) (by omega)
      generalize ns.getD (2 + (i : Int) * 3).toNat 0 = v0 at k0
      generalize ns.getD (2 + (i : Int) * 3 + 1).toNat 0 = v1 at k1
      generalize ns.getD (2 + (i : Int) * 3 + 2).toNat 0 = v2 at k2
      ((try dsimp only [sp_is_whole, sp_is_among, sp_is_day, sp_never1, sp_signs_lie, sp_is_name, sp_are_names, sp_is_path, sp_names_of, sp_above, sp_a_init, sp_on, sp_later, sp_c_init, sp_has, sp_account, sp_add_top, sp_add, sp_shut, sp_span, sp_is_open, sp_beneath, sp_accounts, sp_at, sp_name_by, sp_went, sp_uppers, sp_days, sp_span_good, sp_all_good]); try simp only [rdAllI, rdI, V.int.injEq, V.ref.injEq, eqQ_int, eqQ_bl, eqQ_str, eqQ_ref, eqQ_nn, eqQ_ni, eqQ_in, eqQ_is, eqQ_si, L2.start, List.map_cons, List.map_nil, List.cons_append, List.nil_append, List.append_nil, List.length_cons, List.length_nil, List.replicate, List.getElem?_cons_zero, List.getElem?_cons_succ, List.set_cons_zero, List.set_cons_succ, Nat.reduceSub, Nat.reduceAdd, Int.reduceLT, Int.reduceLE, Int.reducePow, Int.reduceNeg, Nat.reducePow, List.cons.injEq, exists_eq_left', exists_eq_left, eq_self, if_false, if_true, ↓reduceIte, ite_not, forall_const, Option.join, Option.bind_some, id_eq])
      refine ⟨_, _, .inl hS1, k0, ?_⟩
      ((try dsimp only [sp_is_whole, sp_is_among, sp_is_day, sp_never1, sp_signs_lie, sp_is_name, sp_are_names, sp_is_path, sp_names_of, sp_above, sp_a_init, sp_on, sp_later, sp_c_init, sp_has, sp_account, sp_add_top, sp_add, sp_shut, sp_span, sp_is_open, sp_beneath, sp_accounts, sp_at, sp_name_by, sp_went, sp_uppers, sp_days, sp_span_good, sp_all_good]); try simp only [rdAllI, rdI, V.int.injEq, V.ref.injEq, eqQ_int, eqQ_bl, eqQ_str, eqQ_ref, eqQ_nn, eqQ_ni, eqQ_in, eqQ_is, eqQ_si, L2.start, List.map_cons, List.map_nil, List.cons_append, List.nil_append, List.append_nil, List.length_cons, List.length_nil, List.replicate, List.getElem?_cons_zero, List.getElem?_cons_succ, List.set_cons_zero, List.set_cons_succ, Nat.reduceSub, Nat.reduceAdd, Int.reduceLT, Int.reduceLE, Int.reducePow, Int.reduceNeg, Nat.reducePow, List.cons.injEq, exists_eq_left', exists_eq_left, eq_self, if_false, if_true, ↓reduceIte, ite_not, forall_const, Option.join, Option.bind_some, id_eq])
      refine ⟨_, _, .inl hS1, k1, _, _, .inl hS1, k2, ?_⟩
      ((try dsimp only [sp_is_whole, sp_is_among, sp_is_day, sp_never1, sp_signs_lie, sp_is_name, sp_are_names, sp_is_path, sp_names_of, sp_above, sp_a_init, sp_on, sp_later, sp_c_init, sp_has, sp_account, sp_add_top, sp_add, sp_shut, sp_span, sp_is_open, sp_beneath, sp_accounts, sp_at, sp_name_by, sp_went, sp_uppers, sp_days, sp_span_good, sp_all_good]); try simp only [rdAllI, rdI, V.int.injEq, V.ref.injEq, eqQ_int, eqQ_bl, eqQ_str, eqQ_ref, eqQ_nn, eqQ_ni, eqQ_in, eqQ_is, eqQ_si, L2.start, List.map_cons, List.map_nil, List.cons_append, List.nil_append, List.append_nil, List.length_cons, List.length_nil, List.replicate, List.getElem?_cons_zero, List.getElem?_cons_succ, List.set_cons_zero, List.set_cons_succ, Nat.reduceSub, Nat.reduceAdd, Int.reduceLT, Int.reduceLE, Int.reducePow, Int.reduceNeg, Nat.reducePow, List.cons.injEq, exists_eq_left', exists_eq_left, eq_self, if_false, if_true, ↓reduceIte, ite_not, forall_const, Option.join, Option.bind_some, id_eq])
      have hne : 0 < cs.length := List.length_pos_iff.mpr L.ne
      have il : (0 : Int) < (((cs.map (·.pa)).map L2.T).length : Nat) := by rw [List.length_map, List.length_map]; omega
      have b0 : 0 ≤ v1 / 4 % (((cs.map (·.pa)).map L2.T).length : Nat) := Int.emod_nonneg _ (by omega)
      have b1 : v1 / 4 % (((cs.map (·.pa)).map L2.T).length : Nat) < (((cs.map (·.pa)).map L2.T).length : Nat) := Int.emod_lt_of_pos _ il
      refine ⟨_, .inl (SqL.of L.ta), il, ?_⟩
      obtain ⟨c, hc, ec⟩ : ∃ c ∈ cs, atI ((cs.map (·.pa)).map L2.T) (v1 / 4 % (((cs.map (·.pa)).map L2.T).length : Nat)) = some (L2.T c.pa) := by
        generalize v1 / 4 % (((cs.map (·.pa)).map L2.T).length : Nat) = z at b0 b1
        obtain ⟨j, rfl⟩ := Int.eq_ofNat_of_zero_le b0
        have hj : j < cs.length := by rw [List.length_map, List.length_map] at b1; omega
        exact ⟨cs[j], List.getElem_mem hj, atI_nat (by simp [hj])⟩
      obtain ⟨x, hx, ex⟩ : ∃ x ∈ ls, atI (ls.map L2.T) (v1 % 4) = some (L2.T x) := by
        have c0 : 0 ≤ v1 % 4 := Int.emod_nonneg _ (by decide)
        have c1 : v1 % 4 < 4 := Int.emod_lt_of_pos _ (by decide)
        generalize v1 % 4 = z at c0 c1
        obtain ⟨j, rfl⟩ := Int.eq_ofNat_of_zero_le c0
        have hj : j < ls.length := by omega
        exact ⟨ls[j], List.getElem_mem hj, atI_nat (by simp [hj])⟩
      have nx := nm_len (hnm x hx)
      have x58 : 58 ∉ x := fun h => by have := nx.2.2 58 h; omega
      have pc := L.gd.pl c hc
      have low : ∀ y ∈ x, y < 128 := fun y hy => by have := nx.2.2 y hy; omega
      refine ⟨_, _, .inl (SqL.of L.ta), ec, ?_⟩
      by_cases h0 : v0 % 6 = 0
      · refine itp h0 ⟨_, _, .inl (SqL.of L.na), ex, L.nT, ?_⟩
        ((try dsimp only [sp_is_whole, sp_is_among, sp_is_day, sp_never1, sp_signs_lie, sp_is_name, sp_are_names, sp_is_path, sp_names_of, sp_above, sp_a_init, sp_on, sp_later, sp_c_init, sp_has, sp_account, sp_add_top, sp_add, sp_shut, sp_span, sp_is_open, sp_beneath, sp_accounts, sp_at, sp_name_by, sp_went, sp_uppers, sp_days, sp_span_good, sp_all_good]); try simp only [rdAllI, rdI, V.int.injEq, V.ref.injEq, eqQ_int, eqQ_bl, eqQ_str, eqQ_ref, eqQ_nn, eqQ_ni, eqQ_in, eqQ_is, eqQ_si, L2.start, List.map_cons, List.map_nil, List.cons_append, List.nil_append, List.append_nil, List.length_cons, List.length_nil, List.replicate, List.getElem?_cons_zero, List.getElem?_cons_succ, List.set_cons_zero, List.set_cons_succ, Nat.reduceSub, Nat.reduceAdd, Int.reduceLT, Int.reduceLE, Int.reducePow, Int.reduceNeg, Nat.reducePow, List.cons.injEq, exists_eq_left', exists_eq_left, eq_self, if_false, if_true, ↓reduceIte, ite_not, forall_const, Option.join, Option.bind_some, id_eq])
        refine ⟨⟨low, by omega⟩, d, cs, L.at_, L.gd, by omega, fun _ => x58, fun z => absurd h0 z, ?_, ?_⟩
        · exact itc ⟨L.nT, d, cs, L.at_, L.gd, by omega, L.ta, cs, _, _, _, _, _, L, by omega, rfl, rfl, rfl, rfl, rfl⟩ ⟨cs, _, _, _, _, _, L, by omega, rfl, rfl, rfl, rfl, rfl⟩
        · intro cs' H2 J' G' e hb K' N'
          rw [if_pos (by omega)] at e
          refine itp (by omega) ?_
          obtain ⟨t1, L'⟩ := L.push J' G' e hb K' N'
          have len' : cs'.length ≤ 1 + (i + 1) := by have := congrArg List.length e; simp at this; omega
          exact ⟨.inl ⟨_, SqL.of t1⟩, t, _, _, rfl, rfl, t1, by rw [List.length_map, List.length_map]; omega, itc ⟨L'.nT, d, cs', L'.at_, L'.gd, by omega, L'.ta, cs', _, _, _, _, _, L', len', rfl, rfl, rfl, rfl, rfl⟩ ⟨cs', _, _, _, _, _, L', len', rfl, rfl, rfl, rfl, rfl⟩⟩
      · refine itn h0 ?_
        by_cases h4 : v0 % 6 < 4
        · refine itp h4 ?_
          ((try dsimp only [sp_is_whole, sp_is_among, sp_is_day, sp_never1, sp_signs_lie, sp_is_name, sp_are_names, sp_is_path, sp_names_of, sp_above, sp_a_init, sp_on, sp_later, sp_c_init, sp_has, sp_account, sp_add_top, sp_add, sp_shut, sp_span, sp_is_open, sp_beneath, sp_accounts, sp_at, sp_name_by, sp_went, sp_uppers, sp_days, sp_span_good, sp_all_good]); try simp only [rdAllI, rdI, V.int.injEq, V.ref.injEq, eqQ_int, eqQ_bl, eqQ_str, eqQ_ref, eqQ_nn, eqQ_ni, eqQ_in, eqQ_is, eqQ_si, L2.start, List.map_cons, List.map_nil, List.cons_append, List.nil_append, List.append_nil, List.length_cons, List.length_nil, List.replicate, List.getElem?_cons_zero, List.getElem?_cons_succ, List.set_cons_zero, List.set_cons_succ, Nat.reduceSub, Nat.reduceAdd, Int.reduceLT, Int.reduceLE, Int.reducePow, Int.reduceNeg, Nat.reducePow, List.cons.injEq, exists_eq_left', exists_eq_left, eq_self, if_false, if_true, ↓reduceIte, ite_not, forall_const, Option.join, Option.bind_some, id_eq])
          refine ⟨by omega, _, _, .inl (SqL.of L.na), ex, ?_⟩
          ((try dsimp only [sp_is_whole, sp_is_among, sp_is_day, sp_never1, sp_signs_lie, sp_is_name, sp_are_names, sp_is_path, sp_names_of, sp_above, sp_a_init, sp_on, sp_later, sp_c_init, sp_has, sp_account, sp_add_top, sp_add, sp_shut, sp_span, sp_is_open, sp_beneath, sp_accounts, sp_at, sp_name_by, sp_went, sp_uppers, sp_days, sp_span_good, sp_all_good]); try simp only [rdAllI, rdI, V.int.injEq, V.ref.injEq, eqQ_int, eqQ_bl, eqQ_str, eqQ_ref, eqQ_nn, eqQ_ni, eqQ_in, eqQ_is, eqQ_si, L2.start, List.map_cons, List.map_nil, List.cons_append, List.nil_append, List.append_nil, List.length_cons, List.length_nil, List.replicate, List.getElem?_cons_zero, List.getElem?_cons_succ, List.set_cons_zero, List.set_cons_succ, Nat.reduceSub, Nat.reduceAdd, Int.reduceLT, Int.reduceLE, Int.reducePow, Int.reduceNeg, Nat.reducePow, List.cons.injEq, exists_eq_left', exists_eq_left, eq_self, if_false, if_true, ↓reduceIte, ite_not, forall_const, Option.join, Option.bind_some, id_eq])
          have el : c.pa ++ [58] ++ x = c.pa ++ 58 :: x := by simp
          rw [el]
          have tl : txt (c.pa ++ 58 :: x) := ⟨fun y hy => by
            rcases List.mem_append.mp hy with h | h
            · exact pc.1 y h
            · rcases List.mem_cons.mp h with rfl | h
              · decide
              · exact low y h, by simp; omega⟩
          refine ⟨by simp; omega, L.nT, tl, d, cs, L.at_, L.gd, by omega, fun z => absurd z h0, fun _ _ => ⟨c.pa, x, rfl, x58⟩, ?_, ?_⟩
          · exact itc ⟨L.nT, d, cs, L.at_, L.gd, by omega, L.ta, cs, _, _, _, _, _, L, by omega, rfl, rfl, rfl, rfl, rfl⟩ ⟨cs, _, _, _, _, _, L, by omega, rfl, rfl, rfl, rfl, rfl⟩
          · intro cs' H2 J' G' e hb K' N'
            rw [if_pos h4] at e
            refine itp h4 ?_
            obtain ⟨t1, L'⟩ := L.push J' G' e hb K' N'
            have len' : cs'.length ≤ 1 + (i + 1) := by have := congrArg List.length e; simp at this; omega
            exact ⟨.inl ⟨_, SqL.of t1⟩, t, _, _, rfl, rfl, t1, by rw [List.length_map, List.length_map]; omega, itc ⟨L'.nT, d, cs', L'.at_, L'.gd, by omega, L'.ta, cs', _, _, _, _, _, L', len', rfl, rfl, rfl, rfl, rfl⟩ ⟨cs', _, _, _, _, _, L', len', rfl, rfl, rfl, rfl, rfl⟩⟩
        · refine itn h4 ?_
          ((try dsimp only [sp_is_whole, sp_is_among, sp_is_day, sp_never1, sp_signs_lie, sp_is_name, sp_are_names, sp_is_path, sp_names_of, sp_above, sp_a_init, sp_on, sp_later, sp_c_init, sp_has, sp_account, sp_add_top, sp_add, sp_shut, sp_span, sp_is_open, sp_beneath, sp_accounts, sp_at, sp_name_by, sp_went, sp_uppers, sp_days, sp_span_good, sp_all_good]); try simp only [rdAllI, rdI, V.int.injEq, V.ref.injEq, eqQ_int, eqQ_bl, eqQ_str, eqQ_ref, eqQ_nn, eqQ_ni, eqQ_in, eqQ_is, eqQ_si, L2.start, List.map_cons, List.map_nil, List.cons_append, List.nil_append, List.append_nil, List.length_cons, List.length_nil, List.replicate, List.getElem?_cons_zero, List.getElem?_cons_succ, List.set_cons_zero, List.set_cons_succ, Nat.reduceSub, Nat.reduceAdd, Int.reduceLT, Int.reduceLE, Int.reducePow, Int.reduceNeg, Nat.reducePow, List.cons.injEq, exists_eq_left', exists_eq_left, eq_self, if_false, if_true, ↓reduceIte, ite_not, forall_const, Option.join, Option.bind_some, id_eq])
          refine ⟨L.nT, ⟨pc.1, by omega⟩, d, cs, L.at_, L.gd, by omega, fun z => absurd z h0, fun _ z => absurd z h4, ?_, ?_⟩
          · exact itc ⟨L.nT, d, cs, L.at_, L.gd, by omega, L.ta, cs, _, _, _, _, _, L, by omega, rfl, rfl, rfl, rfl, rfl⟩ ⟨cs, _, _, _, _, _, L, by omega, rfl, rfl, rfl, rfl, rfl⟩
          · intro cs' H2 J' G' e hb K' N'
            rw [if_neg h4] at e
            refine itn h4 ?_
            have L' := L.next J' G' e hb K' N'
            have len' : cs'.length ≤ 1 + (i + 1) := by have := congrArg List.length e; simp at this; omega
            exact itc ⟨L'.nT, d, cs', L'.at_, L'.gd, by omega, L'.ta, cs', _, _, _, _, _, L', len', rfl, rfl, rfl, rfl, rfl⟩ ⟨cs', _, _, _, _, _, L', len', rfl, rfl, rfl, rfl, rfl⟩
    · rintro σ H' ⟨cs, x6, x7, x8, x9, x10, L, len, rfl⟩
      exact c7 p d t n cs ls _ _ _ _ _ _ _ _ H' L (by omega)
  obtain ⟨u6, hu6, c6⟩ := c6
  refine ⟨hN, _, (pss_cons (ps_setC (i0 := 1) ND rfl (Or.inl rfl) rfl (cl := _) (fr := ["_law_script"]) (ks := [0]) (by exact ⟨rfl, by decide +kernel, rfl, by decide +kernel, rfl, keys_of rfl, rfl, kinds_of rfl, kinds_of (k := fun y => List.lookup y _) rfl, only_of rfl⟩) rfl (by decide) (pi_range1 rfl T.z_range (FA.pa (fa_cons pe_int fa_nil))) (fun _ _ _ _ _ => pts_nil) (fun _ _ _ _ _ => (pe_callX G__law_name_by (hr.mono (by decide)) rfl T.m__law_name_by T.F__law_name_by.kp b__law_name_by .nil passF (FA.pa (fa_cons (pe_callX G__law_cell_at (hr.mono (by decide)) rfl T.m__law_cell_at T.F__law_cell_at.kp b__law_cell_at .nil passF (FA.pa (fa_cons (fv 1) (fa_cons pe_int fa_nil)))) (fa_cons (fv 0) fa_nil))))))
      (pss_cons (ps_set (i := 2) ND rfl (Or.inl rfl) (pe_op fo_mod (pe_callX G__law_cell_at (hr.mono (by decide)) rfl T.m__law_cell_at T.F__law_cell_at.kp b__law_cell_at .nil PX (FA.pa (fa_cons (fv 0) (fa_cons pe_int fa_nil)))) pe_int))
      (pss_cons (ps_set (i := 3) ND rfl (Or.inl rfl) (pe_makeX0 T.mk_Chart G_Chart___init__ (hr.mono (by decide)) rfl T.m_Chart b_Chart___init__ .nil PX))
      (pss_cons (ps_expr (pe_methX (fv 3) T.cl_Chart T.mt_Chart_add_top G_Chart_add_top (hr.mono (by decide)) b_Chart_add_top .nil PX (FA.pa (fa_cons (pe_ix (fx_seqK K) (fv 1) pe_int (fun _ _ => rfl)) (fa_cons (pe_strT [99, 111, 115, 116]) fa_nil)))))
      (pss_cons (ps_set (i := 4) ND rfl (Or.inl rfl) (pe_lst (FA.pa (fa_cons (pe_ix (fx_seqK K) (fv 1) pe_int (fun _ _ => rfl)) fa_nil))))
      (pss_cons (ps_set (i := 5) ND rfl (Or.inl rfl) (pe_op fo_add pe_int (pe_op fo_mul pe_int (pe_op fo_mod (pe_op fo_fdiv (pe_callX G__law_cell_at (hr.mono (by decide)) rfl T.m__law_cell_at T.F__law_cell_at.kp b__law_cell_at .nil PX (FA.pa (fa_cons (fv 0) (fa_cons pe_int fa_nil)))) pe_int) pe_int))))
      hu6)))))), ?_⟩
  ((try dsimp only [sp_is_whole, sp_is_among, sp_is_day, sp_never1, sp_signs_lie, sp_is_name, sp_are_names, sp_is_path, sp_names_of, sp_above, sp_a_init, sp_on, sp_later, sp_c_init, sp_has, sp_account, sp_add_top, sp_add, sp_shut, sp_span, sp_is_open, sp_beneath, sp_accounts, sp_at, sp_name_by, sp_went, sp_uppers, sp_days, sp_span_good, sp_all_good]); try simp only [rdAllI, rdI, V.int.injEq, V.ref.injEq, eqQ_int, eqQ_bl, eqQ_str, eqQ_ref, eqQ_nn, eqQ_ni, eqQ_in, eqQ_is, eqQ_si, L2.start, List.map_cons, List.map_nil, List.cons_append, List.nil_append, List.append_nil, List.length_cons, List.length_nil, List.replicate, List.getElem?_cons_zero, List.getElem?_cons_succ, List.set_cons_zero, List.set_cons_succ, Nat.reduceSub, Nat.reduceAdd, Int.reduceLT, Int.reduceLE, Int.reducePow, Int.reduceNeg, Nat.reducePow, List.cons.injEq, exists_eq_left', exists_eq_left, eq_self, if_false, if_true, ↓reduceIte, ite_not, forall_const, Option.join, Option.bind_some, id_eq])
  have nmj : ∀ j : Nat, j < 4 → nm (NB (ns.getD 0 0) j) = true := fun j hj => NB_nm (by omega) (by omega)
  refine comp_rng (fun H' => NoT H' ∧ SqL K H' pS (ns.map V.int)) (fun D ys hD => ⟨noT_upd hN rfl, hS.same (same_upd _ hD)⟩) 4 (fun _ => true) (fun j : Nat => L2.T (NB (ns.getD 0 0) j)) (fun R r => r) (by omega) (fun j hj H R _ r => r) (fun j hj _ H' R c r => ?_) (fun D hD => ?_)
  · ((try dsimp only [sp_is_whole, sp_is_among, sp_is_day, sp_never1, sp_signs_lie, sp_is_name, sp_are_names, sp_is_path, sp_names_of, sp_above, sp_a_init, sp_on, sp_later, sp_c_init, sp_has, sp_account, sp_add_top, sp_add, sp_shut, sp_span, sp_is_open, sp_beneath, sp_accounts, sp_at, sp_name_by, sp_went, sp_uppers, sp_days, sp_span_good, sp_all_good]); try simp only [rdAllI, rdI, V.int.injEq, V.ref.injEq, eqQ_int, eqQ_bl, eqQ_str, eqQ_ref, eqQ_nn, eqQ_ni, eqQ_in, eqQ_is, eqQ_si, L2.start, List.map_cons, List.map_nil, List.cons_append, List.nil_append, List.append_nil, List.length_cons, List.length_nil, List.replicate, List.getElem?_cons_zero, List.getElem?_cons_succ, List.set_cons_zero, List.set_cons_succ, Nat.reduceSub, Nat.reduceAdd, Int.reduceLT, Int.reduceLE, Int.reducePow, Int.reduceNeg, Nat.reducePow, List.cons.injEq, exists_eq_left', exists_eq_left, eq_self, if_false, if_true, ↓reduceIte, ite_not, forall_const, Option.join, Option.bind_some, id_eq])
    exact ⟨c.1, c.2, c.1, ⟨by omega, by omega⟩, r⟩
  · have e0 : ((List.range 4).filter fun _ => true).map (fun j : Nat => L2.T (NB (ns.getD 0 0) j)) = ((List.range 4).map fun j : Nat => NB (ns.getD 0 0) j).map L2.T := by
      rw [List.filter_eq_self.mpr (by simp), List.map_map]; rfl
    rw [e0]
    have l4 : ((List.range 4).map fun j : Nat => NB (ns.getD 0 0) j).length = 4 := rfl
    have hnm : ∀ l ∈ (List.range 4).map fun j : Nat => NB (ns.getD 0 0) j, nm l = true := fun l hl => by
      obtain ⟨j, hj, rfl⟩ := List.mem_map.mp hl
      exact nmj j (List.mem_range.mp hj)
    have n0 : atI (((List.range 4).map fun j : Nat => NB (ns.getD 0 0) j).map L2.T) 0 = some (L2.T (NB (ns.getD 0 0) 0)) := rfl
    have nm0 : nm (NB (ns.getD 0 0) 0) = true := nmj 0 (by decide)
    generalize NB (ns.getD 0 0) 0 = l0 at n0 nm0
    generalize (List.range 4).map (fun j : Nat => NB (ns.getD 0 0) j) = ls at l4 hnm n0 ⊢
    have s1 := same_upd (HO.lst (ls.map L2.T)) hD
    have N1 : NoT (upd H D (HO.lst (ls.map L2.T))) := noT_upd hN rfl
    have hDn : upd H D (HO.lst (ls.map L2.T)) D = some (HO.lst (ls.map L2.T)) := upd_same
    generalize upd H D (HO.lst (ls.map L2.T)) = H1 at s1 N1 hDn ⊢
    refine ⟨N1, hS.same s1, fun p dx hp hdx ne => ?_⟩
    refine ⟨noT_upd (noT_upd N1 rfl) rfl, _, upd_same, fun d H2 hd J K2 N2 => ?_⟩
    have kp := made_keep hp hdx K2
    have s12 : Same H1 H2 := fun c z e => kp c z e List.not_mem_nil
    have s2 := s1.trans s12
    have hD2 := s12 _ _ hDn
    have free : ∀ (G : Hp), Same H G → ∀ q, G q = none → H q = none := fun G sg q h => by
      cases e : H q with
      | none => rfl
      | some o => rw [sg _ _ e] at h; cases h
    have hd0 : H d = none := free _ s1 _ (made_free hd)
    obtain ⟨dx2, hp2⟩ := J.ob
    refine ⟨_, _, hp2, no_top _, ?_⟩
    ((try dsimp only [sp_is_whole, sp_is_among, sp_is_day, sp_never1, sp_signs_lie, sp_is_name, sp_are_names, sp_is_path, sp_names_of, sp_above, sp_a_init, sp_on, sp_later, sp_c_init, sp_has, sp_account, sp_add_top, sp_add, sp_shut, sp_span, sp_is_open, sp_beneath, sp_accounts, sp_at, sp_name_by, sp_went, sp_uppers, sp_days, sp_span_good, sp_all_good]); try simp only [rdAllI, rdI, V.int.injEq, V.ref.injEq, eqQ_int, eqQ_bl, eqQ_str, eqQ_ref, eqQ_nn, eqQ_ni, eqQ_in, eqQ_is, eqQ_si, L2.start, List.map_cons, List.map_nil, List.cons_append, List.nil_append, List.append_nil, List.length_cons, List.length_nil, List.replicate, List.getElem?_cons_zero, List.getElem?_cons_succ, List.set_cons_zero, List.set_cons_succ, Nat.reduceSub, Nat.reduceAdd, Int.reduceLT, Int.reduceLE, Int.reducePow, Int.reduceNeg, Nat.reducePow, List.cons.injEq, exists_eq_left', exists_eq_left, eq_self, if_false, if_true, ↓reduceIte, ite_not, forall_const, Option.join, Option.bind_some, id_eq])
    refine ⟨_, _, .inl (SqL.of hD2), n0, N2, ?_⟩
    ((try dsimp only [sp_is_whole, sp_is_among, sp_is_day, sp_never1, sp_signs_lie, sp_is_name, sp_are_names, sp_is_path, sp_names_of, sp_above, sp_a_init, sp_on, sp_later, sp_c_init, sp_has, sp_account, sp_add_top, sp_add, sp_shut, sp_span, sp_is_open, sp_beneath, sp_accounts, sp_at, sp_name_by, sp_went, sp_uppers, sp_days, sp_span_good, sp_all_good]); try simp only [rdAllI, rdI, V.int.injEq, V.ref.injEq, eqQ_int, eqQ_bl, eqQ_str, eqQ_ref, eqQ_nn, eqQ_ni, eqQ_in, eqQ_is, eqQ_si, L2.start, List.map_cons, List.map_nil, List.cons_append, List.nil_append, List.append_nil, List.length_cons, List.length_nil, List.replicate, List.getElem?_cons_zero, List.getElem?_cons_succ, List.set_cons_zero, List.set_cons_succ, Nat.reduceSub, Nat.reduceAdd, Int.reduceLT, Int.reduceLE, Int.reducePow, Int.reduceNeg, Nat.reducePow, List.cons.injEq, exists_eq_left', exists_eq_left, eq_self, if_false, if_true, ↓reduceIte, ite_not, forall_const, Option.join, Option.bind_some, id_eq])
    have nl := nm_len nm0
    refine ⟨⟨fun c hc => by have := nl.2.2 c hc; omega, by omega⟩, rfl, d, [], J, by decide, itp nm0 ?_⟩
    intro c H3 e1 e2 e3 e4 n1 n2 J3 K3 N3
    have s3 : Same H H3 := Keep.toSame s2 K3 fun x hx => by rw [List.mem_singleton.mp hx]; exact hd0
    have Dd : D ≠ d := ne_at hD2 J.dc (by intro z; cases z)
    have hD3 : H3 D = some (HO.lst (ls.map L2.T)) := K3 _ _ hD2 (by simpa using Dd)
    refine ⟨_, _, .inl (SqL.of hD3), n0, by omega, fun t ht => ⟨noT_upd N3 rfl, hS.same (s3.trans (same_upd _ ht)), ?_⟩⟩
    have J3' : CAt a.c_Chart a.c_Account H3 p d [c] := J3
    have tD : D ≠ t := ne_of_none hD3 ht
    refine c6 p d t D [c] ls _ _ _ ⟨s3.trans (same_upd _ ht), noT_upd N3 rfl, J3'.same (same_upd _ ht), ?_, ?_, ?_, ?_, ?_, Ne.symm tD, ?_, free _ s3 _ ht, by simp⟩ (by simp) l4 hnm
    · have := Good.nil.top (c := c) ⟨by rw [e1]; exact fun c hc => by have := nl.2.2 c hc; omega, by rw [e1]; omega⟩ (by rw [e1]; exact fun h => by have := nl.2.2 58 h; omega) e3 e4
      exact this
    · rw [upd_same, ← e1]; rfl
    · rw [upd_ne tD]; exact hD3
    · intro hm
      have e : _ = c.bl := List.mem_singleton.mp hm
      have := (J3'.ac c (.head _)).ls
      rw [← e, ht] at this; cases this
    · intro hm
      have e : _ = c.bl := List.mem_singleton.mp hm
      rw [← e, hD2] at n2; cases n2
    · intro q hq
      simp only [own, List.map_cons, List.map_nil, List.cons_append, List.nil_append, List.mem_cons, List.not_mem_nil, or_false] at hq
      rcases hq with rfl | rfl | rfl
      · exact hd0
      · exact free _ s2 _ n1
      · exact free _ s2 _ n2
theorem law_starts {H : Hp} {p : Addr} (hO : Only H) (hS : SqL K H p (ns.map V.int)) (hl : ns.length ≤ 63) : sp_law K [.ref p] H (fun v _ => v = .bl true) fun _ _ _ => False := ⟨noT_only hO, ns, hS, hl, rfl⟩
end
end K8
set_option Elab.async false
set_option linter.all false
set_option maxRecDepth 100000
set_option maxHeartbeats 400000
namespace K8
open PySem L2
theorem all_mk {l : PySem.W.OpenLaw} {w : World} {K : PySem.W.Frag} {h : Heap} {mg : Str → Option Value} {fa : Addr} (X : K.In h) (G : h.Ns mainGlobals mg) (hfa : mg "law" = some (.ref fa))
    {C11 : Addr}
    {C10 : Addr}
    {C9 : Addr}
    {C8 : Addr}
    {C7 : Addr}
    {C6 : Addr}
    {C5 : Addr}
    {C4 : Addr}
    {C3 : Addr}
    {C2 : Addr}
    {C1 : Addr}
    {C0 : Addr}
    {f0 : Addr} {od0 an0 : Option Addr} {sl0 : Array (Option Value)} {oc0 kV0 dc0 pm0 cd0 ct0 : Value}
    {f1 : Addr} {od1 an1 : Option Addr} {sl1 : Array (Option Value)} {oc1 kV1 dc1 pm1 cd1 ct1 : Value}
    {f2 : Addr} {od2 an2 : Option Addr} {sl2 : Array (Option Value)} {oc2 kV2 dc2 pm2 cd2 ct2 : Value}
    {f3 : Addr} {od3 an3 : Option Addr} {sl3 : Array (Option Value)} {oc3 kV3 dc3 pm3 cd3 ct3 : Value}
    {f4 : Addr} {od4 an4 : Option Addr} {sl4 : Array (Option Value)} {oc4 kV4 dc4 pm4 cd4 ct4 : Value}
    {f5 : Addr} {od5 an5 : Option Addr} {sl5 : Array (Option Value)} {oc5 kV5 dc5 pm5 cd5 ct5 : Value}
    {f6 : Addr} {od6 an6 : Option Addr} {sl6 : Array (Option Value)} {oc6 kV6 dc6 pm6 cd6 ct6 : Value}
    {f7 : Addr} {od7 an7 : Option Addr} {sl7 : Array (Option Value)} {oc7 kV7 dc7 pm7 cd7 ct7 : Value}
    {f8 : Addr} {od8 an8 : Option Addr} {sl8 : Array (Option Value)} {oc8 kV8 dc8 pm8 cd8 ct8 : Value}
    {f9 : Addr} {od9 an9 : Option Addr} {sl9 : Array (Option Value)} {oc9 kV9 dc9 pm9 cd9 ct9 : Value}
    {f10 : Addr} {od10 an10 : Option Addr} {sl10 : Array (Option Value)} {oc10 kV10 dc10 pm10 cd10 ct10 : Value}
    {f11 : Addr} {od11 an11 : Option Addr} {sl11 : Array (Option Value)} {oc11 kV11 dc11 pm11 cd11 ct11 : Value}
    {f12 : Addr} {od12 an12 : Option Addr} {sl12 : Array (Option Value)} {oc12 kV12 dc12 pm12 cd12 ct12 : Value}
    {f13 : Addr} {od13 an13 : Option Addr} {sl13 : Array (Option Value)} {oc13 kV13 dc13 pm13 cd13 ct13 : Value}
    {f14 : Addr} {od14 an14 : Option Addr} {sl14 : Array (Option Value)} {oc14 kV14 dc14 pm14 cd14 ct14 : Value}
    {f15 : Addr} {od15 an15 : Option Addr} {sl15 : Array (Option Value)} {oc15 kV15 dc15 pm15 cd15 ct15 : Value}
    {f16 : Addr} {od16 an16 : Option Addr} {sl16 : Array (Option Value)} {oc16 kV16 dc16 pm16 cd16 ct16 : Value}
    {f17 : Addr} {od17 an17 : Option Addr} {sl17 : Array (Option Value)} {oc17 kV17 dc17 pm17 cd17 ct17 : Value}
    {f18 : Addr} {od18 an18 : Option Addr} {sl18 : Array (Option Value)} {oc18 kV18 dc18 pm18 cd18 ct18 : Value}
    {f19 : Addr} {od19 an19 : Option Addr} {sl19 : Array (Option Value)} {oc19 kV19 dc19 pm19 cd19 ct19 : Value}
    {f20 : Addr} {od20 an20 : Option Addr} {sl20 : Array (Option Value)} {oc20 kV20 dc20 pm20 cd20 ct20 : Value}
    {f21 : Addr} {od21 an21 : Option Addr} {sl21 : Array (Option Value)} {oc21 kV21 dc21 pm21 cd21 ct21 : Value}
    {f22 : Addr} {od22 an22 : Option Addr} {sl22 : Array (Option Value)} {oc22 kV22 dc22 pm22 cd22 ct22 : Value}
    {f23 : Addr} {od23 an23 : Option Addr} {sl23 : Array (Option Value)} {oc23 kV23 dc23 pm23 cd23 ct23 : Value}
    {f24 : Addr} {od24 an24 : Option Addr} {sl24 : Array (Option Value)} {oc24 kV24 dc24 pm24 cd24 ct24 : Value}
    {f25 : Addr} {od25 an25 : Option Addr} {sl25 : Array (Option Value)} {oc25 kV25 dc25 pm25 cd25 ct25 : Value}
    {f26 : Addr} {od26 an26 : Option Addr} {sl26 : Array (Option Value)} {oc26 kV26 dc26 pm26 cd26 ct26 : Value}
    {f27 : Addr} {od27 an27 : Option Addr} {sl27 : Array (Option Value)} {oc27 kV27 dc27 pm27 cd27 ct27 : Value}
    {f28 : Addr} {od28 an28 : Option Addr} {sl28 : Array (Option Value)} {oc28 kV28 dc28 pm28 cd28 ct28 : Value}
    {f29 : Addr} {od29 an29 : Option Addr} {sl29 : Array (Option Value)} {oc29 kV29 dc29 pm29 cd29 ct29 : Value}
    {f30 : Addr} {od30 an30 : Option Addr} {sl30 : Array (Option Value)} {oc30 kV30 dc30 pm30 cd30 ct30 : Value}
    {f31 : Addr} {od31 an31 : Option Addr} {sl31 : Array (Option Value)} {oc31 kV31 dc31 pm31 cd31 ct31 : Value}
    {f32 : Addr} {od32 an32 : Option Addr} {sl32 : Array (Option Value)} {oc32 kV32 dc32 pm32 cd32 ct32 : Value}
    {f33 : Addr} {od33 an33 : Option Addr} {sl33 : Array (Option Value)} {oc33 kV33 dc33 pm33 cd33 ct33 : Value}
    {cl0 : ClassData}
    {cl1 : ClassData}
    {cl2 : ClassData}
    {cl3 : ClassData}
    {cl4 : ClassData}
    {cl5 : ClassData}
    {cl6 : ClassData}
    {cl7 : ClassData}
    {cl8 : ClassData}
    {cl9 : ClassData}
    {D0 : Addr} {dd0 : Option Addr} {dsl0 : Array (Option Value)} {dn0 : Nat} {tk0 tk1 tk2 tk3 tk4 : Tok}
    (a0 : PySem.W.nsIn K mainGlobals "_wall" = some (some (.ref f0)))
    (l0 : K.lookup f0 = some ⟨oc0, od0, .func (PySem.W.fnOf "_wall" "_wall" (defArgs s__wall) (defBody s__wall) (defScope s__wall) .none kV0 dc0 pm0 an0 cd0 ct0), sl0⟩)
    (c0 : PySem.W.codeIn K cd0 "_wall" = true) (k0 : PySem.W.keepIn K (.ref f0) = true)
    (a1 : PySem.W.nsIn K mainGlobals "is_whole" = some (some (.ref f1)))
    (l1 : K.lookup f1 = some ⟨oc1, od1, .func (PySem.W.fnOf "is_whole" "is_whole" (defArgs s_is_whole) (defBody s_is_whole) (defScope s_is_whole) .none kV1 dc1 pm1 an1 cd1 ct1), sl1⟩)
    (c1 : PySem.W.codeIn K cd1 "is_whole" = true) (k1 : PySem.W.keepIn K (.ref f1) = true)
    (a2 : PySem.W.nsIn K mainGlobals "is_among" = some (some (.ref f2)))
    (l2 : K.lookup f2 = some ⟨oc2, od2, .func (PySem.W.fnOf "is_among" "is_among" (defArgs s_is_among) (defBody s_is_among) (defScope s_is_among) .none kV2 dc2 pm2 an2 cd2 ct2), sl2⟩)
    (c2 : PySem.W.codeIn K cd2 "is_among" = true) (k2 : PySem.W.keepIn K (.ref f2) = true)
    (a3 : PySem.W.nsIn K mainGlobals "signs_lie" = some (some (.ref f3)))
    (l3 : K.lookup f3 = some ⟨oc3, od3, .func (PySem.W.fnOf "signs_lie" "signs_lie" (defArgs s_signs_lie) (defBody s_signs_lie) (defScope s_signs_lie) .none kV3 dc3 pm3 an3 cd3 ct3), sl3⟩)
    (c3 : PySem.W.codeIn K cd3 "signs_lie" = true) (k3 : PySem.W.keepIn K (.ref f3) = true)
    (a4 : PySem.W.nsIn K mainGlobals "is_name" = some (some (.ref f4)))
    (l4 : K.lookup f4 = some ⟨oc4, od4, .func (PySem.W.fnOf "is_name" "is_name" (defArgs s_is_name) (defBody s_is_name) (defScope s_is_name) .none kV4 dc4 pm4 an4 cd4 ct4), sl4⟩)
    (c4 : PySem.W.codeIn K cd4 "is_name" = true) (k4 : PySem.W.keepIn K (.ref f4) = true)
    (a5 : PySem.W.nsIn K mainGlobals "is_day" = some (some (.ref f5)))
    (l5 : K.lookup f5 = some ⟨oc5, od5, .func (PySem.W.fnOf "is_day" "is_day" (defArgs s_is_day) (defBody s_is_day) (defScope s_is_day) .none kV5 dc5 pm5 an5 cd5 ct5), sl5⟩)
    (c5 : PySem.W.codeIn K cd5 "is_day" = true) (k5 : PySem.W.keepIn K (.ref f5) = true)
    (a6 : PySem.W.nsIn K mainGlobals "is_currency" = some (some (.ref f6)))
    (l6 : K.lookup f6 = some ⟨oc6, od6, .func (PySem.W.fnOf "is_currency" "is_currency" (defArgs s_is_currency) (defBody s_is_currency) (defScope s_is_currency) .none kV6 dc6 pm6 an6 cd6 ct6), sl6⟩)
    (c6 : PySem.W.codeIn K cd6 "is_currency" = true) (k6 : PySem.W.keepIn K (.ref f6) = true)
    (a7 : PySem.W.nsIn K mainGlobals "are_names" = some (some (.ref f7)))
    (l7 : K.lookup f7 = some ⟨oc7, od7, .func (PySem.W.fnOf "are_names" "are_names" (defArgs s_are_names) (defBody s_are_names) (defScope s_are_names) .none kV7 dc7 pm7 an7 cd7 ct7), sl7⟩)
    (c7 : PySem.W.codeIn K cd7 "are_names" = true) (k7 : PySem.W.keepIn K (.ref f7) = true)
    (a8 : PySem.W.nsIn K mainGlobals "is_path" = some (some (.ref f8)))
    (l8 : K.lookup f8 = some ⟨oc8, od8, .func (PySem.W.fnOf "is_path" "is_path" (defArgs s_is_path) (defBody s_is_path) (defScope s_is_path) .none kV8 dc8 pm8 an8 cd8 ct8), sl8⟩)
    (c8 : PySem.W.codeIn K cd8 "is_path" = true) (k8 : PySem.W.keepIn K (.ref f8) = true)
    (a9 : PySem.W.nsIn K mainGlobals "names_of" = some (some (.ref f9)))
    (l9 : K.lookup f9 = some ⟨oc9, od9, .func (PySem.W.fnOf "names_of" "names_of" (defArgs s_names_of) (defBody s_names_of) (defScope s_names_of) .none kV9 dc9 pm9 an9 cd9 ct9), sl9⟩)
    (c9 : PySem.W.codeIn K cd9 "names_of" = true) (k9 : PySem.W.keepIn K (.ref f9) = true)
    (a10 : PySem.W.nsIn K mainGlobals "above" = some (some (.ref f10)))
    (l10 : K.lookup f10 = some ⟨oc10, od10, .func (PySem.W.fnOf "above" "above" (defArgs s_above) (defBody s_above) (defScope s_above) .none kV10 dc10 pm10 an10 cd10 ct10), sl10⟩)
    (c10 : PySem.W.codeIn K cd10 "above" = true) (k10 : PySem.W.keepIn K (.ref f10) = true)
    (a11 : PySem.W.nsIn K mainGlobals "_law_cell_at" = some (some (.ref f11)))
    (l11 : K.lookup f11 = some ⟨oc11, od11, .func (PySem.W.fnOf "_law_cell_at" "_law_cell_at" (defArgs s__law_cell_at) (defBody s__law_cell_at) (defScope s__law_cell_at) .none kV11 dc11 pm11 an11 cd11 ct11), sl11⟩)
    (c11 : PySem.W.codeIn K cd11 "_law_cell_at" = true) (k11 : PySem.W.keepIn K (.ref f11) = true)
    (a12 : PySem.W.nsIn K mainGlobals "_law_name_by" = some (some (.ref f12)))
    (l12 : K.lookup f12 = some ⟨oc12, od12, .func (PySem.W.fnOf "_law_name_by" "_law_name_by" (defArgs s__law_name_by) (defBody s__law_name_by) (defScope s__law_name_by) .none kV12 dc12 pm12 an12 cd12 ct12), sl12⟩)
    (c12 : PySem.W.codeIn K cd12 "_law_name_by" = true) (k12 : PySem.W.keepIn K (.ref f12) = true)
    (a13 : PySem.W.nsIn K mainGlobals "_law_went" = some (some (.ref f13)))
    (l13 : K.lookup f13 = some ⟨oc13, od13, .func (PySem.W.fnOf "_law_went" "_law_went" (defArgs s__law_went) (defBody s__law_went) (defScope s__law_went) .none kV13 dc13 pm13 an13 cd13 ct13), sl13⟩)
    (c13 : PySem.W.codeIn K cd13 "_law_went" = true) (k13 : PySem.W.keepIn K (.ref f13) = true)
    (a14 : PySem.W.nsIn K mainGlobals "_law_days" = some (some (.ref f14)))
    (l14 : K.lookup f14 = some ⟨oc14, od14, .func (PySem.W.fnOf "_law_days" "_law_days" (defArgs s__law_days) (defBody s__law_days) (defScope s__law_days) .none kV14 dc14 pm14 an14 cd14 ct14), sl14⟩)
    (c14 : PySem.W.codeIn K cd14 "_law_days" = true) (k14 : PySem.W.keepIn K (.ref f14) = true)
    (a15 : PySem.W.nsIn K mainGlobals "_law_uppers" = some (some (.ref f15)))
    (l15 : K.lookup f15 = some ⟨oc15, od15, .func (PySem.W.fnOf "_law_uppers" "_law_uppers" (defArgs s__law_uppers) (defBody s__law_uppers) (defScope s__law_uppers) .none kV15 dc15 pm15 an15 cd15 ct15), sl15⟩)
    (c15 : PySem.W.codeIn K cd15 "_law_uppers" = true) (k15 : PySem.W.keepIn K (.ref f15) = true)
    (a16 : PySem.W.nsIn K mainGlobals "_law_span_good" = some (some (.ref f16)))
    (l16 : K.lookup f16 = some ⟨oc16, od16, .func (PySem.W.fnOf "_law_span_good" "_law_span_good" (defArgs s__law_span_good) (defBody s__law_span_good) (defScope s__law_span_good) .none kV16 dc16 pm16 an16 cd16 ct16), sl16⟩)
    (c16 : PySem.W.codeIn K cd16 "_law_span_good" = true) (k16 : PySem.W.keepIn K (.ref f16) = true)
    (a17 : PySem.W.nsIn K mainGlobals "_law_all_good" = some (some (.ref f17)))
    (l17 : K.lookup f17 = some ⟨oc17, od17, .func (PySem.W.fnOf "_law_all_good" "_law_all_good" (defArgs s__law_all_good) (defBody s__law_all_good) (defScope s__law_all_good) .none kV17 dc17 pm17 an17 cd17 ct17), sl17⟩)
    (c17 : PySem.W.codeIn K cd17 "_law_all_good" = true) (k17 : PySem.W.keepIn K (.ref f17) = true)
    (a18 : PySem.W.nsIn K mainGlobals "law" = some (some (.ref f18)))
    (l18 : K.lookup f18 = some ⟨oc18, od18, .func (PySem.W.fnOf "law" "law" (defArgs s_law) (defBody s_law) (defScope s_law) .none kV18 dc18 pm18 an18 cd18 ct18), sl18⟩)
    (c18 : PySem.W.codeIn K cd18 "law" = true) (k18 : PySem.W.keepIn K (.ref f18) = true)
    (a19 : PySem.W.findIn K (.ref C10) "__init__" = some (some (.ref f19))) (i19 : PySem.W.isFn K (.ref f19) = true)
    (l19 : K.lookup f19 = some ⟨oc19, od19, .func (PySem.W.fnOf "__init__" "Account.__init__" (defArgs s_Account___init__) (defBody s_Account___init__) (defScope s_Account___init__) .none kV19 dc19 pm19 an19 cd19 ct19), sl19⟩)
    (c19 : PySem.W.codeIn K cd19 "Account.__init__" = true) (k19 : PySem.W.keepIn K (.ref f19) = true)
    (a20 : PySem.W.findIn K (.ref C10) "stands_on" = some (some (.ref f20))) (i20 : PySem.W.isFn K (.ref f20) = true)
    (l20 : K.lookup f20 = some ⟨oc20, od20, .func (PySem.W.fnOf "stands_on" "Account.stands_on" (defArgs s_Account_stands_on) (defBody s_Account_stands_on) (defScope s_Account_stands_on) .none kV20 dc20 pm20 an20 cd20 ct20), sl20⟩)
    (c20 : PySem.W.codeIn K cd20 "Account.stands_on" = true) (k20 : PySem.W.keepIn K (.ref f20) = true)
    (a21 : PySem.W.findIn K (.ref C10) "stands_later" = some (some (.ref f21))) (i21 : PySem.W.isFn K (.ref f21) = true)
    (l21 : K.lookup f21 = some ⟨oc21, od21, .func (PySem.W.fnOf "stands_later" "Account.stands_later" (defArgs s_Account_stands_later) (defBody s_Account_stands_later) (defScope s_Account_stands_later) .none kV21 dc21 pm21 an21 cd21 ct21), sl21⟩)
    (c21 : PySem.W.codeIn K cd21 "Account.stands_later" = true) (k21 : PySem.W.keepIn K (.ref f21) = true)
    (a22 : PySem.W.findIn K (.ref C11) "__init__" = some (some (.ref f22))) (i22 : PySem.W.isFn K (.ref f22) = true)
    (l22 : K.lookup f22 = some ⟨oc22, od22, .func (PySem.W.fnOf "__init__" "Chart.__init__" (defArgs s_Chart___init__) (defBody s_Chart___init__) (defScope s_Chart___init__) .none kV22 dc22 pm22 an22 cd22 ct22), sl22⟩)
    (c22 : PySem.W.codeIn K cd22 "Chart.__init__" = true) (k22 : PySem.W.keepIn K (.ref f22) = true)
    (a23 : PySem.W.findIn K (.ref C11) "add_top" = some (some (.ref f23))) (i23 : PySem.W.isFn K (.ref f23) = true)
    (l23 : K.lookup f23 = some ⟨oc23, od23, .func (PySem.W.fnOf "add_top" "Chart.add_top" (defArgs s_Chart_add_top) (defBody s_Chart_add_top) (defScope s_Chart_add_top) .none kV23 dc23 pm23 an23 cd23 ct23), sl23⟩)
    (c23 : PySem.W.codeIn K cd23 "Chart.add_top" = true) (k23 : PySem.W.keepIn K (.ref f23) = true)
    (a24 : PySem.W.findIn K (.ref C11) "add" = some (some (.ref f24))) (i24 : PySem.W.isFn K (.ref f24) = true)
    (l24 : K.lookup f24 = some ⟨oc24, od24, .func (PySem.W.fnOf "add" "Chart.add" (defArgs s_Chart_add) (defBody s_Chart_add) (defScope s_Chart_add) .none kV24 dc24 pm24 an24 cd24 ct24), sl24⟩)
    (c24 : PySem.W.codeIn K cd24 "Chart.add" = true) (k24 : PySem.W.keepIn K (.ref f24) = true)
    (a25 : PySem.W.findIn K (.ref C11) "shut" = some (some (.ref f25))) (i25 : PySem.W.isFn K (.ref f25) = true)
    (l25 : K.lookup f25 = some ⟨oc25, od25, .func (PySem.W.fnOf "shut" "Chart.shut" (defArgs s_Chart_shut) (defBody s_Chart_shut) (defScope s_Chart_shut) .none kV25 dc25 pm25 an25 cd25 ct25), sl25⟩)
    (c25 : PySem.W.codeIn K cd25 "Chart.shut" = true) (k25 : PySem.W.keepIn K (.ref f25) = true)
    (a26 : PySem.W.findIn K (.ref C11) "has" = some (some (.ref f26))) (i26 : PySem.W.isFn K (.ref f26) = true)
    (l26 : K.lookup f26 = some ⟨oc26, od26, .func (PySem.W.fnOf "has" "Chart.has" (defArgs s_Chart_has) (defBody s_Chart_has) (defScope s_Chart_has) .none kV26 dc26 pm26 an26 cd26 ct26), sl26⟩)
    (c26 : PySem.W.codeIn K cd26 "Chart.has" = true) (k26 : PySem.W.keepIn K (.ref f26) = true)
    (a27 : PySem.W.findIn K (.ref C11) "account" = some (some (.ref f27))) (i27 : PySem.W.isFn K (.ref f27) = true)
    (l27 : K.lookup f27 = some ⟨oc27, od27, .func (PySem.W.fnOf "account" "Chart.account" (defArgs s_Chart_account) (defBody s_Chart_account) (defScope s_Chart_account) .none kV27 dc27 pm27 an27 cd27 ct27), sl27⟩)
    (c27 : PySem.W.codeIn K cd27 "Chart.account" = true) (k27 : PySem.W.keepIn K (.ref f27) = true)
    (a28 : PySem.W.findIn K (.ref C11) "kind_of" = some (some (.ref f28))) (i28 : PySem.W.isFn K (.ref f28) = true)
    (l28 : K.lookup f28 = some ⟨oc28, od28, .func (PySem.W.fnOf "kind_of" "Chart.kind_of" (defArgs s_Chart_kind_of) (defBody s_Chart_kind_of) (defScope s_Chart_kind_of) .none kV28 dc28 pm28 an28 cd28 ct28), sl28⟩)
    (c28 : PySem.W.codeIn K cd28 "Chart.kind_of" = true) (k28 : PySem.W.keepIn K (.ref f28) = true)
    (a29 : PySem.W.findIn K (.ref C11) "currency_of" = some (some (.ref f29))) (i29 : PySem.W.isFn K (.ref f29) = true)
    (l29 : K.lookup f29 = some ⟨oc29, od29, .func (PySem.W.fnOf "currency_of" "Chart.currency_of" (defArgs s_Chart_currency_of) (defBody s_Chart_currency_of) (defScope s_Chart_currency_of) .none kV29 dc29 pm29 an29 cd29 ct29), sl29⟩)
    (c29 : PySem.W.codeIn K cd29 "Chart.currency_of" = true) (k29 : PySem.W.keepIn K (.ref f29) = true)
    (a30 : PySem.W.findIn K (.ref C11) "span_of" = some (some (.ref f30))) (i30 : PySem.W.isFn K (.ref f30) = true)
    (l30 : K.lookup f30 = some ⟨oc30, od30, .func (PySem.W.fnOf "span_of" "Chart.span_of" (defArgs s_Chart_span_of) (defBody s_Chart_span_of) (defScope s_Chart_span_of) .none kV30 dc30 pm30 an30 cd30 ct30), sl30⟩)
    (c30 : PySem.W.codeIn K cd30 "Chart.span_of" = true) (k30 : PySem.W.keepIn K (.ref f30) = true)
    (a31 : PySem.W.findIn K (.ref C11) "is_open" = some (some (.ref f31))) (i31 : PySem.W.isFn K (.ref f31) = true)
    (l31 : K.lookup f31 = some ⟨oc31, od31, .func (PySem.W.fnOf "is_open" "Chart.is_open" (defArgs s_Chart_is_open) (defBody s_Chart_is_open) (defScope s_Chart_is_open) .none kV31 dc31 pm31 an31 cd31 ct31), sl31⟩)
    (c31 : PySem.W.codeIn K cd31 "Chart.is_open" = true) (k31 : PySem.W.keepIn K (.ref f31) = true)
    (a32 : PySem.W.findIn K (.ref C11) "beneath" = some (some (.ref f32))) (i32 : PySem.W.isFn K (.ref f32) = true)
    (l32 : K.lookup f32 = some ⟨oc32, od32, .func (PySem.W.fnOf "beneath" "Chart.beneath" (defArgs s_Chart_beneath) (defBody s_Chart_beneath) (defScope s_Chart_beneath) .none kV32 dc32 pm32 an32 cd32 ct32), sl32⟩)
    (c32 : PySem.W.codeIn K cd32 "Chart.beneath" = true) (k32 : PySem.W.keepIn K (.ref f32) = true)
    (a33 : PySem.W.findIn K (.ref C11) "accounts" = some (some (.ref f33))) (i33 : PySem.W.isFn K (.ref f33) = true)
    (l33 : K.lookup f33 = some ⟨oc33, od33, .func (PySem.W.fnOf "accounts" "Chart.accounts" (defArgs s_Chart_accounts) (defBody s_Chart_accounts) (defScope s_Chart_accounts) .none kV33 dc33 pm33 an33 cd33 ct33), sl33⟩)
    (c33 : PySem.W.codeIn K cd33 "Chart.accounts" = true) (k33 : PySem.W.keepIn K (.ref f33) = true)
    (p0 : PySem.W.nsIn K mainGlobals "HouseError" = some (some (.ref C0)))
    (p1 : PySem.W.nsIn K mainGlobals "BadName" = some (some (.ref C1)))
    (p2 : PySem.W.nsIn K mainGlobals "BadDay" = some (some (.ref C2)))
    (p3 : PySem.W.nsIn K mainGlobals "BadCurrency" = some (some (.ref C3)))
    (p4 : PySem.W.nsIn K mainGlobals "BadPath" = some (some (.ref C4)))
    (p5 : PySem.W.nsIn K mainGlobals "BadKind" = some (some (.ref C5)))
    (p6 : PySem.W.nsIn K mainGlobals "NoAccount" = some (some (.ref C6)))
    (p7 : PySem.W.nsIn K mainGlobals "Twice" = some (some (.ref C7)))
    (p8 : PySem.W.nsIn K mainGlobals "NotOpen" = some (some (.ref C8)))
    (p9 : PySem.W.nsIn K mainGlobals "HasBelow" = some (some (.ref C9)))
    (p10 : PySem.W.nsIn K mainGlobals "Account" = some (some (.ref C10)))
    (p11 : PySem.W.nsIn K mainGlobals "Chart" = some (some (.ref C11)))
    (pg10 : PySem.W.plainGet K C10 Str.empty = true) (hd10 : PySem.W.hasDictIn K C10 = true) (po10 : PySem.W.plainOver K C10 = true) (sa10 : PySem.W.findIn K (.ref C10) "__setattr__" = some (some (.builtin "object.__setattr__"))) (mk10 : PySem.W.makesIn K C10 = true) (kc10 : PySem.W.keepIn K (.ref C10) = true)
    (na10_0 : PySem.W.findIn K (.ref C10) "kind" = some none)
    (na10_1 : PySem.W.findIn K (.ref C10) "currency" = some none)
    (na10_2 : PySem.W.findIn K (.ref C10) "first" = some none)
    (na10_3 : PySem.W.findIn K (.ref C10) "until" = some none)
    (na10_4 : PySem.W.findIn K (.ref C10) "below" = some none)
    (pg11 : PySem.W.plainGet K C11 Str.empty = true) (hd11 : PySem.W.hasDictIn K C11 = true) (po11 : PySem.W.plainOver K C11 = true) (sa11 : PySem.W.findIn K (.ref C11) "__setattr__" = some (some (.builtin "object.__setattr__"))) (mk11 : PySem.W.makesIn K C11 = true) (kc11 : PySem.W.keepIn K (.ref C11) = true)
    (na11_0 : PySem.W.findIn K (.ref C11) "by_path" = some none)
    (o0 : PySem.W.clsIn K C0 = some cl0)
    (r0 : PySem.W.typeIn K (.ref C0) = some (.type "type"))
    (b0 : PySem.W.mroIn K C0 (.type "BaseException") = some true)
    (o1 : PySem.W.clsIn K C1 = some cl1)
    (r1 : PySem.W.typeIn K (.ref C1) = some (.type "type"))
    (b1 : PySem.W.mroIn K C1 (.type "BaseException") = some true)
    (o2 : PySem.W.clsIn K C2 = some cl2)
    (r2 : PySem.W.typeIn K (.ref C2) = some (.type "type"))
    (b2 : PySem.W.mroIn K C2 (.type "BaseException") = some true)
    (o3 : PySem.W.clsIn K C3 = some cl3)
    (r3 : PySem.W.typeIn K (.ref C3) = some (.type "type"))
    (b3 : PySem.W.mroIn K C3 (.type "BaseException") = some true)
    (o4 : PySem.W.clsIn K C4 = some cl4)
    (r4 : PySem.W.typeIn K (.ref C4) = some (.type "type"))
    (b4 : PySem.W.mroIn K C4 (.type "BaseException") = some true)
    (o5 : PySem.W.clsIn K C5 = some cl5)
    (r5 : PySem.W.typeIn K (.ref C5) = some (.type "type"))
    (b5 : PySem.W.mroIn K C5 (.type "BaseException") = some true)
    (o6 : PySem.W.clsIn K C6 = some cl6)
    (r6 : PySem.W.typeIn K (.ref C6) = some (.type "type"))
    (b6 : PySem.W.mroIn K C6 (.type "BaseException") = some true)
    (o7 : PySem.W.clsIn K C7 = some cl7)
    (r7 : PySem.W.typeIn K (.ref C7) = some (.type "type"))
    (b7 : PySem.W.mroIn K C7 (.type "BaseException") = some true)
    (o8 : PySem.W.clsIn K C8 = some cl8)
    (r8 : PySem.W.typeIn K (.ref C8) = some (.type "type"))
    (b8 : PySem.W.mroIn K C8 (.type "BaseException") = some true)
    (o9 : PySem.W.clsIn K C9 = some cl9)
    (r9 : PySem.W.typeIn K (.ref C9) = some (.type "type"))
    (b9 : PySem.W.mroIn K C9 (.type "BaseException") = some true)
    (q3 : PySem.W.excIn K C3 [.type "ValueError", .type "Exception", .type "BaseException", .type "object"] "ValueError.__new__" = true)
    (g3 : PySem.W.mroIn K C3 (.type "object") = some true)
    (v3 : PySem.W.mroIn K C3 (.type "ValueError") = some true)
    (u3 : PySem.W.findIn K (.ref C3) "__getattribute__" = some (some (.builtin "BaseException.__getattribute__")))
    (w3 : PySem.W.findIn K (.ref C3) "__getattr__" = some none)
    (y3 : PySem.W.findIn K (.ref C3) "__class__" = some (some (.builtin "object.__class__")))
    (s3_0 : PySem.W.mroIn K C3 (.ref C0) = some true)
    (s3_1 : PySem.W.mroIn K C3 (.ref C1) = some false)
    (s3_2 : PySem.W.mroIn K C3 (.ref C2) = some false)
    (s3_3 : PySem.W.mroIn K C3 (.ref C3) = some true)
    (s3_4 : PySem.W.mroIn K C3 (.ref C4) = some false)
    (s3_5 : PySem.W.mroIn K C3 (.ref C5) = some false)
    (s3_6 : PySem.W.mroIn K C3 (.ref C6) = some false)
    (s3_7 : PySem.W.mroIn K C3 (.ref C7) = some false)
    (s3_8 : PySem.W.mroIn K C3 (.ref C8) = some false)
    (s3_9 : PySem.W.mroIn K C3 (.ref C9) = some false)
    (q2 : PySem.W.excIn K C2 [.type "ValueError", .type "Exception", .type "BaseException", .type "object"] "ValueError.__new__" = true)
    (g2 : PySem.W.mroIn K C2 (.type "object") = some true)
    (v2 : PySem.W.mroIn K C2 (.type "ValueError") = some true)
    (u2 : PySem.W.findIn K (.ref C2) "__getattribute__" = some (some (.builtin "BaseException.__getattribute__")))
    (w2 : PySem.W.findIn K (.ref C2) "__getattr__" = some none)
    (y2 : PySem.W.findIn K (.ref C2) "__class__" = some (some (.builtin "object.__class__")))
    (s2_0 : PySem.W.mroIn K C2 (.ref C0) = some true)
    (s2_1 : PySem.W.mroIn K C2 (.ref C1) = some false)
    (s2_2 : PySem.W.mroIn K C2 (.ref C2) = some true)
    (s2_3 : PySem.W.mroIn K C2 (.ref C3) = some false)
    (s2_4 : PySem.W.mroIn K C2 (.ref C4) = some false)
    (s2_5 : PySem.W.mroIn K C2 (.ref C5) = some false)
    (s2_6 : PySem.W.mroIn K C2 (.ref C6) = some false)
    (s2_7 : PySem.W.mroIn K C2 (.ref C7) = some false)
    (s2_8 : PySem.W.mroIn K C2 (.ref C8) = some false)
    (s2_9 : PySem.W.mroIn K C2 (.ref C9) = some false)
    (q5 : PySem.W.excIn K C5 [.type "ValueError", .type "Exception", .type "BaseException", .type "object"] "ValueError.__new__" = true)
    (g5 : PySem.W.mroIn K C5 (.type "object") = some true)
    (v5 : PySem.W.mroIn K C5 (.type "ValueError") = some true)
    (u5 : PySem.W.findIn K (.ref C5) "__getattribute__" = some (some (.builtin "BaseException.__getattribute__")))
    (w5 : PySem.W.findIn K (.ref C5) "__getattr__" = some none)
    (y5 : PySem.W.findIn K (.ref C5) "__class__" = some (some (.builtin "object.__class__")))
    (s5_0 : PySem.W.mroIn K C5 (.ref C0) = some true)
    (s5_1 : PySem.W.mroIn K C5 (.ref C1) = some false)
    (s5_2 : PySem.W.mroIn K C5 (.ref C2) = some false)
    (s5_3 : PySem.W.mroIn K C5 (.ref C3) = some false)
    (s5_4 : PySem.W.mroIn K C5 (.ref C4) = some false)
    (s5_5 : PySem.W.mroIn K C5 (.ref C5) = some true)
    (s5_6 : PySem.W.mroIn K C5 (.ref C6) = some false)
    (s5_7 : PySem.W.mroIn K C5 (.ref C7) = some false)
    (s5_8 : PySem.W.mroIn K C5 (.ref C8) = some false)
    (s5_9 : PySem.W.mroIn K C5 (.ref C9) = some false)
    (q1 : PySem.W.excIn K C1 [.type "ValueError", .type "Exception", .type "BaseException", .type "object"] "ValueError.__new__" = true)
    (g1 : PySem.W.mroIn K C1 (.type "object") = some true)
    (v1 : PySem.W.mroIn K C1 (.type "ValueError") = some true)
    (u1 : PySem.W.findIn K (.ref C1) "__getattribute__" = some (some (.builtin "BaseException.__getattribute__")))
    (w1 : PySem.W.findIn K (.ref C1) "__getattr__" = some none)
    (y1 : PySem.W.findIn K (.ref C1) "__class__" = some (some (.builtin "object.__class__")))
    (s1_0 : PySem.W.mroIn K C1 (.ref C0) = some true)
    (s1_1 : PySem.W.mroIn K C1 (.ref C1) = some true)
    (s1_2 : PySem.W.mroIn K C1 (.ref C2) = some false)
    (s1_3 : PySem.W.mroIn K C1 (.ref C3) = some false)
    (s1_4 : PySem.W.mroIn K C1 (.ref C4) = some false)
    (s1_5 : PySem.W.mroIn K C1 (.ref C5) = some false)
    (s1_6 : PySem.W.mroIn K C1 (.ref C6) = some false)
    (s1_7 : PySem.W.mroIn K C1 (.ref C7) = some false)
    (s1_8 : PySem.W.mroIn K C1 (.ref C8) = some false)
    (s1_9 : PySem.W.mroIn K C1 (.ref C9) = some false)
    (q4 : PySem.W.excIn K C4 [.type "ValueError", .type "Exception", .type "BaseException", .type "object"] "ValueError.__new__" = true)
    (g4 : PySem.W.mroIn K C4 (.type "object") = some true)
    (v4 : PySem.W.mroIn K C4 (.type "ValueError") = some true)
    (u4 : PySem.W.findIn K (.ref C4) "__getattribute__" = some (some (.builtin "BaseException.__getattribute__")))
    (w4 : PySem.W.findIn K (.ref C4) "__getattr__" = some none)
    (y4 : PySem.W.findIn K (.ref C4) "__class__" = some (some (.builtin "object.__class__")))
    (s4_0 : PySem.W.mroIn K C4 (.ref C0) = some true)
    (s4_1 : PySem.W.mroIn K C4 (.ref C1) = some false)
    (s4_2 : PySem.W.mroIn K C4 (.ref C2) = some false)
    (s4_3 : PySem.W.mroIn K C4 (.ref C3) = some false)
    (s4_4 : PySem.W.mroIn K C4 (.ref C4) = some true)
    (s4_5 : PySem.W.mroIn K C4 (.ref C5) = some false)
    (s4_6 : PySem.W.mroIn K C4 (.ref C6) = some false)
    (s4_7 : PySem.W.mroIn K C4 (.ref C7) = some false)
    (s4_8 : PySem.W.mroIn K C4 (.ref C8) = some false)
    (s4_9 : PySem.W.mroIn K C4 (.ref C9) = some false)
    (q9 : PySem.W.excIn K C9 [.type "ValueError", .type "Exception", .type "BaseException", .type "object"] "ValueError.__new__" = true)
    (g9 : PySem.W.mroIn K C9 (.type "object") = some true)
    (v9 : PySem.W.mroIn K C9 (.type "ValueError") = some true)
    (u9 : PySem.W.findIn K (.ref C9) "__getattribute__" = some (some (.builtin "BaseException.__getattribute__")))
    (w9 : PySem.W.findIn K (.ref C9) "__getattr__" = some none)
    (y9 : PySem.W.findIn K (.ref C9) "__class__" = some (some (.builtin "object.__class__")))
    (s9_0 : PySem.W.mroIn K C9 (.ref C0) = some true)
    (s9_1 : PySem.W.mroIn K C9 (.ref C1) = some false)
    (s9_2 : PySem.W.mroIn K C9 (.ref C2) = some false)
    (s9_3 : PySem.W.mroIn K C9 (.ref C3) = some false)
    (s9_4 : PySem.W.mroIn K C9 (.ref C4) = some false)
    (s9_5 : PySem.W.mroIn K C9 (.ref C5) = some false)
    (s9_6 : PySem.W.mroIn K C9 (.ref C6) = some false)
    (s9_7 : PySem.W.mroIn K C9 (.ref C7) = some false)
    (s9_8 : PySem.W.mroIn K C9 (.ref C8) = some false)
    (s9_9 : PySem.W.mroIn K C9 (.ref C9) = some true)
    (q6 : PySem.W.excIn K C6 [.type "ValueError", .type "Exception", .type "BaseException", .type "object"] "ValueError.__new__" = true)
    (g6 : PySem.W.mroIn K C6 (.type "object") = some true)
    (v6 : PySem.W.mroIn K C6 (.type "ValueError") = some true)
    (u6 : PySem.W.findIn K (.ref C6) "__getattribute__" = some (some (.builtin "BaseException.__getattribute__")))
    (w6 : PySem.W.findIn K (.ref C6) "__getattr__" = some none)
    (y6 : PySem.W.findIn K (.ref C6) "__class__" = some (some (.builtin "object.__class__")))
    (s6_0 : PySem.W.mroIn K C6 (.ref C0) = some true)
    (s6_1 : PySem.W.mroIn K C6 (.ref C1) = some false)
    (s6_2 : PySem.W.mroIn K C6 (.ref C2) = some false)
    (s6_3 : PySem.W.mroIn K C6 (.ref C3) = some false)
    (s6_4 : PySem.W.mroIn K C6 (.ref C4) = some false)
    (s6_5 : PySem.W.mroIn K C6 (.ref C5) = some false)
    (s6_6 : PySem.W.mroIn K C6 (.ref C6) = some true)
    (s6_7 : PySem.W.mroIn K C6 (.ref C7) = some false)
    (s6_8 : PySem.W.mroIn K C6 (.ref C8) = some false)
    (s6_9 : PySem.W.mroIn K C6 (.ref C9) = some false)
    (q8 : PySem.W.excIn K C8 [.type "ValueError", .type "Exception", .type "BaseException", .type "object"] "ValueError.__new__" = true)
    (g8 : PySem.W.mroIn K C8 (.type "object") = some true)
    (v8 : PySem.W.mroIn K C8 (.type "ValueError") = some true)
    (u8 : PySem.W.findIn K (.ref C8) "__getattribute__" = some (some (.builtin "BaseException.__getattribute__")))
    (w8 : PySem.W.findIn K (.ref C8) "__getattr__" = some none)
    (y8 : PySem.W.findIn K (.ref C8) "__class__" = some (some (.builtin "object.__class__")))
    (s8_0 : PySem.W.mroIn K C8 (.ref C0) = some true)
    (s8_1 : PySem.W.mroIn K C8 (.ref C1) = some false)
    (s8_2 : PySem.W.mroIn K C8 (.ref C2) = some false)
    (s8_3 : PySem.W.mroIn K C8 (.ref C3) = some false)
    (s8_4 : PySem.W.mroIn K C8 (.ref C4) = some false)
    (s8_5 : PySem.W.mroIn K C8 (.ref C5) = some false)
    (s8_6 : PySem.W.mroIn K C8 (.ref C6) = some false)
    (s8_7 : PySem.W.mroIn K C8 (.ref C7) = some false)
    (s8_8 : PySem.W.mroIn K C8 (.ref C8) = some true)
    (s8_9 : PySem.W.mroIn K C8 (.ref C9) = some false)
    (q7 : PySem.W.excIn K C7 [.type "ValueError", .type "Exception", .type "BaseException", .type "object"] "ValueError.__new__" = true)
    (g7 : PySem.W.mroIn K C7 (.type "object") = some true)
    (v7 : PySem.W.mroIn K C7 (.type "ValueError") = some true)
    (u7 : PySem.W.findIn K (.ref C7) "__getattribute__" = some (some (.builtin "BaseException.__getattribute__")))
    (w7 : PySem.W.findIn K (.ref C7) "__getattr__" = some none)
    (y7 : PySem.W.findIn K (.ref C7) "__class__" = some (some (.builtin "object.__class__")))
    (s7_0 : PySem.W.mroIn K C7 (.ref C0) = some true)
    (s7_1 : PySem.W.mroIn K C7 (.ref C1) = some false)
    (s7_2 : PySem.W.mroIn K C7 (.ref C2) = some false)
    (s7_3 : PySem.W.mroIn K C7 (.ref C3) = some false)
    (s7_4 : PySem.W.mroIn K C7 (.ref C4) = some false)
    (s7_5 : PySem.W.mroIn K C7 (.ref C5) = some false)
    (s7_6 : PySem.W.mroIn K C7 (.ref C6) = some false)
    (s7_7 : PySem.W.mroIn K C7 (.ref C7) = some true)
    (s7_8 : PySem.W.mroIn K C7 (.ref C8) = some false)
    (s7_9 : PySem.W.mroIn K C7 (.ref C9) = some false)
    (d0 : PySem.W.nsIn K mainGlobals "KINDS" = some (some (.ref D0)))
    (e0 : K.lookup D0 = some ⟨.type "tuple", dd0, .seq #[.str ⟨#[104, 97, 118, 101]⟩ tk0, .str ⟨#[111, 119, 101]⟩ tk1, .str ⟨#[111, 119, 110]⟩ tk2, .str ⟨#[103, 97, 105, 110]⟩ tk3, .str ⟨#[99, 111, 115, 116]⟩ tk4] dn0, dsl0⟩)
    (z0 : PySem.W.nsIn K mainGlobals "all" = some none)
    (z1 : PySem.W.nsIn K mainGlobals "any" = some none)
    (z2 : PySem.W.nsIn K mainGlobals "bool" = some none)
    (z3 : PySem.W.nsIn K mainGlobals "int" = some none)
    (z4 : PySem.W.nsIn K mainGlobals "isinstance" = some none)
    (z5 : PySem.W.nsIn K mainGlobals "len" = some none)
    (z6 : PySem.W.nsIn K mainGlobals "list" = some none)
    (z7 : PySem.W.nsIn K mainGlobals "max" = some none)
    (z8 : PySem.W.nsIn K mainGlobals "min" = some none)
    (z9 : PySem.W.nsIn K mainGlobals "range" = some none)
    (z10 : PySem.W.nsIn K mainGlobals "sorted" = some none)
    (z11 : PySem.W.nsIn K mainGlobals "str" = some none)
    : ∃ fd : FuncData, (∀ (s : Shared) (v : Value), BindsTo s fd ⟨[v], []⟩ [("_law_script", v)]) ∧ ∀ base : Heap, K.In base → base.Ns mainGlobals mg → FnOk l.prog w K mg base (XE l.prog w) 14 fa fd ["_law_script"] (sp_law K) := by
  have e := hfa.symm.trans (PySem.W.mg_of X G a18)
  cases e
  have T : Txt K mg ⟨f0, PySem.W.fnOf "_wall" "_wall" (defArgs s__wall) (defBody s__wall) (defScope s__wall) .none kV0 dc0 pm0 an0 cd0 ct0, f1, PySem.W.fnOf "is_whole" "is_whole" (defArgs s_is_whole) (defBody s_is_whole) (defScope s_is_whole) .none kV1 dc1 pm1 an1 cd1 ct1, f2, PySem.W.fnOf "is_among" "is_among" (defArgs s_is_among) (defBody s_is_among) (defScope s_is_among) .none kV2 dc2 pm2 an2 cd2 ct2, f3, PySem.W.fnOf "signs_lie" "signs_lie" (defArgs s_signs_lie) (defBody s_signs_lie) (defScope s_signs_lie) .none kV3 dc3 pm3 an3 cd3 ct3, f4, PySem.W.fnOf "is_name" "is_name" (defArgs s_is_name) (defBody s_is_name) (defScope s_is_name) .none kV4 dc4 pm4 an4 cd4 ct4, f5, PySem.W.fnOf "is_day" "is_day" (defArgs s_is_day) (defBody s_is_day) (defScope s_is_day) .none kV5 dc5 pm5 an5 cd5 ct5, f6, PySem.W.fnOf "is_currency" "is_currency" (defArgs s_is_currency) (defBody s_is_currency) (defScope s_is_currency) .none kV6 dc6 pm6 an6 cd6 ct6, f7, PySem.W.fnOf "are_names" "are_names" (defArgs s_are_names) (defBody s_are_names) (defScope s_are_names) .none kV7 dc7 pm7 an7 cd7 ct7, f8, PySem.W.fnOf "is_path" "is_path" (defArgs s_is_path) (defBody s_is_path) (defScope s_is_path) .none kV8 dc8 pm8 an8 cd8 ct8, f9, PySem.W.fnOf "names_of" "names_of" (defArgs s_names_of) (defBody s_names_of) (defScope s_names_of) .none kV9 dc9 pm9 an9 cd9 ct9, f10, PySem.W.fnOf "above" "above" (defArgs s_above) (defBody s_above) (defScope s_above) .none kV10 dc10 pm10 an10 cd10 ct10, f11, PySem.W.fnOf "_law_cell_at" "_law_cell_at" (defArgs s__law_cell_at) (defBody s__law_cell_at) (defScope s__law_cell_at) .none kV11 dc11 pm11 an11 cd11 ct11, f12, PySem.W.fnOf "_law_name_by" "_law_name_by" (defArgs s__law_name_by) (defBody s__law_name_by) (defScope s__law_name_by) .none kV12 dc12 pm12 an12 cd12 ct12, f13, PySem.W.fnOf "_law_went" "_law_went" (defArgs s__law_went) (defBody s__law_went) (defScope s__law_went) .none kV13 dc13 pm13 an13 cd13 ct13, f14, PySem.W.fnOf "_law_days" "_law_days" (defArgs s__law_days) (defBody s__law_days) (defScope s__law_days) .none kV14 dc14 pm14 an14 cd14 ct14, f15, PySem.W.fnOf "_law_uppers" "_law_uppers" (defArgs s__law_uppers) (defBody s__law_uppers) (defScope s__law_uppers) .none kV15 dc15 pm15 an15 cd15 ct15, f16, PySem.W.fnOf "_law_span_good" "_law_span_good" (defArgs s__law_span_good) (defBody s__law_span_good) (defScope s__law_span_good) .none kV16 dc16 pm16 an16 cd16 ct16, f17, PySem.W.fnOf "_law_all_good" "_law_all_good" (defArgs s__law_all_good) (defBody s__law_all_good) (defScope s__law_all_good) .none kV17 dc17 pm17 an17 cd17 ct17, fa, PySem.W.fnOf "law" "law" (defArgs s_law) (defBody s_law) (defScope s_law) .none kV18 dc18 pm18 an18 cd18 ct18, f19, PySem.W.fnOf "__init__" "Account.__init__" (defArgs s_Account___init__) (defBody s_Account___init__) (defScope s_Account___init__) .none kV19 dc19 pm19 an19 cd19 ct19, f20, PySem.W.fnOf "stands_on" "Account.stands_on" (defArgs s_Account_stands_on) (defBody s_Account_stands_on) (defScope s_Account_stands_on) .none kV20 dc20 pm20 an20 cd20 ct20, f21, PySem.W.fnOf "stands_later" "Account.stands_later" (defArgs s_Account_stands_later) (defBody s_Account_stands_later) (defScope s_Account_stands_later) .none kV21 dc21 pm21 an21 cd21 ct21, f22, PySem.W.fnOf "__init__" "Chart.__init__" (defArgs s_Chart___init__) (defBody s_Chart___init__) (defScope s_Chart___init__) .none kV22 dc22 pm22 an22 cd22 ct22, f23, PySem.W.fnOf "add_top" "Chart.add_top" (defArgs s_Chart_add_top) (defBody s_Chart_add_top) (defScope s_Chart_add_top) .none kV23 dc23 pm23 an23 cd23 ct23, f24, PySem.W.fnOf "add" "Chart.add" (defArgs s_Chart_add) (defBody s_Chart_add) (defScope s_Chart_add) .none kV24 dc24 pm24 an24 cd24 ct24, f25, PySem.W.fnOf "shut" "Chart.shut" (defArgs s_Chart_shut) (defBody s_Chart_shut) (defScope s_Chart_shut) .none kV25 dc25 pm25 an25 cd25 ct25, f26, PySem.W.fnOf "has" "Chart.has" (defArgs s_Chart_has) (defBody s_Chart_has) (defScope s_Chart_has) .none kV26 dc26 pm26 an26 cd26 ct26, f27, PySem.W.fnOf "account" "Chart.account" (defArgs s_Chart_account) (defBody s_Chart_account) (defScope s_Chart_account) .none kV27 dc27 pm27 an27 cd27 ct27, f28, PySem.W.fnOf "kind_of" "Chart.kind_of" (defArgs s_Chart_kind_of) (defBody s_Chart_kind_of) (defScope s_Chart_kind_of) .none kV28 dc28 pm28 an28 cd28 ct28, f29, PySem.W.fnOf "currency_of" "Chart.currency_of" (defArgs s_Chart_currency_of) (defBody s_Chart_currency_of) (defScope s_Chart_currency_of) .none kV29 dc29 pm29 an29 cd29 ct29, f30, PySem.W.fnOf "span_of" "Chart.span_of" (defArgs s_Chart_span_of) (defBody s_Chart_span_of) (defScope s_Chart_span_of) .none kV30 dc30 pm30 an30 cd30 ct30, f31, PySem.W.fnOf "is_open" "Chart.is_open" (defArgs s_Chart_is_open) (defBody s_Chart_is_open) (defScope s_Chart_is_open) .none kV31 dc31 pm31 an31 cd31 ct31, f32, PySem.W.fnOf "beneath" "Chart.beneath" (defArgs s_Chart_beneath) (defBody s_Chart_beneath) (defScope s_Chart_beneath) .none kV32 dc32 pm32 an32 cd32 ct32, f33, PySem.W.fnOf "accounts" "Chart.accounts" (defArgs s_Chart_accounts) (defBody s_Chart_accounts) (defScope s_Chart_accounts) .none kV33 dc33 pm33 an33 cd33 ct33, C0, C1, C2, C3, C4, C5, C6, C7, C8, C9, C10, C11, D0⟩ := ⟨fun_mk (st := s__wall) l0 c0 k0, PySem.W.mg_of X G a0, fun_mk (st := s_is_whole) l1 c1 k1, PySem.W.mg_of X G a1, fun_mk (st := s_is_among) l2 c2 k2, PySem.W.mg_of X G a2, fun_mk (st := s_signs_lie) l3 c3 k3, PySem.W.mg_of X G a3, fun_mk (st := s_is_name) l4 c4 k4, PySem.W.mg_of X G a4, fun_mk (st := s_is_day) l5 c5 k5, PySem.W.mg_of X G a5, fun_mk (st := s_is_currency) l6 c6 k6, PySem.W.mg_of X G a6, fun_mk (st := s_are_names) l7 c7 k7, PySem.W.mg_of X G a7, fun_mk (st := s_is_path) l8 c8 k8, PySem.W.mg_of X G a8, fun_mk (st := s_names_of) l9 c9 k9, PySem.W.mg_of X G a9, fun_mk (st := s_above) l10 c10 k10, PySem.W.mg_of X G a10, fun_mk (st := s__law_cell_at) l11 c11 k11, PySem.W.mg_of X G a11, fun_mk (st := s__law_name_by) l12 c12 k12, PySem.W.mg_of X G a12, fun_mk (st := s__law_went) l13 c13 k13, PySem.W.mg_of X G a13, fun_mk (st := s__law_days) l14 c14 k14, PySem.W.mg_of X G a14, fun_mk (st := s__law_uppers) l15 c15 k15, PySem.W.mg_of X G a15, fun_mk (st := s__law_span_good) l16 c16 k16, PySem.W.mg_of X G a16, fun_mk (st := s__law_all_good) l17 c17 k17, PySem.W.mg_of X G a17, fun_mk (st := s_law) l18 c18 k18, PySem.W.mg_of X G a18, fun_mk (st := s_Account___init__) l19 c19 k19, ⟨a19, i19, k19⟩, fun_mk (st := s_Account_stands_on) l20 c20 k20, ⟨a20, i20, k20⟩, fun_mk (st := s_Account_stands_later) l21 c21 k21, ⟨a21, i21, k21⟩, fun_mk (st := s_Chart___init__) l22 c22 k22, ⟨a22, i22, k22⟩, fun_mk (st := s_Chart_add_top) l23 c23 k23, ⟨a23, i23, k23⟩, fun_mk (st := s_Chart_add) l24 c24 k24, ⟨a24, i24, k24⟩, fun_mk (st := s_Chart_shut) l25 c25 k25, ⟨a25, i25, k25⟩, fun_mk (st := s_Chart_has) l26 c26 k26, ⟨a26, i26, k26⟩, fun_mk (st := s_Chart_account) l27 c27 k27, ⟨a27, i27, k27⟩, fun_mk (st := s_Chart_kind_of) l28 c28 k28, ⟨a28, i28, k28⟩, fun_mk (st := s_Chart_currency_of) l29 c29 k29, ⟨a29, i29, k29⟩, fun_mk (st := s_Chart_span_of) l30 c30 k30, ⟨a30, i30, k30⟩, fun_mk (st := s_Chart_is_open) l31 c31 k31, ⟨a31, i31, k31⟩, fun_mk (st := s_Chart_beneath) l32 c32 k32, ⟨a32, i32, k32⟩, fun_mk (st := s_Chart_accounts) l33 c33 k33, ⟨a33, i33, k33⟩, PySem.W.mg_of X G p0, PySem.W.mg_of X G p1, PySem.W.mg_of X G p2, PySem.W.mg_of X G p3, PySem.W.mg_of X G p4, PySem.W.mg_of X G p5, PySem.W.mg_of X G p6, PySem.W.mg_of X G p7, PySem.W.mg_of X G p8, PySem.W.mg_of X G p9, PySem.W.mg_of X G p10, PySem.W.mg_of X G p11, ⟨pg10, hd10, po10, sa10⟩, na10_0, na10_1, na10_2, na10_3, na10_4, ⟨mk10, a19, i19, kc10⟩, ⟨pg11, hd11, po11, sa11⟩, na11_0, ⟨mk11, a22, i22, kc11⟩, q3, ⟨u3, w3, y3, (by rw [o3]; rfl), g3, b3⟩, exmOne_of o0 r0 b0 s3_0, q2, ⟨u2, w2, y2, (by rw [o2]; rfl), g2, b2⟩, exmOne_of o0 r0 b0 s2_0, q5, ⟨u5, w5, y5, (by rw [o5]; rfl), g5, b5⟩, exmOne_of o0 r0 b0 s5_0, q1, ⟨u1, w1, y1, (by rw [o1]; rfl), g1, b1⟩, exmOne_of o0 r0 b0 s1_0, q4, ⟨u4, w4, y4, (by rw [o4]; rfl), g4, b4⟩, exmOne_of o0 r0 b0 s4_0, q9, ⟨u9, w9, y9, (by rw [o9]; rfl), g9, b9⟩, exmOne_of o0 r0 b0 s9_0, q6, ⟨u6, w6, y6, (by rw [o6]; rfl), g6, b6⟩, exmOne_of o0 r0 b0 s6_0, q8, ⟨u8, w8, y8, (by rw [o8]; rfl), g8, b8⟩, exmOne_of o0 r0 b0 s8_0, q7, ⟨u7, w7, y7, (by rw [o7]; rfl), g7, b7⟩, exmOne_of o0 r0 b0 s7_0, PySem.W.mg_of X G d0, ⟨_, _, _, e0, rfl, rfl, (by show 5 ≤ sizeLine; decide), (.cons ⟨_, rfl⟩ (.cons ⟨_, rfl⟩ (.cons ⟨_, rfl⟩ (.cons ⟨_, rfl⟩ (.cons ⟨_, rfl⟩ .nil)))))⟩, PySem.W.mg_none_of X G z0, PySem.W.mg_none_of X G z1, PySem.W.mg_none_of X G z2, PySem.W.mg_none_of X G z3, PySem.W.mg_none_of X G z4, PySem.W.mg_none_of X G z5, PySem.W.mg_none_of X G z6, PySem.W.mg_none_of X G z7, PySem.W.mg_none_of X G z8, PySem.W.mg_none_of X G z9, PySem.W.mg_none_of X G z10, PySem.W.mg_none_of X G z11⟩
  exact ⟨PySem.W.fnOf "law" "law" (defArgs s_law) (defBody s_law) (defScope s_law) .none kV18 dc18 pm18 an18 cd18 ct18, fun s v => .of_eq rfl, fun base _ _ => ok_law T⟩
end K8
open PySem PySem.W PyProof.Rows
set_option maxRecDepth 100000 in
set_option maxHeartbeats 0 in
theorem PySem.Challenge.cw_evenhall_k08_whole_open_beneath_open_holds : PySem.Challenge.rw_evenhall_k08_whole_open_beneath_open.Holds := by
  w_on; o_law
  refine PySem.W.holds_open (q := K8.vw) (loose := []) (Xt := fun s => PySem.W.xlAt K8.vw [] s && PySem.W.recOk (PySem.W.RowW.records (PySem.W.OpenRow.toRowW (PySem.W.OpenLaw.row PySem.Challenge.rw_evenhall_k08_whole_open_beneath_open))) s) (XP := PySem.W.XL K8.vw []) (Yf := PySem.W.Hook.obs (PySem.W.kHook K8.frag K8.adrs K8.adrs_eq)) (Ya := PySem.W.Hook.val (PySem.W.kHook K8.frag K8.adrs K8.adrs_eq)) (YP := PySem.W.Hook.says (PySem.W.kHook K8.frag K8.adrs K8.adrs_eq)) (N := 7834) K8.left (PySem.W.Hook.of (PySem.W.kHook K8.frag K8.adrs K8.adrs_eq)) (PySem.W.Hook.keeps (PySem.W.kHook K8.frag K8.adrs K8.adrs_eq))
    (fun s e => PySem.W.xl_of s (Bool.and_eq_true_iff.mp e).1) PySem.W.XL.keeps (by rfl) (by rfl) (by rfl) (fun s e => PySem.W.recFacts_of (Bool.and_eq_true_iff.mp e).2) (by rfl) (by assumption) (by decide +kernel) ⟨rfl, rfl, rfl, rfl, rfl, by decide +kernel⟩ ?hw ?hc
  (case hw => w_witness2)
  k_fill
  refine L2.walk_ofX (l := PySem.Challenge.rw_evenhall_k08_whole_open_beneath_open) (n := 63) (k := 14) (x := "_law_script") (sp := K8.sp_law) rfl (by decide) rfl ⟨rfl, by decide, by decide⟩ (fun w h Y => PySem.W.kIn_of Y) ?F ?S
  case F =>
    intro w mg fa h KX G hmg
    refine' K8.all_mk KX G hmg ?a0 ?l0 ?c0 ?k0 ?a1 ?l1 ?c1 ?k1 ?a2 ?l2 ?c2 ?k2 ?a3 ?l3 ?c3 ?k3 ?a4 ?l4 ?c4 ?k4 ?a5 ?l5 ?c5 ?k5 ?a6 ?l6 ?c6 ?k6 ?a7 ?l7 ?c7 ?k7 ?a8 ?l8 ?c8 ?k8 ?a9 ?l9 ?c9 ?k9 ?a10 ?l10 ?c10 ?k10 ?a11 ?l11 ?c11 ?k11 ?a12 ?l12 ?c12 ?k12 ?a13 ?l13 ?c13 ?k13 ?a14 ?l14 ?c14 ?k14 ?a15 ?l15 ?c15 ?k15 ?a16 ?l16 ?c16 ?k16 ?a17 ?l17 ?c17 ?k17 ?a18 ?l18 ?c18 ?k18 ?a19 ?i19 ?l19 ?c19 ?k19 ?a20 ?i20 ?l20 ?c20 ?k20 ?a21 ?i21 ?l21 ?c21 ?k21 ?a22 ?i22 ?l22 ?c22 ?k22 ?a23 ?i23 ?l23 ?c23 ?k23 ?a24 ?i24 ?l24 ?c24 ?k24 ?a25 ?i25 ?l25 ?c25 ?k25 ?a26 ?i26 ?l26 ?c26 ?k26 ?a27 ?i27 ?l27 ?c27 ?k27 ?a28 ?i28 ?l28 ?c28 ?k28 ?a29 ?i29 ?l29 ?c29 ?k29 ?a30 ?i30 ?l30 ?c30 ?k30 ?a31 ?i31 ?l31 ?c31 ?k31 ?a32 ?i32 ?l32 ?c32 ?k32 ?a33 ?i33 ?l33 ?c33 ?k33 ?p0 ?p1 ?p2 ?p3 ?p4 ?p5 ?p6 ?p7 ?p8 ?p9 ?p10 ?p11 ?pg10 ?hd10 ?po10 ?sa10 ?mk10 ?kc10 ?na10_0 ?na10_1 ?na10_2 ?na10_3 ?na10_4 ?pg11 ?hd11 ?po11 ?sa11 ?mk11 ?kc11 ?na11_0 ?o0 ?r0 ?b0 ?o1 ?r1 ?b1 ?o2 ?r2 ?b2 ?o3 ?r3 ?b3 ?o4 ?r4 ?b4 ?o5 ?r5 ?b5 ?o6 ?r6 ?b6 ?o7 ?r7 ?b7 ?o8 ?r8 ?b8 ?o9 ?r9 ?b9 ?q3 ?g3 ?v3 ?u3 ?w3 ?y3 ?s3_0 ?s3_1 ?s3_2 ?s3_3 ?s3_4 ?s3_5 ?s3_6 ?s3_7 ?s3_8 ?s3_9 ?q2 ?g2 ?v2 ?u2 ?w2 ?y2 ?s2_0 ?s2_1 ?s2_2 ?s2_3 ?s2_4 ?s2_5 ?s2_6 ?s2_7 ?s2_8 ?s2_9 ?q5 ?g5 ?v5 ?u5 ?w5 ?y5 ?s5_0 ?s5_1 ?s5_2 ?s5_3 ?s5_4 ?s5_5 ?s5_6 ?s5_7 ?s5_8 ?s5_9 ?q1 ?g1 ?v1 ?u1 ?w1 ?y1 ?s1_0 ?s1_1 ?s1_2 ?s1_3 ?s1_4 ?s1_5 ?s1_6 ?s1_7 ?s1_8 ?s1_9 ?q4 ?g4 ?v4 ?u4 ?w4 ?y4 ?s4_0 ?s4_1 ?s4_2 ?s4_3 ?s4_4 ?s4_5 ?s4_6 ?s4_7 ?s4_8 ?s4_9 ?q9 ?g9 ?v9 ?u9 ?w9 ?y9 ?s9_0 ?s9_1 ?s9_2 ?s9_3 ?s9_4 ?s9_5 ?s9_6 ?s9_7 ?s9_8 ?s9_9 ?q6 ?g6 ?v6 ?u6 ?w6 ?y6 ?s6_0 ?s6_1 ?s6_2 ?s6_3 ?s6_4 ?s6_5 ?s6_6 ?s6_7 ?s6_8 ?s6_9 ?q8 ?g8 ?v8 ?u8 ?w8 ?y8 ?s8_0 ?s8_1 ?s8_2 ?s8_3 ?s8_4 ?s8_5 ?s8_6 ?s8_7 ?s8_8 ?s8_9 ?q7 ?g7 ?v7 ?u7 ?w7 ?y7 ?s7_0 ?s7_1 ?s7_2 ?s7_3 ?s7_4 ?s7_5 ?s7_6 ?s7_7 ?s7_8 ?s7_9 ?d0 ?e0 ?z0 ?z1 ?z2 ?z3 ?z4 ?z5 ?z6 ?z7 ?z8 ?z9 ?z10 ?z11
    (case p0 => k_is)
    (case p1 => k_is)
    (case p2 => k_is)
    (case p3 => k_is)
    (case p4 => k_is)
    (case p5 => k_is)
    (case p6 => k_is)
    (case p7 => k_is)
    (case p8 => k_is)
    (case p9 => k_is)
    (case p10 => k_is)
    (case p11 => k_is)
    (case a0 => k_is)
    (case l0 => k_is)
    (case c0 => k_is)
    (case k0 => k_is)
    (case a1 => k_is)
    (case l1 => k_is)
    (case c1 => k_is)
    (case k1 => k_is)
    (case a2 => k_is)
    (case l2 => k_is)
    (case c2 => k_is)
    (case k2 => k_is)
    (case a3 => k_is)
    (case l3 => k_is)
    (case c3 => k_is)
    (case k3 => k_is)
    (case a4 => k_is)
    (case l4 => k_is)
    (case c4 => k_is)
    (case k4 => k_is)
    (case a5 => k_is)
    (case l5 => k_is)
    (case c5 => k_is)
    (case k5 => k_is)
    (case a6 => k_is)
    (case l6 => k_is)
    (case c6 => k_is)
    (case k6 => k_is)
    (case a7 => k_is)
    (case l7 => k_is)
    (case c7 => k_is)
    (case k7 => k_is)
    (case a8 => k_is)
    (case l8 => k_is)
    (case c8 => k_is)
    (case k8 => k_is)
    (case a9 => k_is)
    (case l9 => k_is)
    (case c9 => k_is)
    (case k9 => k_is)
    (case a10 => k_is)
    (case l10 => k_is)
    (case c10 => k_is)
    (case k10 => k_is)
    (case a11 => k_is)
    (case l11 => k_is)
    (case c11 => k_is)
    (case k11 => k_is)
    (case a12 => k_is)
    (case l12 => k_is)
    (case c12 => k_is)
    (case k12 => k_is)
    (case a13 => k_is)
    (case l13 => k_is)
    (case c13 => k_is)
    (case k13 => k_is)
    (case a14 => k_is)
    (case l14 => k_is)
    (case c14 => k_is)
    (case k14 => k_is)
    (case a15 => k_is)
    (case l15 => k_is)
    (case c15 => k_is)
    (case k15 => k_is)
    (case a16 => k_is)
    (case l16 => k_is)
    (case c16 => k_is)
    (case k16 => k_is)
    (case a17 => k_is)
    (case l17 => k_is)
    (case c17 => k_is)
    (case k17 => k_is)
    (case a18 => k_is)
    (case l18 => k_is)
    (case c18 => k_is)
    (case k18 => k_is)
    (case a19 => k_is)
    (case i19 => k_is)
    (case l19 => k_is)
    (case c19 => k_is)
    (case k19 => k_is)
    (case a20 => k_is)
    (case i20 => k_is)
    (case l20 => k_is)
    (case c20 => k_is)
    (case k20 => k_is)
    (case a21 => k_is)
    (case i21 => k_is)
    (case l21 => k_is)
    (case c21 => k_is)
    (case k21 => k_is)
    (case a22 => k_is)
    (case i22 => k_is)
    (case l22 => k_is)
    (case c22 => k_is)
    (case k22 => k_is)
    (case a23 => k_is)
    (case i23 => k_is)
    (case l23 => k_is)
    (case c23 => k_is)
    (case k23 => k_is)
    (case a24 => k_is)
    (case i24 => k_is)
    (case l24 => k_is)
    (case c24 => k_is)
    (case k24 => k_is)
    (case a25 => k_is)
    (case i25 => k_is)
    (case l25 => k_is)
    (case c25 => k_is)
    (case k25 => k_is)
    (case a26 => k_is)
    (case i26 => k_is)
    (case l26 => k_is)
    (case c26 => k_is)
    (case k26 => k_is)
    (case a27 => k_is)
    (case i27 => k_is)
    (case l27 => k_is)
    (case c27 => k_is)
    (case k27 => k_is)
    (case a28 => k_is)
    (case i28 => k_is)
    (case l28 => k_is)
    (case c28 => k_is)
    (case k28 => k_is)
    (case a29 => k_is)
    (case i29 => k_is)
    (case l29 => k_is)
    (case c29 => k_is)
    (case k29 => k_is)
    (case a30 => k_is)
    (case i30 => k_is)
    (case l30 => k_is)
    (case c30 => k_is)
    (case k30 => k_is)
    (case a31 => k_is)
    (case i31 => k_is)
    (case l31 => k_is)
    (case c31 => k_is)
    (case k31 => k_is)
    (case a32 => k_is)
    (case i32 => k_is)
    (case l32 => k_is)
    (case c32 => k_is)
    (case k32 => k_is)
    (case a33 => k_is)
    (case i33 => k_is)
    (case l33 => k_is)
    (case c33 => k_is)
    (case k33 => k_is)
    (case pg10 => k_is)
    (case hd10 => k_is)
    (case po10 => k_is)
    (case sa10 => k_is)
    (case mk10 => k_is)
    (case kc10 => k_is)
    (case na10_0 => k_is)
    (case na10_1 => k_is)
    (case na10_2 => k_is)
    (case na10_3 => k_is)
    (case na10_4 => k_is)
    (case pg11 => k_is)
    (case hd11 => k_is)
    (case po11 => k_is)
    (case sa11 => k_is)
    (case mk11 => k_is)
    (case kc11 => k_is)
    (case na11_0 => k_is)
    (case o0 => k_is)
    (case r0 => k_is)
    (case b0 => k_is)
    (case o1 => k_is)
    (case r1 => k_is)
    (case b1 => k_is)
    (case o2 => k_is)
    (case r2 => k_is)
    (case b2 => k_is)
    (case o3 => k_is)
    (case r3 => k_is)
    (case b3 => k_is)
    (case o4 => k_is)
    (case r4 => k_is)
    (case b4 => k_is)
    (case o5 => k_is)
    (case r5 => k_is)
    (case b5 => k_is)
    (case o6 => k_is)
    (case r6 => k_is)
    (case b6 => k_is)
    (case o7 => k_is)
    (case r7 => k_is)
    (case b7 => k_is)
    (case o8 => k_is)
    (case r8 => k_is)
    (case b8 => k_is)
    (case o9 => k_is)
    (case r9 => k_is)
    (case b9 => k_is)
    (case q3 => k_exc)
    (case g3 => k_is)
    (case v3 => k_is)
    (case u3 => k_is)
    (case w3 => k_is)
    (case y3 => k_is)
    (case s3_0 => k_is)
    (case s3_1 => k_is)
    (case s3_2 => k_is)
    (case s3_3 => k_is)
    (case s3_4 => k_is)
    (case s3_5 => k_is)
    (case s3_6 => k_is)
    (case s3_7 => k_is)
    (case s3_8 => k_is)
    (case s3_9 => k_is)
    (case q2 => k_exc)
    (case g2 => k_is)
    (case v2 => k_is)
    (case u2 => k_is)
    (case w2 => k_is)
    (case y2 => k_is)
    (case s2_0 => k_is)
    (case s2_1 => k_is)
    (case s2_2 => k_is)
    (case s2_3 => k_is)
    (case s2_4 => k_is)
    (case s2_5 => k_is)
    (case s2_6 => k_is)
    (case s2_7 => k_is)
    (case s2_8 => k_is)
    (case s2_9 => k_is)
    (case q5 => k_exc)
    (case g5 => k_is)
    (case v5 => k_is)
    (case u5 => k_is)
    (case w5 => k_is)
    (case y5 => k_is)
    (case s5_0 => k_is)
    (case s5_1 => k_is)
    (case s5_2 => k_is)
    (case s5_3 => k_is)
    (case s5_4 => k_is)
    (case s5_5 => k_is)
    (case s5_6 => k_is)
    (case s5_7 => k_is)
    (case s5_8 => k_is)
    (case s5_9 => k_is)
    (case q1 => k_exc)
    (case g1 => k_is)
    (case v1 => k_is)
    (case u1 => k_is)
    (case w1 => k_is)
    (case y1 => k_is)
    (case s1_0 => k_is)
    (case s1_1 => k_is)
    (case s1_2 => k_is)
    (case s1_3 => k_is)
    (case s1_4 => k_is)
    (case s1_5 => k_is)
    (case s1_6 => k_is)
    (case s1_7 => k_is)
    (case s1_8 => k_is)
    (case s1_9 => k_is)
    (case q4 => k_exc)
    (case g4 => k_is)
    (case v4 => k_is)
    (case u4 => k_is)
    (case w4 => k_is)
    (case y4 => k_is)
    (case s4_0 => k_is)
    (case s4_1 => k_is)
    (case s4_2 => k_is)
    (case s4_3 => k_is)
    (case s4_4 => k_is)
    (case s4_5 => k_is)
    (case s4_6 => k_is)
    (case s4_7 => k_is)
    (case s4_8 => k_is)
    (case s4_9 => k_is)
    (case q9 => k_exc)
    (case g9 => k_is)
    (case v9 => k_is)
    (case u9 => k_is)
    (case w9 => k_is)
    (case y9 => k_is)
    (case s9_0 => k_is)
    (case s9_1 => k_is)
    (case s9_2 => k_is)
    (case s9_3 => k_is)
    (case s9_4 => k_is)
    (case s9_5 => k_is)
    (case s9_6 => k_is)
    (case s9_7 => k_is)
    (case s9_8 => k_is)
    (case s9_9 => k_is)
    (case q6 => k_exc)
    (case g6 => k_is)
    (case v6 => k_is)
    (case u6 => k_is)
    (case w6 => k_is)
    (case y6 => k_is)
    (case s6_0 => k_is)
    (case s6_1 => k_is)
    (case s6_2 => k_is)
    (case s6_3 => k_is)
    (case s6_4 => k_is)
    (case s6_5 => k_is)
    (case s6_6 => k_is)
    (case s6_7 => k_is)
    (case s6_8 => k_is)
    (case s6_9 => k_is)
    (case q8 => k_exc)
    (case g8 => k_is)
    (case v8 => k_is)
    (case u8 => k_is)
    (case w8 => k_is)
    (case y8 => k_is)
    (case s8_0 => k_is)
    (case s8_1 => k_is)
    (case s8_2 => k_is)
    (case s8_3 => k_is)
    (case s8_4 => k_is)
    (case s8_5 => k_is)
    (case s8_6 => k_is)
    (case s8_7 => k_is)
    (case s8_8 => k_is)
    (case s8_9 => k_is)
    (case q7 => k_exc)
    (case g7 => k_is)
    (case v7 => k_is)
    (case u7 => k_is)
    (case w7 => k_is)
    (case y7 => k_is)
    (case s7_0 => k_is)
    (case s7_1 => k_is)
    (case s7_2 => k_is)
    (case s7_3 => k_is)
    (case s7_4 => k_is)
    (case s7_5 => k_is)
    (case s7_6 => k_is)
    (case s7_7 => k_is)
    (case s7_8 => k_is)
    (case s7_9 => k_is)
    (case d0 => k_is)
    (case e0 => k_is)
    (case z0 => k_is)
    (case z1 => k_is)
    (case z2 => k_is)
    (case z3 => k_is)
    (case z4 => k_is)
    (case z5 => k_is)
    (case z6 => k_is)
    (case z7 => k_is)
    (case z8 => k_is)
    (case z9 => k_is)
    (case z10 => k_is)
    (case z11 => k_is)
  case S => exact fun K H a ns hl hO hS => K8.law_starts hO hS hl