import PyProof.Rows.All
import Wide.All
import OpenK.AllK
import Wide.FinOn
import Lean
import PyProof.EqAt
import PyProof.EqKinds
import PyProof.TupleCall
import PySem.Challenge.RW_evenhall_k13_a_journal_kept
set_option Elab.async false
set_option linter.all false
set_option maxRecDepth 100000
namespace L2
open PySem
def inClass (s : Stmt) (j : Nat) : Stmt := match s with
  | .ClassDef _ _ _ body _ _ _ _ _ _ _ => body.getD j (.Pass ⟨0, 0, 0, 0⟩)
  | _ => .Pass ⟨0, 0, 0, 0⟩
def defArgs (s : Stmt) : Arguments := match s with
  | .FunctionDef _ a _ _ _ _ _ _ _ _ => a
  | _ => { posonlyargs := [], args := [], vararg := none, kwonlyargs := [], kw_defaults := [], kwarg := none, defaults := [] }
def defBody (s : Stmt) : List Stmt := match s with
  | .FunctionDef _ _ b _ _ _ _ _ _ _ => b
  | _ => []
def defScope (s : Stmt) : Scope := match s with
  | .FunctionDef _ _ _ _ _ _ sc _ _ _ => sc
  | _ => { kind := .function, names := [], isGenerator := false, isCoroutine := false }
end L2
namespace K13
open PySem L2
def top (i : Nat) : Stmt := PySem.Challenge.pw_evenhall_k13_a_journal_kept.main.body.getD i (.Pass ⟨0, 0, 0, 0⟩)
abbrev s__wall : Stmt := top 0
abbrev s_is_whole : Stmt := top 7
abbrev s_is_among : Stmt := top 8
abbrev s_is_month : Stmt := top 11
abbrev s_leap_days : Stmt := top 12
abbrev s_first_day : Stmt := top 13
abbrev s_last_day : Stmt := top 14
abbrev s_month_of : Stmt := top 15
abbrev s__law_cell_at : Stmt := top 20
abbrev s__law_whole : Stmt := top 21
abbrev s__law_start : Stmt := top 22
abbrev s__law_lengths : Stmt := top 23
abbrev s__law_month_ends : Stmt := top 24
abbrev s__law_put : Stmt := top 25
abbrev s__law_word : Stmt := top 26
abbrev s__law_shut : Stmt := top 27
abbrev s__law_no_booking : Stmt := top 28
abbrev s__law_all_right : Stmt := top 29
abbrev s__law_ones_right : Stmt := top 30
abbrev s__law_journal_right : Stmt := top 31
abbrev s__law_gate_right : Stmt := top 32
abbrev s_law : Stmt := top 33
abbrev s_Gate___init__ : Stmt := inClass (top 17) 0
abbrev s_Gate_closed : Stmt := inClass (top 17) 1
abbrev s_Gate_lets : Stmt := inClass (top 17) 2
abbrev s_Gate_need_next : Stmt := inClass (top 17) 3
abbrev s_Gate_shut : Stmt := inClass (top 17) 4
abbrev s_Journal___init__ : Stmt := inClass (top 18) 0
abbrev s_Journal_put : Stmt := inClass (top 18) 1
abbrev s_Journal_many : Stmt := inClass (top 18) 2
abbrev s_Journal_booking : Stmt := inClass (top 18) 3
abbrev s_Journal_every : Stmt := inClass (top 18) 4
abbrev s_Journal_undone_by : Stmt := inClass (top 18) 5
end K13
namespace K13
open PySem L2
abbrev kS (s : String) : Str := Str.ofString s
abbrev kR (a : Addr) : Value := .ref a
abbrev kY (s : String) : Value := .type s
abbrev kB (s : String) : Value := .builtin s
abbrev kZ (s : Str) (t : Tok) : Value := .str s t
abbrev kN : Value := .none
abbrev kD (h : Int) (k v : Value) : DictEntry := ⟨h, k, v⟩
abbrev kO (c : Value) (d : Option Addr) (t : Data) (s : Array (Option Value)) : Obj := ⟨c, d, t, s⟩
abbrev keyHash := PyData.keyHash
set_option maxRecDepth 100000 in
def frag (P : Params) : PySem.W.Frag :=
  (nat_lit 2, (kO kN none (PySem.Data.dict #[] 0) #[]))::
  (nat_lit 3, (kO (kY "dict") none (PySem.Data.dict #[(kD (keyHash P (kS "__name__")) (kZ (kS "__name__") 165) (kZ (kS "law_evenhall_k13_a_journal_kept") 487)), (kD (keyHash P (kS "__doc__")) (kZ (kS "__doc__") 166) kN), (kD (keyHash P (kS "__package__")) (kZ (kS "__package__") 167) kN), (kD (keyHash P (kS "__loader__")) (kZ (kS "__loader__") 168) (kB "__main__.__loader__#opaque")), (kD (keyHash P (kS "__spec__")) (kZ (kS "__spec__") 169) kN), (kD (keyHash P (kS "__annotations__")) (kZ (kS "__annotations__") 170) (kR 6)), (kD (keyHash P (kS "__builtins__")) (kZ (kS "__builtins__") 171) (kR 4)), (kD (keyHash P (kS "__file__")) (kZ (kS "__file__") 173) (kZ (kS "/claim/cut.py") 172)), (kD (keyHash P (kS "__cached__")) (kZ (kS "__cached__") 174) kN), (kD (keyHash P (kS "_wall")) (kZ (kS "_wall") 193) (kR 21)), (kD (keyHash P (kS "HouseError")) (kZ (kS "HouseError") 213) (kR 31)), (kD (keyHash P (kS "BadMonth")) (kZ (kS "BadMonth") 236) (kR 51)), (kD (keyHash P (kS "NoBooking")) (kZ (kS "NoBooking") 259) (kR 70)), (kD (keyHash P (kS "NotNext")) (kZ (kS "NotNext") 282) (kR 89)), (kD (keyHash P (kS "is_whole")) (kZ (kS "is_whole") 291) (kR 98)), (kD (keyHash P (kS "is_among")) (kZ (kS "is_among") 300) (kR 105)), (kD (keyHash P (kS "LENGTHS")) (kZ (kS "LENGTHS") 315) (kR 106)), (kD (keyHash P (kS "is_month")) (kZ (kS "is_month") 322) (kR 113)), (kD (keyHash P (kS "leap_days")) (kZ (kS "leap_days") 329) (kR 120)), (kD (keyHash P (kS "first_day")) (kZ (kS "first_day") 339) (kR 127)), (kD (keyHash P (kS "last_day")) (kZ (kS "last_day") 346) (kR 134)), (kD (keyHash P (kS "month_of")) (kZ (kS "month_of") 354) (kR 141)), (kD (keyHash P (kS "Gate")) (kZ (kS "Gate") 415) (kR 186)), (kD (keyHash P (kS "Journal")) (kZ (kS "Journal") 486) (kR 242)), (kD (keyHash P (kS "_law_cell_at")) (kZ (kS "_law_cell_at") 496) (kR 253)), (kD (keyHash P (kS "_law_whole")) (kZ (kS "_law_whole") 503) (kR 260)), (kD (keyHash P (kS "_law_start")) (kZ (kS "_law_start") 510) (kR 267)), (kD (keyHash P (kS "_law_lengths")) (kZ (kS "_law_lengths") 518) (kR 274)), (kD (keyHash P (kS "_law_month_ends")) (kZ (kS "_law_month_ends") 527) (kR 281)), (kD (keyHash P (kS "_law_put")) (kZ (kS "_law_put") 533) (kR 286)), (kD (keyHash P (kS "_law_word")) (kZ (kS "_law_word") 541) (kR 293)), (kD (keyHash P (kS "_law_shut")) (kZ (kS "_law_shut") 554) (kR 300)), (kD (keyHash P (kS "_law_no_booking")) (kZ (kS "_law_no_booking") 565) (kR 307)), (kD (keyHash P (kS "_law_all_right")) (kZ (kS "_law_all_right") 577) (kR 314)), (kD (keyHash P (kS "_law_ones_right")) (kZ (kS "_law_ones_right") 583) (kR 319)), (kD (keyHash P (kS "_law_journal_right")) (kZ (kS "_law_journal_right") 596) (kR 326)), (kD (keyHash P (kS "_law_gate_right")) (kZ (kS "_law_gate_right") 602) (kR 331)), (kD (keyHash P (kS "law")) (kZ (kS "law") 608) (kR 336))] 38) #[]))::
  (nat_lit 15, (kO (kY "tuple") none (PySem.Data.seq #[] 0) #[]))::
  (nat_lit 17, (kO (kY "tuple") none (PySem.Data.seq #[(kZ (kS "k") 190)] 0) #[]))::
  (nat_lit 18, (kO (kY "tuple") none (PySem.Data.seq #[] 0) #[]))::
  (nat_lit 20, (kO (kY "code") none (PySem.Data.fields #[(kZ (kS "_wall") 187), (kZ (kS "_wall") 188), (kZ (kS "/claim/cut.py") 189), (PySem.Value.int (1 : Int) 0), (PySem.Value.int (1 : Int) 0), (PySem.Value.int (0 : Int) 0), (PySem.Value.int (0 : Int) 0), (PySem.Value.int (3 : Int) 0), (kR 15), (PySem.Value.bool true), (PySem.Value.int (181 : Int) 0), (kR 16), kN, (kR 17), (kR 18), (kR 19), (PySem.Value.int (191 : Int) 0), (PySem.Value.int (1 : Int) 0), (kZ (kS "/claim/cut.py") 192)]) #[]))::
  (nat_lit 21, (kO (kY "function") none (PySem.Data.func (PySem.W.fnOf (kS "_wall") (kS "_wall") (defArgs s__wall) (defBody s__wall) (defScope s__wall) kN kN kN (kZ (kS "__main__") 164) none (kR 20) kN)) #[]))::
  (nat_lit 22, (kO (kY "tuple") none (PySem.Data.seq #[(kY "ValueError")] 0) #[]))::
  (nat_lit 29, (kO (kY "tuple") none (PySem.Data.seq #[] 0) #[]))::
  (nat_lit 30, (kO (kY "dict") none (PySem.Data.dict #[(kD (keyHash P (kS "__module__")) (kZ (kS "__module__") 203) (kZ (kS "evenhall.errors") 194)), (kD (keyHash P (kS "__firstlineno__")) (kZ (kS "__firstlineno__") 207) (PySem.Value.int (5 : Int) 206)), (kD (keyHash P (kS "__static_attributes__")) (kZ (kS "__static_attributes__") 208) (kR 29)), (kD (keyHash P (kS "__weakref__")) (kZ (kS "__weakref__") 210) (kR 32)), (kD (keyHash P (kS "__doc__")) (kZ (kS "__doc__") 211) kN)] 3) #[]))::
  (nat_lit 31, (kO (kY "type") none (PySem.Data.cls (PySem.ClassData.mk (kS "HouseError") [(kY "ValueError")] [(kR 31), (kY "ValueError"), (kY "Exception"), (kY "BaseException"), (kY "object")] 30 (kS "HouseError") true [] [(kR 51), (kR 70), (kR 89)] false none false)) #[(some (kR 22)), none, (some (kZ (kS "HouseError") 196)), (some (kZ (kS "HouseError") 204)), (some (kB "ValueError.__new__")), (some (PySem.Value.bool true))]))::
  (nat_lit 32, (kO (kY "getset_descriptor") none (PySem.Data.fields #[(kZ (kS "__weakref__") 209), (kR 31), (kB "ExceptionGroup.__weakref__"), kN]) #[]))::
  (nat_lit 35, (kO (kY "tuple") none (PySem.Data.seq #[(kR 31)] 0) #[]))::
  (nat_lit 42, (kO (kY "tuple") none (PySem.Data.seq #[] 0) #[]))::
  (nat_lit 44, (kO (kY "tuple") none (PySem.Data.seq #[(kZ (kS "self") 229)] 0) #[]))::
  (nat_lit 45, (kO (kY "tuple") none (PySem.Data.seq #[] 0) #[]))::
  (nat_lit 47, (kO (kY "code") none (PySem.Data.fields #[(kZ (kS "small_words") 226), (kZ (kS "BadMonth.small_words") 227), (kZ (kS "/claim/cut.py") 228), (PySem.Value.int (9 : Int) 0), (PySem.Value.int (1 : Int) 0), (PySem.Value.int (0 : Int) 0), (PySem.Value.int (0 : Int) 0), (PySem.Value.int (3 : Int) 0), (kR 42), (PySem.Value.bool true), (PySem.Value.int (181 : Int) 0), (kR 43), kN, (kR 44), (kR 45), (kR 46), (PySem.Value.int (230 : Int) 0), (PySem.Value.int (9 : Int) 0), (kZ (kS "/claim/cut.py") 231)]) #[]))::
  (nat_lit 48, (kO (kY "function") none (PySem.Data.func (PySem.FuncData.mk (kS "small_words") (kS "BadMonth.small_words") (PySem.Arguments.mk [] [(PySem.Arg.mk (kS "self") none (PySem.Pos.mk 9 20 9 24))] none [] [] none []) (PySem.FuncBody.stmts [(PySem.Stmt.Expr (PySem.Expr.Call (PySem.Expr.Name (kS "_wall") (PySem.Pos.mk 10 8 10 13)) [(PySem.Expr.Constant (PySem.Const.int (0 : Int)) 0 (PySem.Pos.mk 10 14 10 15))] [] (PySem.Pos.mk 10 8 10 16)) (PySem.Pos.mk 10 8 10 16))]) (PySem.Scope.mk PySem.ScopeKind.function [((kS "self"), PySem.NameKind.local), ((kS "_wall"), PySem.NameKind.globalImplicit)] false false []) 3 [] kN kN kN (kZ (kS "evenhall.errors") 194) none (kR 47) kN 0)) #[]))::
  (nat_lit 49, (kO (kY "tuple") none (PySem.Data.seq #[] 0) #[]))::
  (nat_lit 50, (kO (kY "dict") none (PySem.Data.dict #[(kD (keyHash P (kS "__module__")) (kZ (kS "__module__") 221) (kZ (kS "evenhall.errors") 194)), (kD (keyHash P (kS "__firstlineno__")) (kZ (kS "__firstlineno__") 225) (PySem.Value.int (7 : Int) 224)), (kD (keyHash P (kS "small_words")) (kZ (kS "small_words") 232) (kR 48)), (kD (keyHash P (kS "__static_attributes__")) (kZ (kS "__static_attributes__") 233) (kR 49)), (kD (keyHash P (kS "__doc__")) (kZ (kS "__doc__") 234) kN)] 2) #[]))::
  (nat_lit 51, (kO (kY "type") none (PySem.Data.cls (PySem.ClassData.mk (kS "BadMonth") [(kR 31)] [(kR 51), (kR 31), (kY "ValueError"), (kY "Exception"), (kY "BaseException"), (kY "object")] 50 (kS "BadMonth") true [] [] false none false)) #[(some (kR 35)), none, (some (kZ (kS "BadMonth") 214)), (some (kZ (kS "BadMonth") 222)), (some (kB "ValueError.__new__")), (some (PySem.Value.bool true))]))::
  (nat_lit 54, (kO (kY "tuple") none (PySem.Data.seq #[(kR 31)] 0) #[]))::
  (nat_lit 61, (kO (kY "tuple") none (PySem.Data.seq #[] 0) #[]))::
  (nat_lit 63, (kO (kY "tuple") none (PySem.Data.seq #[(kZ (kS "self") 252)] 0) #[]))::
  (nat_lit 64, (kO (kY "tuple") none (PySem.Data.seq #[] 0) #[]))::
  (nat_lit 66, (kO (kY "code") none (PySem.Data.fields #[(kZ (kS "small_words") 249), (kZ (kS "NoBooking.small_words") 250), (kZ (kS "/claim/cut.py") 251), (PySem.Value.int (13 : Int) 0), (PySem.Value.int (1 : Int) 0), (PySem.Value.int (0 : Int) 0), (PySem.Value.int (0 : Int) 0), (PySem.Value.int (3 : Int) 0), (kR 61), (PySem.Value.bool true), (PySem.Value.int (181 : Int) 0), (kR 62), kN, (kR 63), (kR 64), (kR 65), (PySem.Value.int (253 : Int) 0), (PySem.Value.int (13 : Int) 0), (kZ (kS "/claim/cut.py") 254)]) #[]))::
  (nat_lit 67, (kO (kY "function") none (PySem.Data.func (PySem.FuncData.mk (kS "small_words") (kS "NoBooking.small_words") (PySem.Arguments.mk [] [(PySem.Arg.mk (kS "self") none (PySem.Pos.mk 13 20 13 24))] none [] [] none []) (PySem.FuncBody.stmts [(PySem.Stmt.Expr (PySem.Expr.Call (PySem.Expr.Name (kS "_wall") (PySem.Pos.mk 14 8 14 13)) [(PySem.Expr.Constant (PySem.Const.int (1 : Int)) 0 (PySem.Pos.mk 14 14 14 15))] [] (PySem.Pos.mk 14 8 14 16)) (PySem.Pos.mk 14 8 14 16))]) (PySem.Scope.mk PySem.ScopeKind.function [((kS "self"), PySem.NameKind.local), ((kS "_wall"), PySem.NameKind.globalImplicit)] false false []) 3 [] kN kN kN (kZ (kS "evenhall.errors") 194) none (kR 66) kN 0)) #[]))::
  (nat_lit 68, (kO (kY "tuple") none (PySem.Data.seq #[] 0) #[]))::
  (nat_lit 69, (kO (kY "dict") none (PySem.Data.dict #[(kD (keyHash P (kS "__module__")) (kZ (kS "__module__") 244) (kZ (kS "evenhall.errors") 194)), (kD (keyHash P (kS "__firstlineno__")) (kZ (kS "__firstlineno__") 248) (PySem.Value.int (11 : Int) 247)), (kD (keyHash P (kS "small_words")) (kZ (kS "small_words") 255) (kR 67)), (kD (keyHash P (kS "__static_attributes__")) (kZ (kS "__static_attributes__") 256) (kR 68)), (kD (keyHash P (kS "__doc__")) (kZ (kS "__doc__") 257) kN)] 2) #[]))::
  (nat_lit 70, (kO (kY "type") none (PySem.Data.cls (PySem.ClassData.mk (kS "NoBooking") [(kR 31)] [(kR 70), (kR 31), (kY "ValueError"), (kY "Exception"), (kY "BaseException"), (kY "object")] 69 (kS "NoBooking") true [] [] false none false)) #[(some (kR 54)), none, (some (kZ (kS "NoBooking") 237)), (some (kZ (kS "NoBooking") 245)), (some (kB "ValueError.__new__")), (some (PySem.Value.bool true))]))::
  (nat_lit 73, (kO (kY "tuple") none (PySem.Data.seq #[(kR 31)] 0) #[]))::
  (nat_lit 80, (kO (kY "tuple") none (PySem.Data.seq #[] 0) #[]))::
  (nat_lit 82, (kO (kY "tuple") none (PySem.Data.seq #[(kZ (kS "self") 275)] 0) #[]))::
  (nat_lit 83, (kO (kY "tuple") none (PySem.Data.seq #[] 0) #[]))::
  (nat_lit 85, (kO (kY "code") none (PySem.Data.fields #[(kZ (kS "small_words") 272), (kZ (kS "NotNext.small_words") 273), (kZ (kS "/claim/cut.py") 274), (PySem.Value.int (17 : Int) 0), (PySem.Value.int (1 : Int) 0), (PySem.Value.int (0 : Int) 0), (PySem.Value.int (0 : Int) 0), (PySem.Value.int (3 : Int) 0), (kR 80), (PySem.Value.bool true), (PySem.Value.int (181 : Int) 0), (kR 81), kN, (kR 82), (kR 83), (kR 84), (PySem.Value.int (276 : Int) 0), (PySem.Value.int (17 : Int) 0), (kZ (kS "/claim/cut.py") 277)]) #[]))::
  (nat_lit 86, (kO (kY "function") none (PySem.Data.func (PySem.FuncData.mk (kS "small_words") (kS "NotNext.small_words") (PySem.Arguments.mk [] [(PySem.Arg.mk (kS "self") none (PySem.Pos.mk 17 20 17 24))] none [] [] none []) (PySem.FuncBody.stmts [(PySem.Stmt.Expr (PySem.Expr.Call (PySem.Expr.Name (kS "_wall") (PySem.Pos.mk 18 8 18 13)) [(PySem.Expr.Constant (PySem.Const.int (2 : Int)) 0 (PySem.Pos.mk 18 14 18 15))] [] (PySem.Pos.mk 18 8 18 16)) (PySem.Pos.mk 18 8 18 16))]) (PySem.Scope.mk PySem.ScopeKind.function [((kS "self"), PySem.NameKind.local), ((kS "_wall"), PySem.NameKind.globalImplicit)] false false []) 3 [] kN kN kN (kZ (kS "evenhall.errors") 194) none (kR 85) kN 0)) #[]))::
  (nat_lit 87, (kO (kY "tuple") none (PySem.Data.seq #[] 0) #[]))::
  (nat_lit 88, (kO (kY "dict") none (PySem.Data.dict #[(kD (keyHash P (kS "__module__")) (kZ (kS "__module__") 267) (kZ (kS "evenhall.errors") 194)), (kD (keyHash P (kS "__firstlineno__")) (kZ (kS "__firstlineno__") 271) (PySem.Value.int (15 : Int) 270)), (kD (keyHash P (kS "small_words")) (kZ (kS "small_words") 278) (kR 86)), (kD (keyHash P (kS "__static_attributes__")) (kZ (kS "__static_attributes__") 279) (kR 87)), (kD (keyHash P (kS "__doc__")) (kZ (kS "__doc__") 280) kN)] 2) #[]))::
  (nat_lit 89, (kO (kY "type") none (PySem.Data.cls (PySem.ClassData.mk (kS "NotNext") [(kR 31)] [(kR 89), (kR 31), (kY "ValueError"), (kY "Exception"), (kY "BaseException"), (kY "object")] 88 (kS "NotNext") true [] [] false none false)) #[(some (kR 73)), none, (some (kZ (kS "NotNext") 260)), (some (kZ (kS "NotNext") 268)), (some (kB "ValueError.__new__")), (some (PySem.Value.bool true))]))::
  (nat_lit 92, (kO (kY "tuple") none (PySem.Data.seq #[] 0) #[]))::
  (nat_lit 94, (kO (kY "tuple") none (PySem.Data.seq #[(kZ (kS "thing") 288)] 0) #[]))::
  (nat_lit 95, (kO (kY "tuple") none (PySem.Data.seq #[] 0) #[]))::
  (nat_lit 97, (kO (kY "code") none (PySem.Data.fields #[(kZ (kS "is_whole") 285), (kZ (kS "is_whole") 286), (kZ (kS "/claim/cut.py") 287), (PySem.Value.int (20 : Int) 0), (PySem.Value.int (1 : Int) 0), (PySem.Value.int (0 : Int) 0), (PySem.Value.int (0 : Int) 0), (PySem.Value.int (3 : Int) 0), (kR 92), (PySem.Value.bool true), (PySem.Value.int (181 : Int) 0), (kR 93), kN, (kR 94), (kR 95), (kR 96), (PySem.Value.int (289 : Int) 0), (PySem.Value.int (20 : Int) 0), (kZ (kS "/claim/cut.py") 290)]) #[]))::
  (nat_lit 98, (kO (kY "function") none (PySem.Data.func (PySem.W.fnOf (kS "is_whole") (kS "is_whole") (defArgs s_is_whole) (defBody s_is_whole) (defScope s_is_whole) kN kN kN (kZ (kS "evenhall.words") 283) none (kR 97) kN)) #[]))::
  (nat_lit 99, (kO (kY "tuple") none (PySem.Data.seq #[] 0) #[]))::
  (nat_lit 101, (kO (kY "tuple") none (PySem.Data.seq #[(kZ (kS "thing") 295), (kZ (kS "least") 296), (kZ (kS "most") 297)] 0) #[]))::
  (nat_lit 102, (kO (kY "tuple") none (PySem.Data.seq #[] 0) #[]))::
  (nat_lit 104, (kO (kY "code") none (PySem.Data.fields #[(kZ (kS "is_among") 292), (kZ (kS "is_among") 293), (kZ (kS "/claim/cut.py") 294), (PySem.Value.int (22 : Int) 0), (PySem.Value.int (3 : Int) 0), (PySem.Value.int (0 : Int) 0), (PySem.Value.int (0 : Int) 0), (PySem.Value.int (3 : Int) 0), (kR 99), (PySem.Value.bool true), (PySem.Value.int (181 : Int) 0), (kR 100), kN, (kR 101), (kR 102), (kR 103), (PySem.Value.int (298 : Int) 0), (PySem.Value.int (22 : Int) 0), (kZ (kS "/claim/cut.py") 299)]) #[]))::
  (nat_lit 105, (kO (kY "function") none (PySem.Data.func (PySem.W.fnOf (kS "is_among") (kS "is_among") (defArgs s_is_among) (defBody s_is_among) (defScope s_is_among) kN kN kN (kZ (kS "evenhall.words") 283) none (kR 104) kN)) #[]))::
  (nat_lit 106, (kO (kY "tuple") none (PySem.Data.seq #[(PySem.Value.int (31 : Int) 303), (PySem.Value.int (28 : Int) 304), (PySem.Value.int (31 : Int) 305), (PySem.Value.int (30 : Int) 306), (PySem.Value.int (31 : Int) 307), (PySem.Value.int (30 : Int) 308), (PySem.Value.int (31 : Int) 309), (PySem.Value.int (31 : Int) 310), (PySem.Value.int (30 : Int) 311), (PySem.Value.int (31 : Int) 312), (PySem.Value.int (30 : Int) 313), (PySem.Value.int (31 : Int) 314)] 0) #[]))::
  (nat_lit 107, (kO (kY "tuple") none (PySem.Data.seq #[] 0) #[]))::
  (nat_lit 109, (kO (kY "tuple") none (PySem.Data.seq #[(kZ (kS "thing") 319)] 0) #[]))::
  (nat_lit 110, (kO (kY "tuple") none (PySem.Data.seq #[] 0) #[]))::
  (nat_lit 112, (kO (kY "code") none (PySem.Data.fields #[(kZ (kS "is_month") 316), (kZ (kS "is_month") 317), (kZ (kS "/claim/cut.py") 318), (PySem.Value.int (26 : Int) 0), (PySem.Value.int (1 : Int) 0), (PySem.Value.int (0 : Int) 0), (PySem.Value.int (0 : Int) 0), (PySem.Value.int (3 : Int) 0), (kR 107), (PySem.Value.bool true), (PySem.Value.int (181 : Int) 0), (kR 108), kN, (kR 109), (kR 110), (kR 111), (PySem.Value.int (320 : Int) 0), (PySem.Value.int (26 : Int) 0), (kZ (kS "/claim/cut.py") 321)]) #[]))::
  (nat_lit 113, (kO (kY "function") none (PySem.Data.func (PySem.W.fnOf (kS "is_month") (kS "is_month") (defArgs s_is_month) (defBody s_is_month) (defScope s_is_month) kN kN kN (kZ (kS "evenhall.days") 301) none (kR 112) kN)) #[]))::
  (nat_lit 114, (kO (kY "tuple") none (PySem.Data.seq #[] 0) #[]))::
  (nat_lit 116, (kO (kY "tuple") none (PySem.Data.seq #[(kZ (kS "years") 326)] 0) #[]))::
  (nat_lit 117, (kO (kY "tuple") none (PySem.Data.seq #[] 0) #[]))::
  (nat_lit 119, (kO (kY "code") none (PySem.Data.fields #[(kZ (kS "leap_days") 323), (kZ (kS "leap_days") 324), (kZ (kS "/claim/cut.py") 325), (PySem.Value.int (28 : Int) 0), (PySem.Value.int (1 : Int) 0), (PySem.Value.int (0 : Int) 0), (PySem.Value.int (0 : Int) 0), (PySem.Value.int (3 : Int) 0), (kR 114), (PySem.Value.bool true), (PySem.Value.int (181 : Int) 0), (kR 115), kN, (kR 116), (kR 117), (kR 118), (PySem.Value.int (327 : Int) 0), (PySem.Value.int (28 : Int) 0), (kZ (kS "/claim/cut.py") 328)]) #[]))::
  (nat_lit 120, (kO (kY "function") none (PySem.Data.func (PySem.W.fnOf (kS "leap_days") (kS "leap_days") (defArgs s_leap_days) (defBody s_leap_days) (defScope s_leap_days) kN kN kN (kZ (kS "evenhall.days") 301) none (kR 119) kN)) #[]))::
  (nat_lit 121, (kO (kY "tuple") none (PySem.Data.seq #[] 0) #[]))::
  (nat_lit 123, (kO (kY "tuple") none (PySem.Data.seq #[(kZ (kS "month") 333), (kZ (kS "years") 334), (kZ (kS "ahead") 335), (kZ (kS "leaps") 336)] 0) #[]))::
  (nat_lit 124, (kO (kY "tuple") none (PySem.Data.seq #[] 0) #[]))::
  (nat_lit 126, (kO (kY "code") none (PySem.Data.fields #[(kZ (kS "first_day") 330), (kZ (kS "first_day") 331), (kZ (kS "/claim/cut.py") 332), (PySem.Value.int (30 : Int) 0), (PySem.Value.int (1 : Int) 0), (PySem.Value.int (0 : Int) 0), (PySem.Value.int (0 : Int) 0), (PySem.Value.int (3 : Int) 0), (kR 121), (PySem.Value.bool true), (PySem.Value.int (181 : Int) 0), (kR 122), kN, (kR 123), (kR 124), (kR 125), (PySem.Value.int (337 : Int) 0), (PySem.Value.int (30 : Int) 0), (kZ (kS "/claim/cut.py") 338)]) #[]))::
  (nat_lit 127, (kO (kY "function") none (PySem.Data.func (PySem.W.fnOf (kS "first_day") (kS "first_day") (defArgs s_first_day) (defBody s_first_day) (defScope s_first_day) kN kN kN (kZ (kS "evenhall.days") 301) none (kR 126) kN)) #[]))::
  (nat_lit 128, (kO (kY "tuple") none (PySem.Data.seq #[] 0) #[]))::
  (nat_lit 130, (kO (kY "tuple") none (PySem.Data.seq #[(kZ (kS "month") 343)] 0) #[]))::
  (nat_lit 131, (kO (kY "tuple") none (PySem.Data.seq #[] 0) #[]))::
  (nat_lit 133, (kO (kY "code") none (PySem.Data.fields #[(kZ (kS "last_day") 340), (kZ (kS "last_day") 341), (kZ (kS "/claim/cut.py") 342), (PySem.Value.int (35 : Int) 0), (PySem.Value.int (1 : Int) 0), (PySem.Value.int (0 : Int) 0), (PySem.Value.int (0 : Int) 0), (PySem.Value.int (3 : Int) 0), (kR 128), (PySem.Value.bool true), (PySem.Value.int (181 : Int) 0), (kR 129), kN, (kR 130), (kR 131), (kR 132), (PySem.Value.int (344 : Int) 0), (PySem.Value.int (35 : Int) 0), (kZ (kS "/claim/cut.py") 345)]) #[]))::
  (nat_lit 134, (kO (kY "function") none (PySem.Data.func (PySem.W.fnOf (kS "last_day") (kS "last_day") (defArgs s_last_day) (defBody s_last_day) (defScope s_last_day) kN kN kN (kZ (kS "evenhall.days") 301) none (kR 133) kN)) #[]))::
  (nat_lit 135, (kO (kY "tuple") none (PySem.Data.seq #[] 0) #[]))::
  (nat_lit 137, (kO (kY "tuple") none (PySem.Data.seq #[(kZ (kS "day") 350), (kZ (kS "month") 351)] 0) #[]))::
  (nat_lit 138, (kO (kY "tuple") none (PySem.Data.seq #[] 0) #[]))::
  (nat_lit 140, (kO (kY "code") none (PySem.Data.fields #[(kZ (kS "month_of") 347), (kZ (kS "month_of") 348), (kZ (kS "/claim/cut.py") 349), (PySem.Value.int (37 : Int) 0), (PySem.Value.int (1 : Int) 0), (PySem.Value.int (0 : Int) 0), (PySem.Value.int (0 : Int) 0), (PySem.Value.int (3 : Int) 0), (kR 135), (PySem.Value.bool true), (PySem.Value.int (181 : Int) 0), (kR 136), kN, (kR 137), (kR 138), (kR 139), (PySem.Value.int (352 : Int) 0), (PySem.Value.int (37 : Int) 0), (kZ (kS "/claim/cut.py") 353)]) #[]))::
  (nat_lit 141, (kO (kY "function") none (PySem.Data.func (PySem.W.fnOf (kS "month_of") (kS "month_of") (defArgs s_month_of) (defBody s_month_of) (defScope s_month_of) kN kN kN (kZ (kS "evenhall.days") 301) none (kR 140) kN)) #[]))::
  (nat_lit 149, (kO (kY "tuple") none (PySem.Data.seq #[] 0) #[]))::
  (nat_lit 151, (kO (kY "tuple") none (PySem.Data.seq #[(kZ (kS "self") 372)] 0) #[]))::
  (nat_lit 152, (kO (kY "tuple") none (PySem.Data.seq #[] 0) #[]))::
  (nat_lit 154, (kO (kY "code") none (PySem.Data.fields #[(kZ (kS "__init__") 369), (kZ (kS "Gate.__init__") 370), (kZ (kS "/claim/cut.py") 371), (PySem.Value.int (47 : Int) 0), (PySem.Value.int (1 : Int) 0), (PySem.Value.int (0 : Int) 0), (PySem.Value.int (0 : Int) 0), (PySem.Value.int (3 : Int) 0), (kR 149), (PySem.Value.bool true), (PySem.Value.int (181 : Int) 0), (kR 150), kN, (kR 151), (kR 152), (kR 153), (PySem.Value.int (373 : Int) 0), (PySem.Value.int (47 : Int) 0), (kZ (kS "/claim/cut.py") 374)]) #[]))::
  (nat_lit 155, (kO (kY "function") none (PySem.Data.func (PySem.W.fnOf (kS "__init__") (kS "Gate.__init__") (defArgs s_Gate___init__) (defBody s_Gate___init__) (defScope s_Gate___init__) kN kN kN (kZ (kS "evenhall.journal") 355) none (kR 154) kN)) #[]))::
  (nat_lit 156, (kO (kY "tuple") none (PySem.Data.seq #[] 0) #[]))::
  (nat_lit 158, (kO (kY "tuple") none (PySem.Data.seq #[(kZ (kS "self") 379)] 0) #[]))::
  (nat_lit 159, (kO (kY "tuple") none (PySem.Data.seq #[] 0) #[]))::
  (nat_lit 161, (kO (kY "code") none (PySem.Data.fields #[(kZ (kS "closed") 376), (kZ (kS "Gate.closed") 377), (kZ (kS "/claim/cut.py") 378), (PySem.Value.int (50 : Int) 0), (PySem.Value.int (1 : Int) 0), (PySem.Value.int (0 : Int) 0), (PySem.Value.int (0 : Int) 0), (PySem.Value.int (3 : Int) 0), (kR 156), (PySem.Value.bool true), (PySem.Value.int (181 : Int) 0), (kR 157), kN, (kR 158), (kR 159), (kR 160), (PySem.Value.int (380 : Int) 0), (PySem.Value.int (50 : Int) 0), (kZ (kS "/claim/cut.py") 381)]) #[]))::
  (nat_lit 162, (kO (kY "function") none (PySem.Data.func (PySem.W.fnOf (kS "closed") (kS "Gate.closed") (defArgs s_Gate_closed) (defBody s_Gate_closed) (defScope s_Gate_closed) kN kN kN (kZ (kS "evenhall.journal") 355) none (kR 161) kN)) #[]))::
  (nat_lit 163, (kO (kY "tuple") none (PySem.Data.seq #[] 0) #[]))::
  (nat_lit 165, (kO (kY "tuple") none (PySem.Data.seq #[(kZ (kS "self") 386), (kZ (kS "day") 387)] 0) #[]))::
  (nat_lit 166, (kO (kY "tuple") none (PySem.Data.seq #[] 0) #[]))::
  (nat_lit 168, (kO (kY "code") none (PySem.Data.fields #[(kZ (kS "lets") 383), (kZ (kS "Gate.lets") 384), (kZ (kS "/claim/cut.py") 385), (PySem.Value.int (53 : Int) 0), (PySem.Value.int (2 : Int) 0), (PySem.Value.int (0 : Int) 0), (PySem.Value.int (0 : Int) 0), (PySem.Value.int (3 : Int) 0), (kR 163), (PySem.Value.bool true), (PySem.Value.int (181 : Int) 0), (kR 164), kN, (kR 165), (kR 166), (kR 167), (PySem.Value.int (388 : Int) 0), (PySem.Value.int (53 : Int) 0), (kZ (kS "/claim/cut.py") 389)]) #[]))::
  (nat_lit 169, (kO (kY "function") none (PySem.Data.func (PySem.W.fnOf (kS "lets") (kS "Gate.lets") (defArgs s_Gate_lets) (defBody s_Gate_lets) (defScope s_Gate_lets) kN kN kN (kZ (kS "evenhall.journal") 355) none (kR 168) kN)) #[]))::
  (nat_lit 170, (kO (kY "tuple") none (PySem.Data.seq #[] 0) #[]))::
  (nat_lit 172, (kO (kY "tuple") none (PySem.Data.seq #[(kZ (kS "self") 394), (kZ (kS "month") 395)] 0) #[]))::
  (nat_lit 173, (kO (kY "tuple") none (PySem.Data.seq #[] 0) #[]))::
  (nat_lit 175, (kO (kY "code") none (PySem.Data.fields #[(kZ (kS "need_next") 391), (kZ (kS "Gate.need_next") 392), (kZ (kS "/claim/cut.py") 393), (PySem.Value.int (56 : Int) 0), (PySem.Value.int (2 : Int) 0), (PySem.Value.int (0 : Int) 0), (PySem.Value.int (0 : Int) 0), (PySem.Value.int (3 : Int) 0), (kR 170), (PySem.Value.bool true), (PySem.Value.int (181 : Int) 0), (kR 171), kN, (kR 172), (kR 173), (kR 174), (PySem.Value.int (396 : Int) 0), (PySem.Value.int (56 : Int) 0), (kZ (kS "/claim/cut.py") 397)]) #[]))::
  (nat_lit 176, (kO (kY "function") none (PySem.Data.func (PySem.W.fnOf (kS "need_next") (kS "Gate.need_next") (defArgs s_Gate_need_next) (defBody s_Gate_need_next) (defScope s_Gate_need_next) kN kN kN (kZ (kS "evenhall.journal") 355) none (kR 175) kN)) #[]))::
  (nat_lit 177, (kO (kY "tuple") none (PySem.Data.seq #[] 0) #[]))::
  (nat_lit 179, (kO (kY "tuple") none (PySem.Data.seq #[(kZ (kS "self") 402), (kZ (kS "month") 403)] 0) #[]))::
  (nat_lit 180, (kO (kY "tuple") none (PySem.Data.seq #[] 0) #[]))::
  (nat_lit 182, (kO (kY "code") none (PySem.Data.fields #[(kZ (kS "shut") 399), (kZ (kS "Gate.shut") 400), (kZ (kS "/claim/cut.py") 401), (PySem.Value.int (62 : Int) 0), (PySem.Value.int (2 : Int) 0), (PySem.Value.int (0 : Int) 0), (PySem.Value.int (0 : Int) 0), (PySem.Value.int (3 : Int) 0), (kR 177), (PySem.Value.bool true), (PySem.Value.int (181 : Int) 0), (kR 178), kN, (kR 179), (kR 180), (kR 181), (PySem.Value.int (404 : Int) 0), (PySem.Value.int (62 : Int) 0), (kZ (kS "/claim/cut.py") 405)]) #[]))::
  (nat_lit 183, (kO (kY "function") none (PySem.Data.func (PySem.W.fnOf (kS "shut") (kS "Gate.shut") (defArgs s_Gate_shut) (defBody s_Gate_shut) (defScope s_Gate_shut) kN kN kN (kZ (kS "evenhall.journal") 355) none (kR 182) kN)) #[]))::
  (nat_lit 184, (kO (kY "tuple") none (PySem.Data.seq #[(kZ (kS "last_closed") 407)] 0) #[]))::
  (nat_lit 185, (kO (kY "dict") none (PySem.Data.dict #[(kD (keyHash P (kS "__module__")) (kZ (kS "__module__") 364) (kZ (kS "evenhall.journal") 355)), (kD (keyHash P (kS "__firstlineno__")) (kZ (kS "__firstlineno__") 368) (PySem.Value.int (45 : Int) 367)), (kD (keyHash P (kS "__init__")) (kZ (kS "__init__") 375) (kR 155)), (kD (keyHash P (kS "closed")) (kZ (kS "closed") 382) (kR 162)), (kD (keyHash P (kS "lets")) (kZ (kS "lets") 390) (kR 169)), (kD (keyHash P (kS "need_next")) (kZ (kS "need_next") 398) (kR 176)), (kD (keyHash P (kS "shut")) (kZ (kS "shut") 406) (kR 183)), (kD (keyHash P (kS "__static_attributes__")) (kZ (kS "__static_attributes__") 408) (kR 184)), (kD (keyHash P (kS "__dict__")) (kZ (kS "__dict__") 410) (kR 187)), (kD (keyHash P (kS "__weakref__")) (kZ (kS "__weakref__") 412) (kR 188)), (kD (keyHash P (kS "__doc__")) (kZ (kS "__doc__") 413) kN)] 4) #[]))::
  (nat_lit 186, (kO (kY "type") none (PySem.Data.cls (PySem.ClassData.mk (kS "Gate") [(kY "object")] [(kR 186), (kY "object")] 185 (kS "Gate") true [] [] false none false)) #[none, none, (some (kZ (kS "Gate") 357)), (some (kZ (kS "Gate") 365)), (some (kB "object.__new__")), (some (PySem.Value.bool true))]))::
  (nat_lit 187, (kO (kY "getset_descriptor") none (PySem.Data.fields #[(kZ (kS "__dict__") 409), (kR 186), (kB "function.__dict__"), (kB "function.__dict__#set")]) #[]))::
  (nat_lit 188, (kO (kY "getset_descriptor") none (PySem.Data.fields #[(kZ (kS "__weakref__") 411), (kR 186), (kB "ExceptionGroup.__weakref__"), kN]) #[]))::
  (nat_lit 198, (kO (kY "tuple") none (PySem.Data.seq #[] 0) #[]))::
  (nat_lit 200, (kO (kY "tuple") none (PySem.Data.seq #[(kZ (kS "self") 431)] 0) #[]))::
  (nat_lit 201, (kO (kY "tuple") none (PySem.Data.seq #[] 0) #[]))::
  (nat_lit 203, (kO (kY "code") none (PySem.Data.fields #[(kZ (kS "__init__") 428), (kZ (kS "Journal.__init__") 429), (kZ (kS "/claim/cut.py") 430), (PySem.Value.int (67 : Int) 0), (PySem.Value.int (1 : Int) 0), (PySem.Value.int (0 : Int) 0), (PySem.Value.int (0 : Int) 0), (PySem.Value.int (3 : Int) 0), (kR 198), (PySem.Value.bool true), (PySem.Value.int (181 : Int) 0), (kR 199), kN, (kR 200), (kR 201), (kR 202), (PySem.Value.int (432 : Int) 0), (PySem.Value.int (67 : Int) 0), (kZ (kS "/claim/cut.py") 433)]) #[]))::
  (nat_lit 204, (kO (kY "function") none (PySem.Data.func (PySem.W.fnOf (kS "__init__") (kS "Journal.__init__") (defArgs s_Journal___init__) (defBody s_Journal___init__) (defScope s_Journal___init__) kN kN kN (kZ (kS "evenhall.journal") 355) none (kR 203) kN)) #[]))::
  (nat_lit 205, (kO (kY "tuple") none (PySem.Data.seq #[] 0) #[]))::
  (nat_lit 207, (kO (kY "tuple") none (PySem.Data.seq #[(kZ (kS "self") 438), (kZ (kS "day") 439), (kZ (kS "note") 440), (kZ (kS "rows") 441), (kZ (kS "undoes") 442), (kZ (kS "number") 443)] 0) #[]))::
  (nat_lit 208, (kO (kY "tuple") none (PySem.Data.seq #[] 0) #[]))::
  (nat_lit 210, (kO (kY "code") none (PySem.Data.fields #[(kZ (kS "put") 435), (kZ (kS "Journal.put") 436), (kZ (kS "/claim/cut.py") 437), (PySem.Value.int (71 : Int) 0), (PySem.Value.int (5 : Int) 0), (PySem.Value.int (0 : Int) 0), (PySem.Value.int (0 : Int) 0), (PySem.Value.int (3 : Int) 0), (kR 205), (PySem.Value.bool true), (PySem.Value.int (181 : Int) 0), (kR 206), kN, (kR 207), (kR 208), (kR 209), (PySem.Value.int (444 : Int) 0), (PySem.Value.int (71 : Int) 0), (kZ (kS "/claim/cut.py") 445)]) #[]))::
  (nat_lit 211, (kO (kY "function") none (PySem.Data.func (PySem.W.fnOf (kS "put") (kS "Journal.put") (defArgs s_Journal_put) (defBody s_Journal_put) (defScope s_Journal_put) kN kN kN (kZ (kS "evenhall.journal") 355) none (kR 210) kN)) #[]))::
  (nat_lit 212, (kO (kY "tuple") none (PySem.Data.seq #[] 0) #[]))::
  (nat_lit 214, (kO (kY "tuple") none (PySem.Data.seq #[(kZ (kS "self") 450)] 0) #[]))::
  (nat_lit 215, (kO (kY "tuple") none (PySem.Data.seq #[] 0) #[]))::
  (nat_lit 217, (kO (kY "code") none (PySem.Data.fields #[(kZ (kS "many") 447), (kZ (kS "Journal.many") 448), (kZ (kS "/claim/cut.py") 449), (PySem.Value.int (78 : Int) 0), (PySem.Value.int (1 : Int) 0), (PySem.Value.int (0 : Int) 0), (PySem.Value.int (0 : Int) 0), (PySem.Value.int (3 : Int) 0), (kR 212), (PySem.Value.bool true), (PySem.Value.int (181 : Int) 0), (kR 213), kN, (kR 214), (kR 215), (kR 216), (PySem.Value.int (451 : Int) 0), (PySem.Value.int (78 : Int) 0), (kZ (kS "/claim/cut.py") 452)]) #[]))::
  (nat_lit 218, (kO (kY "function") none (PySem.Data.func (PySem.W.fnOf (kS "many") (kS "Journal.many") (defArgs s_Journal_many) (defBody s_Journal_many) (defScope s_Journal_many) kN kN kN (kZ (kS "evenhall.journal") 355) none (kR 217) kN)) #[]))::
  (nat_lit 219, (kO (kY "tuple") none (PySem.Data.seq #[] 0) #[]))::
  (nat_lit 221, (kO (kY "tuple") none (PySem.Data.seq #[(kZ (kS "self") 457), (kZ (kS "number") 458)] 0) #[]))::
  (nat_lit 222, (kO (kY "tuple") none (PySem.Data.seq #[] 0) #[]))::
  (nat_lit 224, (kO (kY "code") none (PySem.Data.fields #[(kZ (kS "booking") 454), (kZ (kS "Journal.booking") 455), (kZ (kS "/claim/cut.py") 456), (PySem.Value.int (81 : Int) 0), (PySem.Value.int (2 : Int) 0), (PySem.Value.int (0 : Int) 0), (PySem.Value.int (0 : Int) 0), (PySem.Value.int (3 : Int) 0), (kR 219), (PySem.Value.bool true), (PySem.Value.int (181 : Int) 0), (kR 220), kN, (kR 221), (kR 222), (kR 223), (PySem.Value.int (459 : Int) 0), (PySem.Value.int (81 : Int) 0), (kZ (kS "/claim/cut.py") 460)]) #[]))::
  (nat_lit 225, (kO (kY "function") none (PySem.Data.func (PySem.W.fnOf (kS "booking") (kS "Journal.booking") (defArgs s_Journal_booking) (defBody s_Journal_booking) (defScope s_Journal_booking) kN kN kN (kZ (kS "evenhall.journal") 355) none (kR 224) kN)) #[]))::
  (nat_lit 226, (kO (kY "tuple") none (PySem.Data.seq #[] 0) #[]))::
  (nat_lit 228, (kO (kY "tuple") none (PySem.Data.seq #[(kZ (kS "self") 465)] 0) #[]))::
  (nat_lit 229, (kO (kY "tuple") none (PySem.Data.seq #[] 0) #[]))::
  (nat_lit 231, (kO (kY "code") none (PySem.Data.fields #[(kZ (kS "every") 462), (kZ (kS "Journal.every") 463), (kZ (kS "/claim/cut.py") 464), (PySem.Value.int (86 : Int) 0), (PySem.Value.int (1 : Int) 0), (PySem.Value.int (0 : Int) 0), (PySem.Value.int (0 : Int) 0), (PySem.Value.int (3 : Int) 0), (kR 226), (PySem.Value.bool true), (PySem.Value.int (181 : Int) 0), (kR 227), kN, (kR 228), (kR 229), (kR 230), (PySem.Value.int (466 : Int) 0), (PySem.Value.int (86 : Int) 0), (kZ (kS "/claim/cut.py") 467)]) #[]))::
  (nat_lit 232, (kO (kY "function") none (PySem.Data.func (PySem.W.fnOf (kS "every") (kS "Journal.every") (defArgs s_Journal_every) (defBody s_Journal_every) (defScope s_Journal_every) kN kN kN (kZ (kS "evenhall.journal") 355) none (kR 231) kN)) #[]))::
  (nat_lit 233, (kO (kY "tuple") none (PySem.Data.seq #[] 0) #[]))::
  (nat_lit 235, (kO (kY "tuple") none (PySem.Data.seq #[(kZ (kS "self") 472), (kZ (kS "number") 473)] 0) #[]))::
  (nat_lit 236, (kO (kY "tuple") none (PySem.Data.seq #[] 0) #[]))::
  (nat_lit 238, (kO (kY "code") none (PySem.Data.fields #[(kZ (kS "undone_by") 469), (kZ (kS "Journal.undone_by") 470), (kZ (kS "/claim/cut.py") 471), (PySem.Value.int (89 : Int) 0), (PySem.Value.int (2 : Int) 0), (PySem.Value.int (0 : Int) 0), (PySem.Value.int (0 : Int) 0), (PySem.Value.int (3 : Int) 0), (kR 233), (PySem.Value.bool true), (PySem.Value.int (181 : Int) 0), (kR 234), kN, (kR 235), (kR 236), (kR 237), (PySem.Value.int (474 : Int) 0), (PySem.Value.int (89 : Int) 0), (kZ (kS "/claim/cut.py") 475)]) #[]))::
  (nat_lit 239, (kO (kY "function") none (PySem.Data.func (PySem.W.fnOf (kS "undone_by") (kS "Journal.undone_by") (defArgs s_Journal_undone_by) (defBody s_Journal_undone_by) (defScope s_Journal_undone_by) kN kN kN (kZ (kS "evenhall.journal") 355) none (kR 238) kN)) #[]))::
  (nat_lit 240, (kO (kY "tuple") none (PySem.Data.seq #[(kZ (kS "bookings") 477), (kZ (kS "undoings") 478)] 0) #[]))::
  (nat_lit 241, (kO (kY "dict") none (PySem.Data.dict #[(kD (keyHash P (kS "__module__")) (kZ (kS "__module__") 423) (kZ (kS "evenhall.journal") 355)), (kD (keyHash P (kS "__firstlineno__")) (kZ (kS "__firstlineno__") 427) (PySem.Value.int (65 : Int) 426)), (kD (keyHash P (kS "__init__")) (kZ (kS "__init__") 434) (kR 204)), (kD (keyHash P (kS "put")) (kZ (kS "put") 446) (kR 211)), (kD (keyHash P (kS "many")) (kZ (kS "many") 453) (kR 218)), (kD (keyHash P (kS "booking")) (kZ (kS "booking") 461) (kR 225)), (kD (keyHash P (kS "every")) (kZ (kS "every") 468) (kR 232)), (kD (keyHash P (kS "undone_by")) (kZ (kS "undone_by") 476) (kR 239)), (kD (keyHash P (kS "__static_attributes__")) (kZ (kS "__static_attributes__") 479) (kR 240)), (kD (keyHash P (kS "__dict__")) (kZ (kS "__dict__") 481) (kR 243)), (kD (keyHash P (kS "__weakref__")) (kZ (kS "__weakref__") 483) (kR 244)), (kD (keyHash P (kS "__doc__")) (kZ (kS "__doc__") 484) kN)] 4) #[]))::
  (nat_lit 242, (kO (kY "type") none (PySem.Data.cls (PySem.ClassData.mk (kS "Journal") [(kY "object")] [(kR 242), (kY "object")] 241 (kS "Journal") true [] [] false none false)) #[none, none, (some (kZ (kS "Journal") 416)), (some (kZ (kS "Journal") 424)), (some (kB "object.__new__")), (some (PySem.Value.bool true))]))::
  (nat_lit 243, (kO (kY "getset_descriptor") none (PySem.Data.fields #[(kZ (kS "__dict__") 480), (kR 242), (kB "function.__dict__"), (kB "function.__dict__#set")]) #[]))::
  (nat_lit 244, (kO (kY "getset_descriptor") none (PySem.Data.fields #[(kZ (kS "__weakref__") 482), (kR 242), (kB "ExceptionGroup.__weakref__"), kN]) #[]))::
  (nat_lit 247, (kO (kY "tuple") none (PySem.Data.seq #[] 0) #[]))::
  (nat_lit 249, (kO (kY "tuple") none (PySem.Data.seq #[(kZ (kS "_law_script") 492), (kZ (kS "_law_k") 493)] 0) #[]))::
  (nat_lit 250, (kO (kY "tuple") none (PySem.Data.seq #[] 0) #[]))::
  (nat_lit 252, (kO (kY "code") none (PySem.Data.fields #[(kZ (kS "_law_cell_at") 489), (kZ (kS "_law_cell_at") 490), (kZ (kS "/claim/cut.py") 491), (PySem.Value.int (92 : Int) 0), (PySem.Value.int (2 : Int) 0), (PySem.Value.int (0 : Int) 0), (PySem.Value.int (0 : Int) 0), (PySem.Value.int (3 : Int) 0), (kR 247), (PySem.Value.bool true), (PySem.Value.int (181 : Int) 0), (kR 248), kN, (kR 249), (kR 250), (kR 251), (PySem.Value.int (494 : Int) 0), (PySem.Value.int (92 : Int) 0), (kZ (kS "/claim/cut.py") 495)]) #[]))::
  (nat_lit 253, (kO (kY "function") none (PySem.Data.func (PySem.W.fnOf (kS "_law_cell_at") (kS "_law_cell_at") (defArgs s__law_cell_at) (defBody s__law_cell_at) (defScope s__law_cell_at) kN kN kN (kZ (kS "law_evenhall_k13_a_journal_kept") 487) none (kR 252) kN)) #[]))::
  (nat_lit 254, (kO (kY "tuple") none (PySem.Data.seq #[] 0) #[]))::
  (nat_lit 256, (kO (kY "tuple") none (PySem.Data.seq #[(kZ (kS "_law_found") 500)] 0) #[]))::
  (nat_lit 257, (kO (kY "tuple") none (PySem.Data.seq #[] 0) #[]))::
  (nat_lit 259, (kO (kY "code") none (PySem.Data.fields #[(kZ (kS "_law_whole") 497), (kZ (kS "_law_whole") 498), (kZ (kS "/claim/cut.py") 499), (PySem.Value.int (96 : Int) 0), (PySem.Value.int (1 : Int) 0), (PySem.Value.int (0 : Int) 0), (PySem.Value.int (0 : Int) 0), (PySem.Value.int (3 : Int) 0), (kR 254), (PySem.Value.bool true), (PySem.Value.int (181 : Int) 0), (kR 255), kN, (kR 256), (kR 257), (kR 258), (PySem.Value.int (501 : Int) 0), (PySem.Value.int (96 : Int) 0), (kZ (kS "/claim/cut.py") 502)]) #[]))::
  (nat_lit 260, (kO (kY "function") none (PySem.Data.func (PySem.W.fnOf (kS "_law_whole") (kS "_law_whole") (defArgs s__law_whole) (defBody s__law_whole) (defScope s__law_whole) kN kN kN (kZ (kS "law_evenhall_k13_a_journal_kept") 487) none (kR 259) kN)) #[]))::
  (nat_lit 261, (kO (kY "tuple") none (PySem.Data.seq #[] 0) #[]))::
  (nat_lit 263, (kO (kY "tuple") none (PySem.Data.seq #[(kZ (kS "_law_year") 507)] 0) #[]))::
  (nat_lit 264, (kO (kY "tuple") none (PySem.Data.seq #[] 0) #[]))::
  (nat_lit 266, (kO (kY "code") none (PySem.Data.fields #[(kZ (kS "_law_start") 504), (kZ (kS "_law_start") 505), (kZ (kS "/claim/cut.py") 506), (PySem.Value.int (98 : Int) 0), (PySem.Value.int (1 : Int) 0), (PySem.Value.int (0 : Int) 0), (PySem.Value.int (0 : Int) 0), (PySem.Value.int (3 : Int) 0), (kR 261), (PySem.Value.bool true), (PySem.Value.int (181 : Int) 0), (kR 262), kN, (kR 263), (kR 264), (kR 265), (PySem.Value.int (508 : Int) 0), (PySem.Value.int (98 : Int) 0), (kZ (kS "/claim/cut.py") 509)]) #[]))::
  (nat_lit 267, (kO (kY "function") none (PySem.Data.func (PySem.W.fnOf (kS "_law_start") (kS "_law_start") (defArgs s__law_start) (defBody s__law_start) (defScope s__law_start) kN kN kN (kZ (kS "law_evenhall_k13_a_journal_kept") 487) none (kR 266) kN)) #[]))::
  (nat_lit 268, (kO (kY "tuple") none (PySem.Data.seq #[] 0) #[]))::
  (nat_lit 270, (kO (kY "tuple") none (PySem.Data.seq #[(kZ (kS "_law_year") 514), (kZ (kS "_law_second") 515)] 0) #[]))::
  (nat_lit 271, (kO (kY "tuple") none (PySem.Data.seq #[] 0) #[]))::
  (nat_lit 273, (kO (kY "code") none (PySem.Data.fields #[(kZ (kS "_law_lengths") 511), (kZ (kS "_law_lengths") 512), (kZ (kS "/claim/cut.py") 513), (PySem.Value.int (100 : Int) 0), (PySem.Value.int (1 : Int) 0), (PySem.Value.int (0 : Int) 0), (PySem.Value.int (0 : Int) 0), (PySem.Value.int (3 : Int) 0), (kR 268), (PySem.Value.bool true), (PySem.Value.int (181 : Int) 0), (kR 269), kN, (kR 270), (kR 271), (kR 272), (PySem.Value.int (516 : Int) 0), (PySem.Value.int (100 : Int) 0), (kZ (kS "/claim/cut.py") 517)]) #[]))::
  (nat_lit 274, (kO (kY "function") none (PySem.Data.func (PySem.W.fnOf (kS "_law_lengths") (kS "_law_lengths") (defArgs s__law_lengths) (defBody s__law_lengths) (defScope s__law_lengths) kN kN kN (kZ (kS "law_evenhall_k13_a_journal_kept") 487) none (kR 273) kN)) #[]))::
  (nat_lit 275, (kO (kY "tuple") none (PySem.Data.seq #[] 0) #[]))::
  (nat_lit 277, (kO (kY "tuple") none (PySem.Data.seq #[(kZ (kS "_law_month") 522), (kZ (kS "_law_lengths_here") 523), (kZ (kS "_law_first") 524)] 0) #[]))::
  (nat_lit 278, (kO (kY "tuple") none (PySem.Data.seq #[] 0) #[]))::
  (nat_lit 280, (kO (kY "code") none (PySem.Data.fields #[(kZ (kS "_law_month_ends") 519), (kZ (kS "_law_month_ends") 520), (kZ (kS "/claim/cut.py") 521), (PySem.Value.int (103 : Int) 0), (PySem.Value.int (1 : Int) 0), (PySem.Value.int (0 : Int) 0), (PySem.Value.int (0 : Int) 0), (PySem.Value.int (3 : Int) 0), (kR 275), (PySem.Value.bool true), (PySem.Value.int (181 : Int) 0), (kR 276), kN, (kR 277), (kR 278), (kR 279), (PySem.Value.int (525 : Int) 0), (PySem.Value.int (103 : Int) 0), (kZ (kS "/claim/cut.py") 526)]) #[]))::
  (nat_lit 281, (kO (kY "function") none (PySem.Data.func (PySem.W.fnOf (kS "_law_month_ends") (kS "_law_month_ends") (defArgs s__law_month_ends) (defBody s__law_month_ends) (defScope s__law_month_ends) kN kN kN (kZ (kS "law_evenhall_k13_a_journal_kept") 487) none (kR 280) kN)) #[]))::
  (nat_lit 282, (kO (kY "tuple") none (PySem.Data.seq #[] 0) #[]))::
  (nat_lit 285, (kO (kY "code") none (PySem.Data.fields #[(kZ (kS "_law_put") 528), (kZ (kS "_law_put") 529), (kZ (kS "/claim/cut.py") 530), (PySem.Value.int (107 : Int) 0), (PySem.Value.int (4 : Int) 0), (PySem.Value.int (0 : Int) 0), (PySem.Value.int (0 : Int) 0), (PySem.Value.int (3 : Int) 0), (kR 282), (PySem.Value.bool true), (PySem.Value.int (181 : Int) 0), (kR 283), kN, kN, kN, (kR 284), (PySem.Value.int (531 : Int) 0), (PySem.Value.int (107 : Int) 0), (kZ (kS "/claim/cut.py") 532)]) #[]))::
  (nat_lit 286, (kO (kY "function") none (PySem.Data.func (PySem.W.fnOf (kS "_law_put") (kS "_law_put") (defArgs s__law_put) (defBody s__law_put) (defScope s__law_put) kN kN kN (kZ (kS "law_evenhall_k13_a_journal_kept") 487) none (kR 285) kN)) #[]))::
  (nat_lit 287, (kO (kY "tuple") none (PySem.Data.seq #[] 0) #[]))::
  (nat_lit 289, (kO (kY "tuple") none (PySem.Data.seq #[(kZ (kS "_law_e") 537), (kZ (kS "_law_words") 538)] 0) #[]))::
  (nat_lit 290, (kO (kY "tuple") none (PySem.Data.seq #[] 0) #[]))::
  (nat_lit 292, (kO (kY "code") none (PySem.Data.fields #[(kZ (kS "_law_word") 534), (kZ (kS "_law_word") 535), (kZ (kS "/claim/cut.py") 536), (PySem.Value.int (122 : Int) 0), (PySem.Value.int (1 : Int) 0), (PySem.Value.int (0 : Int) 0), (PySem.Value.int (0 : Int) 0), (PySem.Value.int (3 : Int) 0), (kR 287), (PySem.Value.bool true), (PySem.Value.int (181 : Int) 0), (kR 288), kN, (kR 289), (kR 290), (kR 291), (PySem.Value.int (539 : Int) 0), (PySem.Value.int (122 : Int) 0), (kZ (kS "/claim/cut.py") 540)]) #[]))::
  (nat_lit 293, (kO (kY "function") none (PySem.Data.func (PySem.W.fnOf (kS "_law_word") (kS "_law_word") (defArgs s__law_word) (defBody s__law_word) (defScope s__law_word) kN kN kN (kZ (kS "law_evenhall_k13_a_journal_kept") 487) none (kR 292) kN)) #[]))::
  (nat_lit 294, (kO (kY "tuple") none (PySem.Data.seq #[] 0) #[]))::
  (nat_lit 296, (kO (kY "tuple") none (PySem.Data.seq #[(kZ (kS "_law_gate") 545), (kZ (kS "_law_months") 546), (kZ (kS "_law_cell") 547), (kZ (kS "_law_more") 548), (kZ (kS "_law_month") 549), (kZ (kS "_law_due") 550), (kZ (kS "_law_e") 551)] 0) #[]))::
  (nat_lit 297, (kO (kY "tuple") none (PySem.Data.seq #[] 0) #[]))::
  (nat_lit 299, (kO (kY "code") none (PySem.Data.fields #[(kZ (kS "_law_shut") 542), (kZ (kS "_law_shut") 543), (kZ (kS "/claim/cut.py") 544), (PySem.Value.int (125 : Int) 0), (PySem.Value.int (4 : Int) 0), (PySem.Value.int (0 : Int) 0), (PySem.Value.int (0 : Int) 0), (PySem.Value.int (3 : Int) 0), (kR 294), (PySem.Value.bool true), (PySem.Value.int (181 : Int) 0), (kR 295), kN, (kR 296), (kR 297), (kR 298), (PySem.Value.int (552 : Int) 0), (PySem.Value.int (125 : Int) 0), (kZ (kS "/claim/cut.py") 553)]) #[]))::
  (nat_lit 300, (kO (kY "function") none (PySem.Data.func (PySem.W.fnOf (kS "_law_shut") (kS "_law_shut") (defArgs s__law_shut) (defBody s__law_shut) (defScope s__law_shut) kN kN kN (kZ (kS "law_evenhall_k13_a_journal_kept") 487) none (kR 299) kN)) #[]))::
  (nat_lit 301, (kO (kY "tuple") none (PySem.Data.seq #[] 0) #[]))::
  (nat_lit 303, (kO (kY "tuple") none (PySem.Data.seq #[(kZ (kS "_law_journal") 558), (kZ (kS "_law_number") 559), (kZ (kS "_law_refused") 560), (kZ (kS "_law_way") 561), (kZ (kS "_law_e") 562)] 0) #[]))::
  (nat_lit 304, (kO (kY "tuple") none (PySem.Data.seq #[] 0) #[]))::
  (nat_lit 306, (kO (kY "code") none (PySem.Data.fields #[(kZ (kS "_law_no_booking") 555), (kZ (kS "_law_no_booking") 556), (kZ (kS "/claim/cut.py") 557), (PySem.Value.int (143 : Int) 0), (PySem.Value.int (2 : Int) 0), (PySem.Value.int (0 : Int) 0), (PySem.Value.int (0 : Int) 0), (PySem.Value.int (3 : Int) 0), (kR 301), (PySem.Value.bool true), (PySem.Value.int (181 : Int) 0), (kR 302), kN, (kR 303), (kR 304), (kR 305), (PySem.Value.int (563 : Int) 0), (PySem.Value.int (143 : Int) 0), (kZ (kS "/claim/cut.py") 564)]) #[]))::
  (nat_lit 307, (kO (kY "function") none (PySem.Data.func (PySem.W.fnOf (kS "_law_no_booking") (kS "_law_no_booking") (defArgs s__law_no_booking) (defBody s__law_no_booking) (defScope s__law_no_booking) kN kN kN (kZ (kS "law_evenhall_k13_a_journal_kept") 487) none (kR 306) kN)) #[]))::
  (nat_lit 308, (kO (kY "tuple") none (PySem.Data.seq #[] 0) #[]))::
  (nat_lit 310, (kO (kY "tuple") none (PySem.Data.seq #[(kZ (kS "_law_journal") 569), (kZ (kS "_law_own_rows") 570), (kZ (kS "_law_shown") 571), (kZ (kS "_law_cell") 572), (kZ (kS "_law_way") 573), (kZ (kS "_law_found") 574)] 0) #[]))::
  (nat_lit 311, (kO (kY "tuple") none (PySem.Data.seq #[] 0) #[]))::
  (nat_lit 313, (kO (kY "code") none (PySem.Data.fields #[(kZ (kS "_law_all_right") 566), (kZ (kS "_law_all_right") 567), (kZ (kS "/claim/cut.py") 568), (PySem.Value.int (154 : Int) 0), (PySem.Value.int (4 : Int) 0), (PySem.Value.int (0 : Int) 0), (PySem.Value.int (0 : Int) 0), (PySem.Value.int (3 : Int) 0), (kR 308), (PySem.Value.bool true), (PySem.Value.int (181 : Int) 0), (kR 309), kN, (kR 310), (kR 311), (kR 312), (PySem.Value.int (575 : Int) 0), (PySem.Value.int (154 : Int) 0), (kZ (kS "/claim/cut.py") 576)]) #[]))::
  (nat_lit 314, (kO (kY "function") none (PySem.Data.func (PySem.W.fnOf (kS "_law_all_right") (kS "_law_all_right") (defArgs s__law_all_right) (defBody s__law_all_right) (defScope s__law_all_right) kN kN kN (kZ (kS "law_evenhall_k13_a_journal_kept") 487) none (kR 313) kN)) #[]))::
  (nat_lit 315, (kO (kY "tuple") none (PySem.Data.seq #[] 0) #[]))::
  (nat_lit 318, (kO (kY "code") none (PySem.Data.fields #[(kZ (kS "_law_ones_right") 578), (kZ (kS "_law_ones_right") 579), (kZ (kS "/claim/cut.py") 580), (PySem.Value.int (165 : Int) 0), (PySem.Value.int (3 : Int) 0), (PySem.Value.int (0 : Int) 0), (PySem.Value.int (0 : Int) 0), (PySem.Value.int (3 : Int) 0), (kR 315), (PySem.Value.bool true), (PySem.Value.int (181 : Int) 0), (kR 316), kN, kN, kN, (kR 317), (PySem.Value.int (581 : Int) 0), (PySem.Value.int (165 : Int) 0), (kZ (kS "/claim/cut.py") 582)]) #[]))::
  (nat_lit 319, (kO (kY "function") none (PySem.Data.func (PySem.W.fnOf (kS "_law_ones_right") (kS "_law_ones_right") (defArgs s__law_ones_right) (defBody s__law_ones_right) (defScope s__law_ones_right) kN kN kN (kZ (kS "law_evenhall_k13_a_journal_kept") 487) none (kR 318) kN)) #[]))::
  (nat_lit 320, (kO (kY "tuple") none (PySem.Data.seq #[] 0) #[]))::
  (nat_lit 322, (kO (kY "tuple") none (PySem.Data.seq #[(kZ (kS "_law_journal") 587), (kZ (kS "_law_own_rows") 588), (kZ (kS "_law_cell") 589), (kZ (kS "_law_shown") 590), (kZ (kS "_law_many") 591), (kZ (kS "_law_odd") 592), (kZ (kS "_law_way") 593)] 0) #[]))::
  (nat_lit 323, (kO (kY "tuple") none (PySem.Data.seq #[] 0) #[]))::
  (nat_lit 325, (kO (kY "code") none (PySem.Data.fields #[(kZ (kS "_law_journal_right") 584), (kZ (kS "_law_journal_right") 585), (kZ (kS "/claim/cut.py") 586), (PySem.Value.int (178 : Int) 0), (PySem.Value.int (4 : Int) 0), (PySem.Value.int (0 : Int) 0), (PySem.Value.int (0 : Int) 0), (PySem.Value.int (3 : Int) 0), (kR 320), (PySem.Value.bool true), (PySem.Value.int (181 : Int) 0), (kR 321), kN, (kR 322), (kR 323), (kR 324), (PySem.Value.int (594 : Int) 0), (PySem.Value.int (178 : Int) 0), (kZ (kS "/claim/cut.py") 595)]) #[]))::
  (nat_lit 326, (kO (kY "function") none (PySem.Data.func (PySem.W.fnOf (kS "_law_journal_right") (kS "_law_journal_right") (defArgs s__law_journal_right) (defBody s__law_journal_right) (defScope s__law_journal_right) kN kN kN (kZ (kS "law_evenhall_k13_a_journal_kept") 487) none (kR 325) kN)) #[]))::
  (nat_lit 327, (kO (kY "tuple") none (PySem.Data.seq #[] 0) #[]))::
  (nat_lit 330, (kO (kY "code") none (PySem.Data.fields #[(kZ (kS "_law_gate_right") 597), (kZ (kS "_law_gate_right") 598), (kZ (kS "/claim/cut.py") 599), (PySem.Value.int (189 : Int) 0), (PySem.Value.int (3 : Int) 0), (PySem.Value.int (0 : Int) 0), (PySem.Value.int (0 : Int) 0), (PySem.Value.int (3 : Int) 0), (kR 327), (PySem.Value.bool true), (PySem.Value.int (181 : Int) 0), (kR 328), kN, kN, kN, (kR 329), (PySem.Value.int (600 : Int) 0), (PySem.Value.int (189 : Int) 0), (kZ (kS "/claim/cut.py") 601)]) #[]))::
  (nat_lit 331, (kO (kY "function") none (PySem.Data.func (PySem.W.fnOf (kS "_law_gate_right") (kS "_law_gate_right") (defArgs s__law_gate_right) (defBody s__law_gate_right) (defScope s__law_gate_right) kN kN kN (kZ (kS "law_evenhall_k13_a_journal_kept") 487) none (kR 330) kN)) #[]))::
  (nat_lit 332, (kO (kY "tuple") none (PySem.Data.seq #[] 0) #[]))::
  (nat_lit 335, (kO (kY "code") none (PySem.Data.fields #[(kZ (kS "law") 603), (kZ (kS "law") 604), (kZ (kS "/claim/cut.py") 605), (PySem.Value.int (206 : Int) 0), (PySem.Value.int (1 : Int) 0), (PySem.Value.int (0 : Int) 0), (PySem.Value.int (0 : Int) 0), (PySem.Value.int (3 : Int) 0), (kR 332), (PySem.Value.bool true), (PySem.Value.int (181 : Int) 0), (kR 333), kN, kN, kN, (kR 334), (PySem.Value.int (606 : Int) 0), (PySem.Value.int (206 : Int) 0), (kZ (kS "/claim/cut.py") 607)]) #[]))::
  (nat_lit 336, (kO (kY "function") none (PySem.Data.func (PySem.W.fnOf (kS "law") (kS "law") (defArgs s_law) (defBody s_law) (defScope s_law) kN kN kN (kZ (kS "law_evenhall_k13_a_journal_kept") 487) none (kR 335) kN)) #[])) :: []
def adrs : List Addr := [nat_lit 2, nat_lit 3, nat_lit 15, nat_lit 17, nat_lit 18, nat_lit 20, nat_lit 21, nat_lit 22, nat_lit 29, nat_lit 30, nat_lit 31, nat_lit 32, nat_lit 35, nat_lit 42, nat_lit 44, nat_lit 45, nat_lit 47, nat_lit 48, nat_lit 49, nat_lit 50, nat_lit 51, nat_lit 54, nat_lit 61, nat_lit 63, nat_lit 64, nat_lit 66, nat_lit 67, nat_lit 68, nat_lit 69, nat_lit 70, nat_lit 73, nat_lit 80, nat_lit 82, nat_lit 83, nat_lit 85, nat_lit 86, nat_lit 87, nat_lit 88, nat_lit 89, nat_lit 92, nat_lit 94, nat_lit 95, nat_lit 97, nat_lit 98, nat_lit 99, nat_lit 101, nat_lit 102, nat_lit 104, nat_lit 105, nat_lit 106, nat_lit 107, nat_lit 109, nat_lit 110, nat_lit 112, nat_lit 113, nat_lit 114, nat_lit 116, nat_lit 117, nat_lit 119, nat_lit 120, nat_lit 121, nat_lit 123, nat_lit 124, nat_lit 126, nat_lit 127, nat_lit 128, nat_lit 130, nat_lit 131, nat_lit 133, nat_lit 134, nat_lit 135, nat_lit 137, nat_lit 138, nat_lit 140, nat_lit 141, nat_lit 149, nat_lit 151, nat_lit 152, nat_lit 154, nat_lit 155, nat_lit 156, nat_lit 158, nat_lit 159, nat_lit 161, nat_lit 162, nat_lit 163, nat_lit 165, nat_lit 166, nat_lit 168, nat_lit 169, nat_lit 170, nat_lit 172, nat_lit 173, nat_lit 175, nat_lit 176, nat_lit 177, nat_lit 179, nat_lit 180, nat_lit 182, nat_lit 183, nat_lit 184, nat_lit 185, nat_lit 186, nat_lit 187, nat_lit 188, nat_lit 198, nat_lit 200, nat_lit 201, nat_lit 203, nat_lit 204, nat_lit 205, nat_lit 207, nat_lit 208, nat_lit 210, nat_lit 211, nat_lit 212, nat_lit 214, nat_lit 215, nat_lit 217, nat_lit 218, nat_lit 219, nat_lit 221, nat_lit 222, nat_lit 224, nat_lit 225, nat_lit 226, nat_lit 228, nat_lit 229, nat_lit 231, nat_lit 232, nat_lit 233, nat_lit 235, nat_lit 236, nat_lit 238, nat_lit 239, nat_lit 240, nat_lit 241, nat_lit 242, nat_lit 243, nat_lit 244, nat_lit 247, nat_lit 249, nat_lit 250, nat_lit 252, nat_lit 253, nat_lit 254, nat_lit 256, nat_lit 257, nat_lit 259, nat_lit 260, nat_lit 261, nat_lit 263, nat_lit 264, nat_lit 266, nat_lit 267, nat_lit 268, nat_lit 270, nat_lit 271, nat_lit 273, nat_lit 274, nat_lit 275, nat_lit 277, nat_lit 278, nat_lit 280, nat_lit 281, nat_lit 282, nat_lit 285, nat_lit 286, nat_lit 287, nat_lit 289, nat_lit 290, nat_lit 292, nat_lit 293, nat_lit 294, nat_lit 296, nat_lit 297, nat_lit 299, nat_lit 300, nat_lit 301, nat_lit 303, nat_lit 304, nat_lit 306, nat_lit 307, nat_lit 308, nat_lit 310, nat_lit 311, nat_lit 313, nat_lit 314, nat_lit 315, nat_lit 318, nat_lit 319, nat_lit 320, nat_lit 322, nat_lit 323, nat_lit 325, nat_lit 326, nat_lit 327, nat_lit 330, nat_lit 331, nat_lit 332, nat_lit 335, nat_lit 336]
theorem adrs_eq (P : Params) : adrs = (frag P).map (·.1) := by kernel_rfl
def vw : Program := PySem.W.view PySem.Challenge.pw_evenhall_k13_a_journal_kept [0, 2, 3, 4, 5, 7, 8, 10, 11, 12, 13, 14, 15, 17, 18, 20, 21, 22, 23, 24, 25, 26, 27, 28, 29, 30, 31, 32, 33]
open PySem.W PyProof.Rows in
noncomputable def run (w : World) := (openEnds PySem.treeTable PySem.Challenge.pw_evenhall_k13_a_journal_kept w 4870).map (fun s => (openSeen vw [] (importedModules PySem.Challenge.pw_evenhall_k13_a_journal_kept.main.body) (fun s => PySem.W.xlAt vw [] s && PySem.W.recOk (PySem.W.RowW.records (PySem.W.OpenRow.toRowW (PySem.W.OpenLaw.row PySem.Challenge.rw_evenhall_k13_a_journal_kept))) s) true s, adrs.map s.heap.get?))
noncomputable def good (x : List (Option Obj)) := some (PySem.W.openGood vw [], x)
set_option maxRecDepth 100000 in
set_option maxHeartbeats 0 in
lay_quick K13.run
set_option maxRecDepth 100000 in
set_option maxHeartbeats 0 in
lay_quick K13.good
set_option maxRecDepth 100000 in
set_option maxHeartbeats 0 in
theorem left : PySem.W.LeftO PySem.Challenge.pw_evenhall_k13_a_journal_kept vw [] (fun s => PySem.W.xlAt vw [] s && PySem.W.recOk (PySem.W.RowW.records (PySem.W.OpenRow.toRowW (PySem.W.OpenLaw.row PySem.Challenge.rw_evenhall_k13_a_journal_kept))) s) (PySem.W.kHook frag adrs adrs_eq).obs (PySem.W.kHook frag adrs adrs_eq).val 4870 := fun w =>
  (congrFun PySem.W.Fast.te17982639284570297719 w).trans ((show PySem.W.Fast.tw17982639284570297719 w = PySem.W.Fast.tw3762890766266754209 ((frag w.params).map fun p => some p.2) by kernel_rfl).trans (congrFun PySem.W.Fast.te3762890766266754209 _).symm)
end K13
set_option Elab.async false
set_option linter.all false
set_option maxRecDepth 100000
namespace L2
open PySem PySem.Spec PyProof.Rows
abbrev Key := Sum Int Str
def keyIs : Key → Value → Bool
  | .inl k, v => Value.isInt k v
  | .inr x, v => Value.isStrOf x v
def keyH (w : World) : Key → Int
  | .inl k => hashInt k
  | .inr x => hashStr w x
theorem keyIs_shape : ∀ {k : Key} {v : Value}, keyIs k v = true → (∃ i t, k = Sum.inl i ∧ v = Value.int i t) ∨ (∃ x t, k = Sum.inr x ∧ v = Value.str x t)
  | .inl i, v, h => by
    obtain ⟨t, e⟩ := Value.isInt_shape (k := i) (v := v) h
    exact .inl ⟨i, t, rfl, e⟩
  | .inr x, v, h => by
    obtain ⟨t, e⟩ := Value.isStrOf_shape (x := x) (v := v) h
    exact .inr ⟨x, t, rfl, e⟩
theorem keyIs_int (i : Int) (t : Tok) : keyIs (.inl i) (.int i t) = true := by simp [keyIs, Value.isInt]
theorem keyIs_str (x : Str) (t : Tok) : keyIs (.inr x) (.str x t) = true := by simp [keyIs, Value.isStrOf]
theorem key_ll (a b : Int) : decide ((Sum.inl a : Key) = Sum.inl b) = (a == b) := by
  by_cases e : a = b
  · subst e; simp
  · have h : ¬ (Sum.inl a : Key) = Sum.inl b := fun q => e (Sum.inl.inj q)
    rw [decide_eq_false h]
    exact (beq_eq_false_iff_ne.mpr e).symm
theorem key_rr (a b : Str) : decide ((Sum.inr a : Key) = Sum.inr b) = decide (a = b) := by
  by_cases e : a = b
  · subst e; simp
  · have h : ¬ (Sum.inr a : Key) = Sum.inr b := fun q => e (Sum.inr.inj q)
    rw [decide_eq_false h, decide_eq_false e]
theorem key_lr (a : Int) (b : Str) : decide ((Sum.inl a : Key) = Sum.inr b) = false := decide_eq_false (fun q => nomatch q)
theorem key_rl (a : Str) (b : Int) : decide ((Sum.inr a : Key) = Sum.inl b) = false := decide_eq_false (fun q => nomatch q)
def mixKind (prog : Program) (w : World) : PySem.KeyKind prog w Key where
  is := keyIs
  hash := keyH w
  inj := fun v a b ha hb => by
    rcases keyIs_shape ha with ⟨i, t, rfl, rfl⟩ | ⟨x, t, rfl, rfl⟩
    · rcases keyIs_shape hb with ⟨j, u, rfl, e⟩ | ⟨y, u, rfl, e⟩
      · injection e with e1 _; rw [e1]
      · exact nomatch e
    · rcases keyIs_shape hb with ⟨j, u, rfl, e⟩ | ⟨y, u, rfl, e⟩
      · exact nomatch e
      · injection e with e1 _; rw [e1]
  byValue := fun k v h => by
    rcases keyIs_shape h with ⟨i, t, rfl, rfl⟩ | ⟨x, t, rfl, rfl⟩ <;> rfl
  pyHash := fun hv h => by
    rcases keyIs_shape hv with ⟨i, t, rfl, rfl⟩ | ⟨x, t, rfl, rfl⟩
    · exact wpAny_pyHash_int h
    · exact wpAny_pyHash_str h
  eqBool := fun hu hv h => by
    rcases keyIs_shape hu with ⟨i, t, rfl, rfl⟩ | ⟨x, t, rfl, rfl⟩
    · rcases keyIs_shape hv with ⟨j, u, rfl, rfl⟩ | ⟨y, u, rfl, rfl⟩
      · rw [key_ll] at h; exact wpAny_eqBool_int h
      · rw [key_lr] at h; exact SeqAt.EqAt.int_str i t y u _ _ _ _ h
    · rcases keyIs_shape hv with ⟨j, u, rfl, rfl⟩ | ⟨y, u, rfl, rfl⟩
      · rw [key_rl] at h; exact SeqAt.EqAt.str_int x t j u _ _ _ _ h
      · rw [key_rr] at h; exact wpAny_eqBool_str h
  «strs» := fun k x t v h => by
    rcases keyIs_shape h with ⟨i, u, rfl, e⟩ | ⟨y, u, rfl, e⟩
    · exact nomatch e
    · injection e with e1 _
      subst e1
      cases v <;> rfl
theorem mixKind_int (prog : Program) (w : World) (i : Int) (t : Tok) : (mixKind prog w).is (.inl i) (.int i t) = true := keyIs_int i t
theorem mixKind_str (prog : Program) (w : World) (x : Str) (t : Tok) : (mixKind prog w).is (.inr x) (.str x t) = true := keyIs_str x t
end L2
namespace L2
open PySem PySem.Spec PyProof.Rows
inductive V where
  | non | bl (b : Bool) | int (i : Int) | str (x : Str) | byt (b : Array UInt8) | flt (b : UInt64) | ref (a : Addr) | ty (n : String)
  deriving DecidableEq
def RelV : V → Value → Prop
  | .non, u => u = Value.none
  | .bl b, u => u = Value.bool b
  | .int i, u => ∃ t, u = Value.int i t
  | .str x, u => ∃ t, u = Value.str x t
  | .byt b, u => ∃ t, u = Value.bytes b t
  | .flt b, u => ∃ t, u = Value.float b t
  | .ref a, u => u = Value.ref a
  | .ty n, u => u = Value.type n
abbrev Vals : List V → List Value → Prop := Paired RelV
theorem Vals.length {xs : List V} {us : List Value} (r : Vals xs us) : xs.length = us.length := Paired.length r
theorem Vals.get : ∀ {xs : List V} {us : List Value} {i : Nat} {x : V}, Vals xs us → xs[i]? = some x → ∃ u, us[i]? = some u ∧ RelV x u
  | _, _, _, _, .nil, e => by simp at e
  | _, _, 0, _, .cons r _, e => by simp at e; subst e; exact ⟨_, rfl, r⟩
  | _, _, i + 1, x, .cons _ t, e => by
    obtain ⟨u, h1, h2⟩ := Vals.get (i := i) (x := x) t (by simpa using e)
    exact ⟨u, by simpa using h1, h2⟩
theorem Vals.set {x : V} {u : Value} (r : RelV x u) : ∀ {xs : List V} {us : List Value} (i : Nat), Vals xs us → Vals (xs.set i x) (us.set i u)
  | _, _, _, .nil => .nil
  | _, _, 0, .cons _ t => .cons r t
  | _, _, i + 1, .cons q t => .cons q (Vals.set r i t)
theorem Vals.append : ∀ {xs ys : List V} {us ws : List Value}, Vals xs us → Vals ys ws → Vals (xs ++ ys) (us ++ ws)
  | _, _, _, _, .nil, s => s
  | _, _, _, _, .cons r t, s => .cons r (Vals.append t s)
theorem Vals.take : ∀ {xs : List V} {us : List Value} (n : Nat), Vals xs us → Vals (xs.take n) (us.take n)
  | _, _, 0, _ => .nil
  | _, _, _ + 1, .nil => .nil
  | _, _, n + 1, .cons r t => .cons r (Vals.take n t)
theorem Vals.drop : ∀ {xs : List V} {us : List Value} (n : Nat), Vals xs us → Vals (xs.drop n) (us.drop n)
  | _, _, 0, r => r
  | _, _, _ + 1, .nil => .nil
  | _, _, n + 1, .cons _ t => Vals.drop n t
theorem Vals.none_of : ∀ {xs : List V} {us : List Value} {i : Nat}, Vals xs us → xs[i]? = none → us[i]? = none := fun {xs us i} r e => by
  have h1 := r.length
  have h2 : xs.length ≤ i := List.getElem?_eq_none_iff.mp e
  exact List.getElem?_eq_none_iff.mpr (by omega)
def RelO : Option V → Option Value → Prop
  | some v, some u => RelV v u
  | none, none => True
  | _, _ => False
def KV {κ : Type} : List (κ × V) → List (κ × Value) → Prop := Paired fun (p : κ × V) (q : κ × Value) => p.1 = q.1 ∧ RelV p.2 q.2
def kV : Key → V
  | .inl i => .int i
  | .inr x => .str x
inductive HO where
  | lst (xs : List V)
  | tup (xs : List V)
  | dK (kvs : List (Key × V)) | dT (kvs : List (List Key × V))
  | set (S : Int → Bool) (n : Nat)
  | ins (C dx : Addr) (fs : List (Str × V))
  | own (x : Addr)
  | xd (fs : List (Str × V))
  | met (f x : Addr)
  | rng (lo hi : Int)
  | frz (o : Obj) (u : HO)
  | tbl (ps : Array Value)
  | ext (φ : Heap → Prop)
abbrev Hp := Addr → Option HO
def upd (H : Hp) (a : Addr) (o : HO) : Hp := fun b => if b = a then some o else H b
theorem upd_same {H : Hp} {a : Addr} {o : HO} : upd H a o a = some o := by unfold upd; rw [if_pos rfl]
theorem upd_ne {H : Hp} {a b : Addr} {o : HO} (h : b ≠ a) : upd H a o b = H b := by unfold upd; rw [if_neg h]
theorem upd_upd {H : Hp} {a : Addr} {o u : HO} : upd (upd H a o) a u = upd H a u := by
  funext b; unfold upd; split <;> rfl
theorem ne_of {H : Hp} {a b : Addr} {o u : HO} (h : H a = some o) (h' : H b = some u) (d : o ≠ u) : a ≠ b := by
  intro e; subst e; rw [h] at h'; exact d (Option.some.inj h')
theorem ne_of_none {H : Hp} {a b : Addr} {o : HO} (h : H a = some o) (h' : H b = none) : a ≠ b := by
  intro e; subst e; rw [h] at h'; cases h'
section
variable (P : Program) (w : World)
def ObjOk (H : Hp) (h : Heap) (a : Addr) : HO → Prop
  | .lst xs => xs.length ≤ sizeLine ∧ ∃ (its : List Value) (n : Nat), Vals xs its ∧ h.get? a = some { cls := .type "list", data := .seq its.toArray n }
  | .tup xs => xs.length ≤ sizeLine ∧ ∃ its : List Value, Vals xs its ∧ IsTup h a its.toArray
  | .dK kvs => kvs.length ≤ sizeLine ∧ (a == sysModules) = false ∧ ∃ vs, KV kvs vs ∧ h.DictOf (mixKind P w) a vs
  | .dT kvs => kvs.length ≤ sizeLine ∧ (a == sysModules) = false ∧ ∃ xs : List (List Key × Addr × Value),
      Paired (fun (p : List Key × V) (q : List Key × Addr × Value) => p.1 = q.1 ∧ H q.2.1 = some (.tup (p.1.map kV)) ∧ RelV p.2 q.2.2) kvs xs ∧
      ∃ o es ep, h.get? a = some o ∧ o.ExactDict ∧ o.data = .dict es ep ∧ es.toList = xs.map (entryOfKey (tupleKind (mixKind P w))) ∧ (xs.map (·.1)).Nodup
  | .set S n => h.SetOf (intKind P w) a S n
  | .ins C dx fs => H dx = some (.own a) ∧ fs.length ≤ 1000 ∧ dx ≠ a ∧ h.get? a = some (PySem.W.instObj C dx) ∧
      ∃ mA, h.Ns1 dx mA ∧ (∀ f, RelO (fs.lookup f) (mA f)) ∧ PySem.Within mA (fs.map (·.1))
  | .own _ => ∃ o, h.get? a = some o
  | .xd fs => ∃ mA, h.Ns1 a mA ∧ ∀ f, RelO (fs.lookup f) (mA f)
  | .rng lo hi => ∃ t u v, h.get? a = some { cls := .type "range", data := .fields #[.int lo t, .int hi u, .int 1 v] }
  | .frz o u => h.get? a = some o ∧ ObjOk H h a u
  | .tbl ps => h.get? a = some { cls := .none, data := .fields ps }
  | .met f x => h.get? a = some (PySem.W.methodObj (.ref f) (.ref x))
  | .ext φ => φ h ∧ (∃ o, h.get? a = some o) ∧ ∀ h1 h2 : Heap, φ h1 → (∀ o, h1.get? a = some o → h2.get? a = some o) → φ h2
def HOk (H : Hp) (h : Heap) : Prop := ∀ a o, H a = some o → ObjOk P w H h a o
end
section
variable {P : Program} {w : World} {H H' : Hp} {h h' : Heap} {a : Addr} {o : HO}
theorem ObjOk.lt (x : ObjOk P w H h a o) : a < h.objs.size := by
  cases o with
  | lst xs => obtain ⟨_, _, _, _, e⟩ := x; exact Heap.lt_size e
  | tup xs => obtain ⟨_, _, _, p⟩ := x; exact p.lt
  | dK kvs => obtain ⟨_, _, _, _, o, _, _, e, _⟩ := x; exact Heap.lt_size e
  | dT kvs => obtain ⟨_, _, _, _, o, _, _, e, _⟩ := x; exact Heap.lt_size e
  | set S n => obtain ⟨o, _, _, _, e, _⟩ := x; exact Heap.lt_size e
  | ins C dx fs => obtain ⟨_, _, _, e, _⟩ := x; exact Heap.lt_size e
  | own y => obtain ⟨_, e⟩ := x; exact Heap.lt_size e
  | xd fs => obtain ⟨_, ⟨_, _, _, e, _⟩, _⟩ := x; exact Heap.lt_size e
  | rng lo hi => obtain ⟨_, _, _, e⟩ := x; exact Heap.lt_size e
  | frz ob u => obtain ⟨e, _⟩ := x; exact Heap.lt_size e
  | tbl ps => exact Heap.lt_size (show h.get? a = some _ from x)
  | met f y => exact Heap.lt_size (show h.get? a = some _ from x)
  | ext φ => obtain ⟨_, ⟨_, e⟩, _⟩ := x; exact Heap.lt_size e
theorem Paired.mapP {α β : Type} {F G : α → β → Prop} : ∀ {l₁ : List α} {l₂ : List β}, Paired F l₁ l₂ → (∀ a b, F a b → G a b) → Paired G l₁ l₂
  | _, _, .nil, _ => .nil
  | _, _, .cons r t, f => .cons (f _ _ r) (Paired.mapP t f)
theorem ObjOk.stay (x : ObjOk P w H h a o) (k : ∀ b u, (b = a ∨ H b = some (.own a)) → h.get? b = some u → h'.get? b = some u)
    (ho : ∀ b, H b = some (.own a) → H' b = some (.own a)) (ht : ∀ b xs, H b = some (.tup xs) → H' b = some (.tup xs)) : ObjOk P w H' h' a o := by
  induction o with
  | lst xs => obtain ⟨z, its, n, r, e⟩ := x; exact ⟨z, its, n, r, k _ _ (.inl rfl) e⟩
  | tup xs => obtain ⟨z, its, r, ob, e, c⟩ := x; exact ⟨z, its, r, ob, k _ _ (.inl rfl) e, c⟩
  | dK kvs => obtain ⟨z, y, vs, r, ob, es, ep, e, c⟩ := x; exact ⟨z, y, vs, r, ob, es, ep, k _ _ (.inl rfl) e, c⟩
  | dT kvs =>
    obtain ⟨z, y, xs, r, ob, es, ep, e, c⟩ := x
    exact ⟨z, y, xs, Paired.mapP r fun p q z => ⟨z.1, ht _ _ z.2.1, z.2.2⟩, ob, es, ep, k _ _ (.inl rfl) e, c⟩
  | set S n => obtain ⟨ob, es, ep, t, e, c⟩ := x; exact ⟨ob, es, ep, t, k _ _ (.inl rfl) e, c⟩
  | ins C dx fs =>
    obtain ⟨d, z, ne, e, mA, ⟨od, es, ep, e2, c⟩, r⟩ := x
    exact ⟨ho _ d, z, ne, k _ _ (.inl rfl) e, mA, ⟨od, es, ep, k _ _ (.inr d) e2, c⟩, r⟩
  | own y => obtain ⟨ob, e⟩ := x; exact ⟨ob, k _ _ (.inl rfl) e⟩
  | xd fs => obtain ⟨mA, ⟨od, es, ep, e, c⟩, r⟩ := x; exact ⟨mA, ⟨od, es, ep, k _ _ (.inl rfl) e, c⟩, r⟩
  | rng lo hi => obtain ⟨t, u, v, e⟩ := x; exact ⟨t, u, v, k _ _ (.inl rfl) e⟩
  | frz ob u ih => obtain ⟨e, q⟩ := x; exact ⟨k _ _ (.inl rfl) e, ih q⟩
  | tbl ps =>
    have e : h.get? a = some { cls := .none, data := .fields ps } := x
    show h'.get? a = some { cls := .none, data := .fields ps }
    exact k a _ (.inl rfl) e
  | met f y =>
    have e : h.get? a = some (PySem.W.methodObj (.ref f) (.ref y)) := x
    show h'.get? a = some (PySem.W.methodObj (.ref f) (.ref y))
    exact k a _ (.inl rfl) e
  | ext φ => obtain ⟨p, ⟨o, e⟩, st⟩ := x; exact ⟨st _ _ p fun o q => k _ _ (.inl rfl) q, ⟨o, k _ _ (.inl rfl) e⟩, st⟩
theorem HOk.lt (x : HOk P w H h) (e : H a = some o) : a < h.objs.size := (x a o e).lt
theorem HOk.fresh (x : HOk P w H h) (e : h.objs.size ≤ a) : H a = none := by
  cases q : H a with
  | none => rfl
  | some u => exact absurd (Nat.lt_of_lt_of_le (x.lt q) e) (Nat.lt_irrefl _)
theorem HOk.kept (x : HOk P w H h) (k : ∀ b u, h.get? b = some u → h'.get? b = some u) : HOk P w H h' := fun a o e =>
  (x a o e).stay (fun b u _ q => k b u q) (fun _ q => q) fun _ _ q => q
theorem HOk.laid (x : HOk P w H h) (k : ∀ b u, h.get? b = some u → h'.get? b = some u) (hp : h.objs.size ≤ a) (new : ObjOk P w (upd H a o) h' a o) : HOk P w (upd H a o) h' := fun b u e => by
  have hn := x.fresh hp
  by_cases hb : b = a
  · subst hb; rw [upd_same] at e; cases e; exact new
  · rw [upd_ne hb] at e
    exact (x b u e).stay (fun c v _ q => k c v q) (fun c q => by rw [upd_ne (ne_of_none q hn)]; exact q) fun c xs q => by rw [upd_ne (ne_of_none q hn)]; exact q
end
def Rd (H : Hp) (a : Addr) (u : HO) : Prop := H a = some u ∨ ∃ o, H a = some (.frz o u)
theorem Rd.of {H : Hp} {a : Addr} {u : HO} (h : H a = some u) : Rd H a u := .inl h
theorem Rd.ok {P : Program} {w : World} {H : Hp} {h : Heap} {a : Addr} {u : HO} (r : Rd H a u) (x : HOk P w H h) : ObjOk P w H h a u := by
  rcases r with r | ⟨o, r⟩
  · exact x a u r
  · obtain ⟨_, q⟩ := x a _ r
    exact q
def Mut : Option HO → Prop
  | some (.lst _) => True
  | some (.dK _) => True
  | some (.dT _) => True
  | some (.set _ _) => True
  | some (.ins _ _ _) => True
  | some (.ext _) => True
  | _ => False
section
variable {P : Program} {w : World} {H : Hp} {h h' : Heap} {x e : Addr} {o' : HO}
theorem HOk.write (ok : HOk P w H h) (mu : Mut (H x)) (he : e = x ∨ H e = some (.own x)) (k : ∀ b u, b ≠ e → h.get? b = some u → h'.get? b = some u) (heo : ∃ u, h'.get? e = some u)
    (new : ObjOk P w (upd H x o') h' x o') : HOk P w (upd H x o') h' := fun b u q => by
  have nown : ∀ c y, H c = some (.own y) → c ≠ x := fun c y r z => by subst z; rw [r] at mu; exact mu
  have ntup : ∀ c xs, H c = some (.tup xs) → c ≠ x := fun c xs r z => by subst z; rw [r] at mu; exact mu
  by_cases hb : b = x
  · subst hb; rw [upd_same] at q; cases q; exact new
  · rw [upd_ne hb] at q
    by_cases hbe : b = e
    · have q' : H b = some (.own x) := by
        rcases he with z | z
        · exact absurd (hbe.trans z) hb
        · rw [hbe]; exact z
      rw [q] at q'; cases q'
      obtain ⟨v, hv⟩ := heo
      exact ⟨v, by rw [hbe]; exact hv⟩
    · refine (ok b u q).stay (fun c v hc r => k c v ?_ r) (fun c r => by rw [upd_ne (nown c b r)]; exact r) fun c xs r => by rw [upd_ne (ntup c xs r)]; exact r
      rcases hc with rfl | hc
      · exact hbe
      · rintro rfl
        rcases he with z | z
        · exact nown c b hc z
        · rw [hc] at z; cases z; exact hb rfl
end
structure Un (fs ex : List Addr) (H H' : Hp) (h h' : Heap) : Prop where
  keep : ∀ b o, h.get? b = some o → H b = none → b ∉ fs → b ∉ ex → h'.get? b = some o
  slot : ∀ b o, h.get? b = some o → H b = none → b ∈ fs → b ∉ ex → ∃ sl, h'.get? b = some { o with slots := sl }
  free : ∀ b o, h.get? b = some o → H b = none → b ∉ ex → H' b = none
  there : ∀ b o, h.get? b = some o → b ∉ ex → ∃ o', h'.get? b = some o'
  tups : ∀ b xs, H b = some (.tup xs) → H' b = some (.tup xs)
  frzs : ∀ b o u, H b = some (.frz o u) → H' b = some (.frz o u)
  tbls : ∀ b ps, H b = some (.tbl ps) → ∃ more, H' b = some (.tbl (ps ++ more))
section
variable {fs fs' ex ex' : List Addr} {H H1 H2 : Hp} {h h1 h2 h' : Heap} {a x e : Addr} {o : HO}
theorem Un.any (u : Un fs ex H H1 h h1) {b : Addr} {ob : Obj} (q : h.get? b = some ob) (n : H b = none) (hx : b ∉ ex) : ∃ sl, h1.get? b = some { ob with slots := sl } := by
  by_cases hb : b ∈ fs
  · exact u.slot b ob q n hb hx
  · exact ⟨ob.slots, u.keep b ob q n hb hx⟩
theorem Un.trans (a : Un fs ex H H1 h h1) (b : Un fs ex H1 H2 h1 h2) : Un fs ex H H2 h h2 where
  keep := fun c ob q n hc hx => b.keep c ob (a.keep c ob q n hc hx) (a.free c ob q n hx) hc hx
  slot := fun c ob q n hc hx => by
    obtain ⟨sl, e1⟩ := a.slot c ob q n hc hx
    obtain ⟨sl', e2⟩ := b.slot c _ e1 (a.free c ob q n hx) hc hx
    exact ⟨sl', e2⟩
  free := fun c ob q n hx => by
    obtain ⟨o', e1⟩ := a.there c ob q hx
    exact b.free c o' e1 (a.free c ob q n hx) hx
  there := fun c ob q hx => by
    obtain ⟨o', e1⟩ := a.there c ob q hx
    exact b.there c o' e1 hx
  tups := fun c xs q => b.tups c xs (a.tups c xs q)
  frzs := fun c ob xs q => b.frzs c ob xs (a.frzs c ob xs q)
  tbls := fun c ps q => by
    obtain ⟨m1, e1⟩ := a.tbls c ps q
    obtain ⟨m2, e2⟩ := b.tbls c _ e1
    exact ⟨m1 ++ m2, by rw [e2, Array.append_assoc]⟩
theorem Un.kept (k : ∀ b u, h.get? b = some u → h'.get? b = some u) : Un fs ex H H h h' :=
  ⟨fun b ob q _ _ _ => k b ob q, fun b ob q _ _ _ => ⟨ob.slots, k b ob q⟩, fun _ _ _ n _ => n, fun b ob q _ => ⟨ob, k b ob q⟩, fun _ _ q => q, fun _ _ _ q => q, fun _ ps q => ⟨#[], by rw [q]; simp⟩⟩
theorem Un.refl : Un fs ex H H h h := Un.kept fun _ _ q => q
theorem Un.laid (k : ∀ b u, h.get? b = some u → h'.get? b = some u) (hp : h.objs.size ≤ a) (hn : H a = none) : Un fs ex H (upd H a o) h h' where
  keep := fun b u q _ _ _ => k b u q
  slot := fun b u q _ _ _ => ⟨u.slots, k b u q⟩
  free := fun b u q n _ => by rw [upd_ne (Nat.ne_of_lt (Nat.lt_of_lt_of_le (Heap.lt_size q) hp))]; exact n
  there := fun b u q _ => ⟨u, k b u q⟩
  tups := fun b xs q => by rw [upd_ne (ne_of_none q hn)]; exact q
  frzs := fun b u xs q => by rw [upd_ne (ne_of_none q hn)]; exact q
  tbls := fun b ps q => ⟨#[], by rw [upd_ne (ne_of_none q hn), q]; simp⟩
theorem Un.write (mu : Mut (H x)) (he : e = x ∨ H e = some (.own x)) (k : ∀ b u, b ≠ e → h.get? b = some u → h'.get? b = some u) (heo : ∃ u, h'.get? e = some u) : Un fs ex H (upd H x o) h h' := by
  have hx : ∀ b, H b = none → b ≠ x := fun b n z => by subst z; rw [n] at mu; exact mu
  have hb : ∀ b, H b = none → b ≠ e := fun b n z => by
    subst z
    rcases he with r | r
    · exact hx b n r
    · rw [n] at r; cases r
  have hm : ∀ b u, H b = some u → ¬ Mut (some u) → b ≠ x := fun b u q nm z => by subst z; rw [q] at mu; exact nm mu
  refine ⟨fun b u q n _ _ => k b u (hb b n) q, fun b u q n _ _ => ⟨u.slots, k b u (hb b n) q⟩, fun b u q n _ => by rw [upd_ne (hx b n)]; exact n, fun b u q _ => ?_,
    fun b xs q => by rw [upd_ne (hm b _ q fun z => z)]; exact q, fun b u xs q => by rw [upd_ne (hm b _ q fun z => z)]; exact q, fun b ps q => ⟨#[], by rw [upd_ne (hm b _ q fun z => z), q]; simp⟩⟩
  by_cases hbe : b = e
  · subst hbe; exact heo
  · exact ⟨u, k b u hbe q⟩
theorem Un.mono (u : Un fs ex H H1 h h1) (hs : ∀ b ∈ fs, b ∈ fs') (hx : ∀ b ∈ ex, b ∈ ex') : Un fs' ex' H H1 h h1 :=
  ⟨fun b ob q n hb he => u.keep b ob q n (fun z => hb (hs b z)) fun z => he (hx b z), fun _ _ q n _ he => u.any q n fun z => he (hx _ z), fun b ob q n he => u.free b ob q n fun z => he (hx b z), fun b ob q he => u.there b ob q fun z => he (hx b z), u.tups, u.frzs, u.tbls⟩
end
def trk (h : Heap) (H : Hp) : List Addr := (List.range h.objs.size).filter fun a => (H a).isSome
def hidT (h : Heap) (H : Hp) : Heap := PySem.W.hideAll h (trk h H)
theorem hidT_size (h : Heap) (H : Hp) : (hidT h H).objs.size = h.objs.size := PySem.W.hideAll_size _ _
theorem hidT_get {h : Heap} {H : Hp} {b : Addr} {o : Obj} (e : h.get? b = some o) (n : H b = none) : (hidT h H).get? b = some o :=
  PySem.W.hideAll_get _ e fun hm => by
    have q : (H b).isSome = true := (List.mem_filter.mp hm).2
    rw [n] at q; simp at q
theorem of_hidT {h : Heap} {H : Hp} {b : Addr} {o : Obj} (e : (hidT h H).get? b = some o) : h.get? b = some o ∧ H b = none := by
  have e' : h.get? b = some o := PySem.W.of_hideAll (trk h H) e
  refine ⟨e', ?_⟩
  cases q : H b with
  | none => rfl
  | some x =>
    have hm : b ∈ trk h H := List.mem_filter.mpr ⟨List.mem_range.mpr (Heap.lt_size e'), by simp [q]⟩
    have z : (hidT h H).get? b = none := PySem.W.hideAll_none (trk h H) hm
    rw [z] at e; cases e
def allNews (g h : Heap) (L : Addr) : List (Addr × Obj) := (List.range h.objs.size).filterMap fun a => if a = L ∨ (g.get? a).isSome = true then none else (h.get? a).map fun o => (a, o)
def rest (g h : Heap) (L d : Addr) : List (Addr × Obj) := (allNews g h L).filter fun p => decide (p.1 ≠ d)
end L2
namespace L2
open PySem PySem.Spec PyProof.Rows
structure Mod (K : PySem.W.Frag) (mg : Str → Option Value) (base : Heap) : Prop where
  kin : K.In base
  glob : base.Ns mainGlobals mg
  blt : ∃ mb, base.Ns builtinsNs mb ∧ ∀ x : Str, x ≠ "__name__" → mb x = bootBuiltins x
  nolimit : base.NoLimit
structure Cx where
  prog : Program
  w : World
  K : PySem.W.Frag
  mg : Str → Option Value
  base : Heap
  A : Around
  N : List Str
  s₀ : Shared
  H₀ : Hp
  env : Env
  outer : List Env
  stack : List Env
  ex : List Addr
  fn : Str → Bool
  calm : Bool
  pn : List (Addr × Obj)
  xe : Value → Shared → Prop
def frs (l : List Env) : List Addr := l.filterMap (·.frame)
abbrev Cx.fs (X : Cx) : List Addr := frs X.outer
def Vis (sc : Scope) (x : Str) : Prop := sc.names.lookup x = some .local ∨ sc.names.lookup x = some .cell ∨ sc.names.lookup x = some .free
def Loc (sc : Scope) (x : Str) : Prop := sc.names.lookup x = some .local ∨ sc.names.lookup x = some .cell
def Look (env : Env) (h : Heap) (m : Str → Option Value) (x : Str) (u : Value) : Prop :=
  (env.kindOf x = some .local ∧ m x = some u) ∨ ((env.kindOf x = some .cell ∨ env.kindOf x = some .free) ∧ ∃ c, env.cells.lookup x = some c ∧ h.IsCell c (some u))
structure Cx.Ok (X : Cx) : Prop where
  mod : Mod X.K X.mg X.base
  kind : X.env.scope.kind = .function
  glob : X.env.globals = mainGlobals
  blt : X.env.builtins = builtinsNs
  above : X.s₀.heap.objs.size ≤ X.env.locals
  inj : ∀ x y c, X.env.cells.lookup x = some c → X.env.cells.lookup y = some c → x = y
  has : ∀ x, (X.env.kindOf x = some .cell ∨ X.env.kindOf x = some .free) → ∃ c, X.env.cells.lookup x = some c
  cab : ∀ x c, X.fn x = true → X.env.cells.lookup x = some c → X.s₀.heap.objs.size ≤ c
  hd : X.calm = true → X.A.handled = none
  frames : X.A.frames = some X.stack
  stk : X.stack = X.outer ∨ (X.stack = X.env :: X.outer ∧ X.env.frame = some X.env.locals)
  exf : ∀ b ∈ X.ex, b ≠ X.env.locals ∧ ∀ x c, X.env.cells.lookup x = some c → c ≠ b
  bs : ∀ b o, X.base.get? b = some o → X.s₀.heap.get? b = some o ∧ X.H₀ b = none
  bsz : X.base.objs.size ≤ X.s₀.heap.objs.size
  noex : ∀ b o, X.base.get? b = some o → b ∉ X.ex
  exfs : ∀ b ∈ X.ex, b ∉ X.fs
  funs : X.s₀.heap.FunFrames X.base X.outer
  frf : ∀ b ∈ X.fs, X.H₀ b = none
structure Inv (X : Cx) (pins : List (Addr × Obj)) (σ : List (Option V)) (H : Hp) (s : Shared) : Prop where
  ok : X.Ok
  os : s.os = X.s₀.os
  bare : AllBare s.gens
  base : Un X.fs X.ex X.H₀ H X.s₀.heap s.heap
  loc : ∃ m, s.heap.Ns X.env.locals m ∧ ∀ (i : Nat) (x : Str) (v : V), X.N[i]? = some x → σ[i]? = some (some v) → Vis X.env.scope x → ∃ u, RelV v u ∧ Look X.env s.heap m x u
  cell : ∀ x c, X.env.cells.lookup x = some c → ∃ v, s.heap.IsCell c v
  free : H X.env.locals = none
  freeC : ∀ x c, X.env.cells.lookup x = some c → H c = none
  pin : ∀ p ∈ X.pn ++ pins, s.heap.get? p.1 = some p.2 ∧ H p.1 = none ∧ p.1 ≠ X.env.locals ∧ p.1 ∉ X.fs ∧ ∀ v, p.2.data ≠ .cell v
  hok : HOk X.prog X.w H s.heap
  len : σ.length = X.N.length
section
variable {X : Cx} {pins : List (Addr × Obj)} {σ : List (Option V)} {H H' : Hp} {s : Shared} {h' : Heap}
theorem Cx.Ok.nofr (ok : X.Ok) {b : Addr} {o : Obj} (e : X.base.get? b = some o) : b ∉ X.fs := fun hb => by
  have := (ok.funs.mem hb).1
  rw [e] at this; cases this
theorem Inv.bs (I : Inv X pins σ H s) : ∀ b o, X.base.get? b = some o → s.heap.get? b = some o ∧ H b = none := fun b o e =>
  ⟨I.base.keep b o (I.ok.bs b o e).1 (I.ok.bs b o e).2 (I.ok.nofr e) (I.ok.noex b o e), I.base.free b o (I.ok.bs b o e).1 (I.ok.bs b o e).2 (I.ok.noex b o e)⟩
theorem Inv.bk (I : Inv X pins σ H s) : ∀ b o, X.base.get? b = some o → s.heap.get? b = some o := fun b o e => (I.bs b o e).1
theorem Inv.mod (I : Inv X pins σ H s) : Mod X.K X.mg X.base := I.ok.mod
theorem Inv.kIn (I : Inv X pins σ H s) : X.K.In s.heap := I.ok.mod.kin.keeps I.bk
theorem Inv.nolimit (I : Inv X pins σ H s) : s.heap.NoLimit := I.ok.mod.nolimit.keeps I.bk
theorem Inv.fr (I : Inv X pins σ H s) : ∃ m, Fr X.base X.env.locals s.heap m :=
  let ⟨m, hn, _⟩ := I.loc
  ⟨m, hn, I.bk, Nat.le_trans I.ok.bsz I.ok.above⟩
theorem Inv.lt (I : Inv X pins σ H s) : X.env.locals < s.heap.objs.size := let ⟨_, hn, _⟩ := I.loc; hn.lt
theorem Inv.sz (I : Inv X pins σ H s) : X.s₀.heap.objs.size ≤ s.heap.objs.size := Nat.le_trans I.ok.above (Nat.le_of_lt I.lt)
theorem Inv.nofs (I : Inv X pins σ H s) {a : Addr} (h : s.heap.objs.size ≤ a) : a ∉ X.fs := fun hb => by
  obtain ⟨_, o, ho, _⟩ := I.ok.funs.mem hb
  exact absurd (Nat.lt_of_lt_of_le (Heap.lt_size ho) (Nat.le_trans I.sz h)) (Nat.lt_irrefl _)
theorem Inv.cne (I : Inv X pins σ H s) : ∀ x c, X.env.cells.lookup x = some c → c ≠ X.env.locals := fun x c e z => by
  obtain ⟨v, o, ho, hd⟩ := I.cell x c e
  obtain ⟨m, ⟨o', es, ep, ho', hd', _⟩, _⟩ := I.loc
  rw [z, ho'] at ho; cases ho; rw [hd'] at hd; cases hd
theorem Inv.funs (I : Inv X pins σ H s) : s.heap.FunFrames X.base X.outer := by
  have all : ∀ (l : List Env), (∀ b ∈ frs l, b ∈ X.fs) → X.s₀.heap.FunFrames X.base l → s.heap.FunFrames X.base l := by
    intro l
    induction l with
    | nil => intro _ _; trivial
    | cons env r ih =>
      intro hs hl
      obtain ⟨hk, ⟨L, o, hf, hn, ho, hd⟩, hr⟩ := hl
      have hL : L ∈ X.fs := hs L (by unfold frs; rw [List.filterMap_cons, hf]; exact List.mem_cons_self)
      obtain ⟨sl, e⟩ := I.base.slot L o ho (I.ok.frf L hL) hL fun z => I.ok.exfs L z hL
      exact ⟨hk, ⟨L, _, hf, hn, e, hd⟩, ih (fun b hb => hs b (by unfold frs; rw [List.filterMap_cons, hf]; exact List.mem_cons_of_mem _ hb)) hr⟩
  exact all X.outer (fun _ hb => hb) I.ok.funs
theorem Inv.stack (I : Inv X pins σ H s) : s.heap.FunFrames X.base X.stack := by
  rcases I.ok.stk with e | ⟨e, hf⟩
  · rw [e]; exact I.funs
  · rw [e]
    obtain ⟨m, hn, _⟩ := I.loc
    refine .cons (by rw [I.ok.kind]; decide) hf hn ?_ I.funs
    exact Heap.get?_none_of_le (Nat.le_trans I.ok.bsz I.ok.above)
theorem Inv.stkSub (I : Inv X pins σ H s) : ∀ b ∈ frs X.stack, b ∈ X.env.locals :: X.fs := fun b hb => by
  rcases I.ok.stk with e | ⟨e, hf⟩
  · rw [e] at hb; exact List.mem_cons_of_mem _ hb
  · rw [e] at hb
    unfold frs at hb
    rw [List.filterMap_cons, hf] at hb
    exact hb
theorem Inv.stkFree (I : Inv X pins σ H s) : ∀ b ∈ frs X.stack, H b = none := fun b hb => by
  rcases List.mem_cons.mp (I.stkSub b hb) with e | hb
  · rw [e]; exact I.free
  · obtain ⟨_, o, ho, _⟩ := I.ok.funs.mem hb
    exact I.base.free b o ho (I.ok.frf b hb) fun z => I.ok.exfs b z hb
theorem Inv.step {g' : Array GenState} {t' : Nat} {d' : Drawn} {ch : List Addr} (I : Inv X pins σ H s)
    (hch : ∀ b ∈ ch, (b ∈ X.ex ∨ X.s₀.heap.objs.size ≤ b) ∧ b ≠ X.env.locals ∧ (∀ x c, X.env.cells.lookup x = some c → c ≠ b) ∧ ∀ p ∈ X.pn ++ pins, p.1 ≠ b)
    (keep : ∀ b o, b ≠ X.env.locals → b ∉ X.fs → b ∉ ch → s.heap.get? b = some o → H b = none → h'.get? b = some o)
    (slot : ∀ b o, b ≠ X.env.locals → b ∈ X.fs → b ∉ ch → s.heap.get? b = some o → H b = none → ∃ sl, h'.get? b = some { o with slots := sl }) (free : ∀ b o, b ∉ ch → s.heap.get? b = some o → H b = none → H' b = none)
    (there : ∀ b o, b ∉ ch → s.heap.get? b = some o → ∃ o', h'.get? b = some o')
    (tups : ∀ b xs, H b = some (.tup xs) → H' b = some (.tup xs)) (frzs : ∀ b o u, H b = some (.frz o u) → H' b = some (.frz o u)) (tbls : ∀ b ps, H b = some (.tbl ps) → ∃ more, H' b = some (.tbl (ps ++ more)))
    (ns : ∀ m, s.heap.Ns X.env.locals m → h'.Ns X.env.locals m) (hok : HOk X.prog X.w H' h') (hg : AllBare g') :
    Inv X pins σ H' { s with heap := h', gens := g', drawn := d', toks := t' } := by
  have neL : ∀ b o, X.s₀.heap.get? b = some o → b ≠ X.env.locals := fun b o e => Nat.ne_of_lt (Nat.lt_of_lt_of_le (Heap.lt_size e) I.ok.above)
  have neC : ∀ b o, X.s₀.heap.get? b = some o → b ∉ X.ex → b ∉ ch := fun b o e hx hb => by
    rcases (hch b hb).1 with z | z
    · exact hx z
    · exact absurd (Nat.lt_of_lt_of_le (Heap.lt_size e) z) (Nat.lt_irrefl _)
  have cellK : ∀ x c, X.env.cells.lookup x = some c → ∀ v, s.heap.IsCell c v → h'.IsCell c v := fun x c e v ⟨o, ho, hd⟩ => by
    have nch : c ∉ ch := fun z => (hch c z).2.2.1 x c e rfl
    by_cases hc : c ∈ X.fs
    · obtain ⟨sl, q⟩ := slot c o (I.cne x c e) hc nch ho (I.freeC x c e)
      exact ⟨_, q, hd⟩
    · exact ⟨o, keep c o (I.cne x c e) hc nch ho (I.freeC x c e), hd⟩
  refine ⟨I.ok, I.os, hg, ⟨fun b o e n hb hx => ?_, fun b o e n hb hx => ?_, fun b o e n hx => ?_, fun b o e hx => ?_, fun b xs e => tups b xs (I.base.tups b xs e), fun b o xs e => frzs b o xs (I.base.frzs b o xs e), fun b ps e => ?_⟩, ?_, fun x c e => ?_, ?_, fun x c e => ?_, fun p hp => ?_, hok, I.len⟩
  · exact keep b o (neL b o e) hb (neC b o e hx) (I.base.keep b o e n hb hx) (I.base.free b o e n hx)
  · obtain ⟨sl, e1⟩ := I.base.slot b o e n hb hx
    obtain ⟨sl', e2⟩ := slot b _ (neL b o e) hb (neC b o e hx) e1 (I.base.free b o e n hx)
    exact ⟨sl', e2⟩
  · obtain ⟨o', e1⟩ := I.base.there b o e hx
    exact free b o' (neC b o e hx) e1 (I.base.free b o e n hx)
  · obtain ⟨o', e1⟩ := I.base.there b o e hx
    exact there b o' (neC b o e hx) e1
  · obtain ⟨m1, e1⟩ := I.base.tbls b ps e
    obtain ⟨m2, e2⟩ := tbls b _ e1
    exact ⟨m1 ++ m2, by rw [e2, Array.append_assoc]⟩
  · obtain ⟨m, hn, hl⟩ := I.loc
    refine ⟨m, ns m hn, fun i x v e1 e2 e3 => ?_⟩
    obtain ⟨u, r, l⟩ := hl i x v e1 e2 e3
    refine ⟨u, r, ?_⟩
    rcases l with l | ⟨k, c, e, z⟩
    · exact .inl l
    · exact .inr ⟨k, c, e, cellK x c e _ z⟩
  · obtain ⟨v, z⟩ := I.cell x c e
    exact ⟨v, cellK x c e v z⟩
  · obtain ⟨m, ⟨o, _, _, ho, _⟩, _⟩ := I.loc
    exact free _ o (fun z => (hch _ z).2.1 rfl) ho I.free
  · obtain ⟨v, o, ho, hd⟩ := I.cell x c e
    exact free c o (fun z => (hch c z).2.2.1 x c e rfl) ho (I.freeC x c e)
  · obtain ⟨e, n, ne, nf, d⟩ := I.pin p hp
    have nch : p.1 ∉ ch := fun z => (hch p.1 z).2.2.2 p hp rfl
    exact ⟨keep p.1 p.2 ne nf nch e n, free p.1 p.2 nch e n, ne, nf, d⟩
theorem Inv.un {t' : Nat} (I : Inv X pins σ H s) (u : Un X.fs [] H H' s.heap h') (hok : HOk X.prog X.w H' h') : Inv X pins σ H' { s with heap := h', toks := t' } := by
  obtain ⟨m, ⟨o, es, ep, ho, r⟩, _⟩ := id I.loc
  obtain ⟨sl, hL⟩ := u.any ho I.free (by simp)
  exact I.step (g' := s.gens) (d' := s.drawn) (ch := []) (fun _ z => nomatch z) (fun b o _ hb _ e n => u.keep b o e n hb (by simp)) (fun b o _ hb _ e n => u.slot b o e n hb (by simp)) (fun b o _ e n => u.free b o e n (by simp)) (fun b o _ e => u.there b o e (by simp)) u.tups u.frzs u.tbls (fun m' hm => by
    obtain ⟨o', es', ep', ho', r'⟩ := hm
    rw [ho] at ho'; cases ho'
    exact ⟨_, es', ep', hL, r'⟩) hok I.bare
theorem Inv.call {g' : Array GenState} {t' : Nat} {d' : Drawn} {ch : List Addr} (I : Inv X pins σ H s) (u : Un (frs X.stack) ch H H' s.heap h') (hok : HOk X.prog X.w H' h') (hg : AllBare g')
    (hch : ∀ b ∈ ch, (b ∈ X.ex ∨ X.s₀.heap.objs.size ≤ b) ∧ b ≠ X.env.locals ∧ (∀ x c, X.env.cells.lookup x = some c → c ≠ b) ∧ ∀ p ∈ X.pn ++ pins, p.1 ≠ b) :
    Inv X pins σ H' { s with heap := h', gens := g', drawn := d', toks := t' } := by
  obtain ⟨m, ⟨o, es, ep, ho, r⟩, _⟩ := id I.loc
  obtain ⟨sl, hL⟩ := u.any ho I.free fun z => (hch _ z).2.1 rfl
  exact I.step (ch := ch) hch (fun b o hL hb hc e n => u.keep b o e n (fun z => (List.mem_cons.mp (I.stkSub b z)).elim hL hb) hc) (fun b o _ _ hc e n => u.any e n hc) (fun b o hc e n => u.free b o e n hc) (fun b o hc e => u.there b o e hc) u.tups u.frzs u.tbls (fun m' hm => by
    obtain ⟨o', es', ep', ho', r'⟩ := hm
    rw [ho] at ho'; cases ho'
    exact ⟨_, es', ep', hL, r'⟩) hok hg
theorem Inv.turned {t' : Nat} {it : Addr} (I : Inv X pins σ H s) (k : ∀ b o, b ≠ it → s.heap.get? b = some o → h'.get? b = some o) (hn : H it = none) (hL : it ≠ X.env.locals)
    (h1 : it ∈ X.ex ∨ X.s₀.heap.objs.size ≤ it) (h2 : ∀ x c, X.env.cells.lookup x = some c → c ≠ it) (h3 : ∀ p ∈ X.pn ++ pins, p.1 ≠ it) : Inv X pins σ H { s with heap := h', toks := t' } := by
  have nit : ∀ b u, H b = some u → b ≠ it := fun b u e z => by rw [z, hn] at e; cases e
  refine I.step (g' := s.gens) (d' := s.drawn) (ch := [it]) (fun b hb => ?_) (fun b o _ _ hc e _ => k b o (fun z => hc (by simp [z])) e) (fun b o _ _ hc e _ => ⟨o.slots, k b o (fun z => hc (by simp [z])) e⟩) (fun _ _ _ _ n => n)
    (fun b o hc e => ⟨o, k b o (fun z => hc (by simp [z])) e⟩) (fun _ _ e => e) (fun _ _ _ e => e) (fun b ps e => ⟨#[], by rw [e]; simp⟩) (fun m hm => ?_) (fun b u e => ?_) I.bare
  · have e : b = it := by simpa using hb
    subst e
    exact ⟨h1, hL, h2, h3⟩
  · obtain ⟨o, es, ep, ho, r⟩ := hm
    exact ⟨o, es, ep, k _ o (Ne.symm hL) ho, r⟩
  · refine (I.hok b u e).stay (fun c v hc q => k c v ?_ q) (fun _ q => q) fun _ _ q => q
    rcases hc with z | z
    · rw [z]; exact nit b u e
    · exact nit c _ z
theorem Inv.tok (I : Inv X pins σ H s) (t : Nat) : Inv X pins σ H { s with toks := t } := I.un (h' := s.heap) (t' := t) Un.refl I.hok
theorem Inv.kept {t' : Nat} (I : Inv X pins σ H s) (k : ∀ b u, s.heap.get? b = some u → h'.get? b = some u) : Inv X pins σ H { s with heap := h', toks := t' } := I.un (Un.kept k) (I.hok.kept k)
theorem Inv.laid {a : Addr} {o : HO} {t' : Nat} (I : Inv X pins σ H s) (k : ∀ b u, s.heap.get? b = some u → h'.get? b = some u) (hp : s.heap.objs.size ≤ a) (new : ObjOk X.prog X.w (upd H a o) h' a o) :
    Inv X pins σ (upd H a o) { s with heap := h', toks := t' } := I.un (Un.laid k hp (I.hok.fresh hp)) (I.hok.laid k hp new)
theorem Inv.write {x e : Addr} {o : HO} {t' : Nat} (I : Inv X pins σ H s) (mu : Mut (H x)) (he : e = x ∨ H e = some (.own x)) (k : ∀ b u, b ≠ e → s.heap.get? b = some u → h'.get? b = some u) (heo : ∃ u, h'.get? e = some u)
    (new : ObjOk X.prog X.w (upd H x o) h' x o) : Inv X pins σ (upd H x o) { s with heap := h', toks := t' } := I.un (Un.write mu he k heo) (I.hok.write mu he k heo new)
theorem Inv.pins_of {pins' : List (Addr × Obj)} (I : Inv X pins σ H s) (h : ∀ p ∈ pins', s.heap.get? p.1 = some p.2 ∧ H p.1 = none ∧ p.1 ≠ X.env.locals ∧ p.1 ∉ X.fs ∧ ∀ v, p.2.data ≠ .cell v) : Inv X pins' σ H s :=
  ⟨I.ok, I.os, I.bare, I.base, I.loc, I.cell, I.free, I.freeC, fun p hp => (List.mem_append.mp hp).elim (fun z => I.pin p (List.mem_append_left _ z)) (h p), I.hok, I.len⟩
theorem nodup_ix {N : List Str} (hN : N.Nodup) {i j : Nat} {x : Str} (a : N[i]? = some x) (b : N[j]? = some x) : i = j := by
  obtain ⟨h1, e1⟩ := List.getElem?_eq_some_iff.mp a
  obtain ⟨h2, e2⟩ := List.getElem?_eq_some_iff.mp b
  exact (List.getElem_inj hN).mp (e1.trans e2.symm)
theorem store_ok2 {M : Model} {A : Around} {E : Value → Shared → Prop} {i : Nat} {x : Str} {v : V} {u : Value} {Q : Unit → Shared → Prop} (I : Inv X pins σ H s) (hN : X.N.Nodup) (hi : X.N[i]? = some x) (hx : Loc X.env.scope x) (r : RelV v u)
    (h : ∀ s', Inv X pins (σ.set i (some v)) H s' → (∃ a, Heap.SameBut a s.heap s'.heap ∧ (a = X.env.locals ∨ X.env.cells.lookup x = some a)) → Q () s') (hf : X.fn x = true ∨ X.env.scope.names.lookup x = some .local := by first | exact .inl rfl | exact .inr rfl | assumption) : wpAny M A (storeName X.env x u) Q E s := by
  obtain ⟨m, hn, hl⟩ := id I.loc
  have hcls : (X.env.scope.kind == .class || (X.env.scope.kind == .module && X.env.locals != X.env.globals)) = false := by rw [I.ok.kind]; rfl
  have hiσ : i < σ.length := by rw [I.len]; exact (List.getElem?_eq_some_iff.mp hi).1
  have cne := I.cne
  have tracked : ∀ {a : Addr} {h' : Heap}, (∃ o, s.heap.get? a = some o ∧ H a = none) → Heap.SameBut a s.heap h' → HOk X.prog X.w H h' := fun {a h'} ha hs b ob e => by
    obtain ⟨_, _, hfree⟩ := ha
    refine (I.hok b ob e).stay (fun c w' hc q => (hs.2 c ?_).trans q) (fun _ q => q) fun _ _ q => q
    rintro rfl
    rcases hc with rfl | hc
    · rw [hfree] at e; cases e
    · rw [hfree] at hc; cases hc
  rcases hx with hk | hk
  · refine wpAny_storeName_local hk hn (fun h' hn' hs => ?_) hcls
    obtain ⟨oL, _, _, hoL, _⟩ := id hn
    refine h _ ⟨I.ok, I.os, I.bare, ⟨fun b o e n hb hx => ?_, fun b o e n hb hx => ?_, I.base.free, fun b o e hx => ?_, I.base.tups, I.base.frzs, I.base.tbls⟩, ⟨_, hn', fun j y v' e1 e2 e3 => ?_⟩, fun y c e => ?_, I.free, I.freeC, fun p hp => ?_, tracked ⟨oL, hoL, I.free⟩ hs, by simpa using I.len⟩ ⟨_, hs, .inl rfl⟩
    · exact (hs.2 b (Nat.ne_of_lt (Nat.lt_of_lt_of_le (Heap.lt_size e) I.ok.above))).trans (I.base.keep b o e n hb hx)
    · obtain ⟨sl, e1⟩ := I.base.slot b o e n hb hx
      exact ⟨sl, (hs.2 b (Nat.ne_of_lt (Nat.lt_of_lt_of_le (Heap.lt_size e) I.ok.above))).trans e1⟩
    · obtain ⟨o', e1⟩ := I.base.there b o e hx
      exact ⟨o', (hs.2 b (Nat.ne_of_lt (Nat.lt_of_lt_of_le (Heap.lt_size e) I.ok.above))).trans e1⟩
    · by_cases hj : j = i
      · subst hj
        rw [hi] at e1; cases e1
        rw [List.getElem?_set_self hiσ] at e2
        cases e2
        exact ⟨u, r, .inl ⟨hk, by simp⟩⟩
      · rw [List.getElem?_set_ne (Ne.symm hj)] at e2
        obtain ⟨u', r', q⟩ := hl j y v' e1 e2 e3
        refine ⟨u', r', ?_⟩
        rcases q with ⟨k, e⟩ | ⟨k, c, e, z⟩
        · refine .inl ⟨k, ?_⟩
          have : y ≠ x := fun e => hj (nodup_ix hN e1 (e ▸ hi))
          simp [this, e]
        · exact .inr ⟨k, c, e, z.sameBut hs (cne y c e)⟩
    · obtain ⟨w', z⟩ := I.cell y c e
      exact ⟨w', z.sameBut hs (cne y c e)⟩
    · obtain ⟨e, n, ne, nf, d⟩ := I.pin p hp
      exact ⟨(hs.2 p.1 ne).trans e, n, ne, nf, d⟩
  · have hfn : X.fn x = true := by
      rcases hf with z | z
      · exact z
      · rw [z] at hk; cases hk
    obtain ⟨c, hc⟩ := I.ok.has x (.inl hk)
    obtain ⟨w', z⟩ := I.cell x c hc
    refine wpAny_storeName_cell I.ok.kind hk hc z (fun h' hc' hs => ?_)
    obtain ⟨oc, hoc, hocd⟩ := id z
    refine h { s with heap := h' } ⟨I.ok, I.os, I.bare, ⟨fun b o e n hb hx => ?_, fun b o e n hb hx => ?_, I.base.free, fun b o e hx => ?_, I.base.tups, I.base.frzs, I.base.tbls⟩, ⟨m, hn.sameBut hs (Ne.symm (cne x c hc)), fun j y v' e1 e2 e3 => ?_⟩, fun y c' e => ?_, I.free, I.freeC, fun p hp => ?_, tracked ⟨oc, hoc, I.freeC x c hc⟩ hs, by simpa using I.len⟩ ⟨c, hs, .inr hc⟩
    · exact (hs.2 b (Nat.ne_of_lt (Nat.lt_of_lt_of_le (Heap.lt_size e) (I.ok.cab x c hfn hc)))).trans (I.base.keep b o e n hb hx)
    · obtain ⟨sl, e1⟩ := I.base.slot b o e n hb hx
      exact ⟨sl, (hs.2 b (Nat.ne_of_lt (Nat.lt_of_lt_of_le (Heap.lt_size e) (I.ok.cab x c hfn hc)))).trans e1⟩
    · obtain ⟨o', e1⟩ := I.base.there b o e hx
      exact ⟨o', (hs.2 b (Nat.ne_of_lt (Nat.lt_of_lt_of_le (Heap.lt_size e) (I.ok.cab x c hfn hc)))).trans e1⟩
    · by_cases hj : j = i
      · subst hj
        rw [hi] at e1; cases e1
        rw [List.getElem?_set_self hiσ] at e2
        cases e2
        exact ⟨u, r, .inr ⟨.inl hk, c, hc, hc'⟩⟩
      · rw [List.getElem?_set_ne (Ne.symm hj)] at e2
        obtain ⟨u', r', q⟩ := hl j y v' e1 e2 e3
        refine ⟨u', r', ?_⟩
        rcases q with q | ⟨k, c', e, z'⟩
        · exact .inl q
        · refine .inr ⟨k, c', e, z'.sameBut hs ?_⟩
          rintro rfl
          exact hj (nodup_ix hN e1 (I.ok.inj _ _ _ e hc ▸ hi))
    · by_cases hcc : c' = c
      · subst hcc; exact ⟨_, hc'⟩
      · obtain ⟨w2, z2⟩ := I.cell y c' e
        exact ⟨w2, z2.sameBut hs hcc⟩
    · obtain ⟨e, n, ne, nf, d⟩ := I.pin p hp
      refine ⟨(hs.2 p.1 ?_).trans e, n, ne, nf, d⟩
      intro q
      rw [q, hoc] at e
      have q' : oc = p.2 := Option.some.inj e
      exact d w' (by rw [← q']; exact hocd)
theorem store_ok {M : Model} {A : Around} {E : Value → Shared → Prop} {i : Nat} {x : Str} {v : V} {u : Value} {Q : Unit → Shared → Prop} (I : Inv X pins σ H s) (hN : X.N.Nodup) (hi : X.N[i]? = some x) (hx : Loc X.env.scope x) (r : RelV v u)
    (h : ∀ s', Inv X pins (σ.set i (some v)) H s' → Q () s') (hf : X.fn x = true ∨ X.env.scope.names.lookup x = some .local := by first | exact .inl rfl | exact .inr rfl | assumption) : wpAny M A (storeName X.env x u) Q E s :=
  store_ok2 I hN hi hx r (fun s' I' _ => h s' I') hf
theorem Inv.call' {s' : Shared} {ch : List Addr} (I : Inv X pins σ H s) (ho : s'.os = s.os) (u : Un (frs X.stack) ch H H' s.heap s'.heap) (hok : HOk X.prog X.w H' s'.heap) (hg : AllBare s'.gens)
    (hch : ∀ b ∈ ch, (b ∈ X.ex ∨ X.s₀.heap.objs.size ≤ b) ∧ b ≠ X.env.locals ∧ (∀ x c, X.env.cells.lookup x = some c → c ≠ b) ∧ ∀ p ∈ X.pn ++ pins, p.1 ≠ b) : Inv X pins σ H' s' := by
  obtain ⟨h', g', d', t', o'⟩ := s'
  have e : o' = s.os := ho
  subst e
  exact I.call (g' := g') (t' := t') (d' := d') u hok hg hch
end
abbrev XK := Value → Option Addr → Hp → Prop
abbrev St := List (Option V)
abbrev VK := V → Hp → Prop
abbrev TE := St → Hp → VK → Prop
abbrev TT := St → Hp → (Bool → Hp → Prop) → Prop
abbrev TA := St → Hp → (List V → Hp → Prop) → Prop
structure Ends where
  nx : St → Hp → Prop
  rt : VK
  bk : St → Hp → Prop := fun _ _ => False
  ct : St → Hp → Prop := fun _ _ => False
abbrev TS := Ends → St → Hp → Prop
def EP (X : Cx) (pins : List (Addr × Obj)) (σ : St) (Q : VK) (u : Value) (s' : Shared) : Prop := ∃ v H', Inv X pins σ H' s' ∧ RelV v u ∧ Q v H'
def TP (X : Cx) (pins : List (Addr × Obj)) (σ : St) (Q : Bool → Hp → Prop) (b : Bool) (s' : Shared) : Prop := ∃ H', Inv X pins σ H' s' ∧ Q b H'
def AP (X : Cx) (pins : List (Addr × Obj)) (σ : St) (Q : List V → Hp → Prop) (us : List Value) (s' : Shared) : Prop := ∃ vs H', Inv X pins σ H' s' ∧ Vals vs us ∧ Q vs H'
def SP (X : Cx) (pins : List (Addr × Obj)) (D : Ends) (f : Flow) (s' : Shared) : Prop :=
  match f with
  | .next => ∃ σ' H', Inv X pins σ' H' s' ∧ D.nx σ' H'
  | .brk => ∃ σ' H', Inv X pins σ' H' s' ∧ D.bk σ' H'
  | .cont => ∃ σ' H', Inv X pins σ' H' s' ∧ D.ct σ' H'
  | .ret u => ∃ v σ' H', Inv X pins σ' H' s' ∧ RelV v u ∧ D.rt v H'
def PE (X : Cx) (e : Expr) (t : TE) : Prop :=
  ∀ (pins : List (Addr × Obj)) (s : Shared) (σ : St) (H : Hp) (Q : VK), Inv X pins σ H s → t σ H Q → wpAny (model X.prog X.w) X.A (eval e X.env) (EP X pins σ Q) X.xe s
def PT (X : Cx) (e : Expr) (t : TT) : Prop :=
  ∀ (pins : List (Addr × Obj)) (s : Shared) (σ : St) (H : Hp) (Q : Bool → Hp → Prop), Inv X pins σ H s → t σ H Q → wpAny (model X.prog X.w) X.A (isTrue e X.env (eval e X.env)) (TP X pins σ Q) X.xe s
def PW (X : Cx) (e : Expr) (t : TT) : Prop :=
  ∀ (whole : Sem Value) (pins : List (Addr × Obj)) (s : Shared) (σ : St) (H : Hp) (Q : Bool → Hp → Prop), Inv X pins σ H s → t σ H Q → wpAny (model X.prog X.w) X.A (isTrue e X.env whole) (TP X pins σ Q) X.xe s
theorem PW.pt {X : Cx} {e : Expr} {t : TT} (h : PW X e t) : PT X e t := h _
def PA (X : Cx) (es : List Expr) (t : TA) : Prop :=
  ∀ (pos : Pos) (pins : List (Addr × Obj)) (s : Shared) (σ : St) (H : Hp) (Q : List V → Hp → Prop), Inv X pins σ H s → t σ H Q → wpAny (model X.prog X.w) X.A (spliced (backTo pos (starEach es X.env))) (AP X pins σ Q) X.xe s
def PS (X : Cx) (st : Stmt) (t : TS) : Prop :=
  ∀ (pins : List (Addr × Obj)) (s : Shared) (σ : St) (H : Hp) (D : Ends), Inv X pins σ H s → t D σ H → wpAny (model X.prog X.w) X.A (exec st X.env) (SP X pins D) X.xe s
def PSs (X : Cx) (st : List Stmt) (t : TS) : Prop :=
  ∀ (pins : List (Addr × Obj)) (s : Shared) (σ : St) (H : Hp) (D : Ends), Inv X pins σ H s → t D σ H → wpAny (model X.prog X.w) X.A (execs st X.env) (SP X pins D) X.xe s
theorem thn {α : Type} {t : Sem α} {Q Q' : α → Shared → Prop} {M : Model} {A : Around} {E : Value → Shared → Prop} {s : Shared} (h : wpAny M A t Q E s) (hQ : ∀ a s, Q a s → Q' a s) : wpAny M A t Q' E s := wpAny_mono h hQ fun _ _ x => x
end L2
namespace L2
open PySem PySem.Spec PyProof.Rows
section
variable {X : Cx}
theorem bin {a b : Expr} {ta tb : TE} (ha : PE X a ta) (hb : PE X b tb) {pins : List (Addr × Obj)} {s : Shared} {σ : St} {H : Hp} {R : V → V → Hp → Prop} (I : Inv X pins σ H s) (h : ta σ H fun x H1 => tb σ H1 fun y H2 => R x y H2)
    {α : Type} {Q : α → Shared → Prop} {f : Value → Value → Sem α}
    (hf : ∀ v u s2 x y H2, Inv X pins σ H2 s2 → RelV x v → RelV y u → R x y H2 → wpAny (model X.prog X.w) X.A (f v u) Q X.xe s2) :
    wpAny (model X.prog X.w) X.A (eval a X.env) (fun v s₁ => wpAny (model X.prog X.w) X.A (eval b X.env) (fun u s₂ => wpAny (model X.prog X.w) X.A (f v u) Q X.xe s₂) X.xe s₁) X.xe s := by
  refine thn (ha pins s σ H _ I h) fun v s1 ⟨x, H1, I1, r1, q1⟩ => ?_
  refine thn (hb pins s1 σ H1 _ I1 q1) fun u s2 ⟨y, H2, I2, r2, q2⟩ => ?_
  exact hf v u s2 x y H2 I2 r1 r2 q2
def tVar (i : Nat) : TE := fun σ H Q => ∃ v, σ[i]? = some (some v) ∧ Q v H
def tC (v : V) : TE := fun _ H Q => Q v H
theorem pe_var {i : Nat} {x : Str} {pos : Pos} (hN : X.N[i]? = some x) (hv : Vis X.env.scope x) (hd : (x == ("__debug__" : Str)) = false := by decide) (hcd : (x == ("__classdict__" : Str)) = false := by decide) : PE X (.Name x pos) (tVar i) := by
  intro pins s σ H Q I h
  obtain ⟨v, e, h⟩ := h
  obtain ⟨m, hn, hl⟩ := I.loc
  obtain ⟨u, r, l⟩ := hl i x v hN e hv
  have fin : EP X pins σ Q u s := ⟨v, H, I, r, h⟩
  rcases l with ⟨hk, hm⟩ | ⟨hk, c, hc, hcell⟩
  · exact wpAny_Name (wpAny_loadName_local I.ok.kind hk hn hm fin) hd
  · rcases hk with hk | hk
    · exact wpAny_Name (wpAny_loadName_cell I.ok.kind hk hc hcell fin) hd
    · exact wpAny_Name (wpAny_loadName_free I.ok.kind hk hc hcell fin hcd) hd
theorem pe_int {i j pos} : PE X (.Constant (.int i) j pos) (tC (.int i)) := fun _ _ _ H _ I h => wpAny_Constant_int ⟨.int i, H, I.tok _, ⟨_, rfl⟩, h⟩
theorem pe_bl {b j pos} : PE X (.Constant (.bool b) j pos) (tC (.bl b)) := fun _ _ _ H _ I h => Constant_bool ⟨.bl b, H, I, rfl, h⟩
theorem pe_non {j pos} : PE X (.Constant .none j pos) (tC .non) := fun _ _ _ H _ I h => Constant_none ⟨.non, H, I, rfl, h⟩
theorem pe_str {x j pos} : PE X (.Constant (.str x) j pos) (tC (.str x)) := fun _ _ _ H _ I h => Calls.Constant_str ⟨.str x, H, I.tok _, ⟨_, rfl⟩, h⟩
def Gl (X : Cx) (x : Str) : Prop := X.env.kindOf x = some .globalImplicit
theorem ld_glob {E : Value → Shared → Prop} {pins : List (Addr × Obj)} {s : Shared} {σ : St} {H : Hp} {x : Str} {u : Value} {pos : Pos} {Q : Value → Shared → Prop} (I : Inv X pins σ H s) (hg : Gl X x) (hm : X.mg x = some u) (h : Q u s)
    (hd : (x == ("__debug__" : Str)) = false := by decide) : wpAny (model X.prog X.w) X.A (eval (.Name x pos) X.env) Q E s :=
  Calls.Name_function_global I.ok.kind hg (Calls.loadGlobal_global (by rw [I.ok.glob]; exact I.mod.glob.keeps I.bk) hm h) hd
theorem ld_blt {E : Value → Shared → Prop} {pins : List (Addr × Obj)} {s : Shared} {σ : St} {H : Hp} {x : Str} {u : Value} {pos : Pos} {Q : Value → Shared → Prop} (I : Inv X pins σ H s) (hg : Gl X x) (hm : X.mg x = none) (hv : bootBuiltins x = some u) (h : Q u s)
    (hn : x ≠ "__name__" := by decide) (hd : (x == ("__debug__" : Str)) = false := by decide) : wpAny (model X.prog X.w) X.A (eval (.Name x pos) X.env) Q E s := by
  obtain ⟨mb, h1, h2⟩ := I.mod.blt
  exact Calls.Name_function_global I.ok.kind hg (Calls.loadGlobal_builtin (by rw [I.ok.glob]; exact I.mod.glob.keeps I.bk) hm (by rw [I.ok.blt]; exact h1.keeps I.bk) ((h2 x hn).trans hv) h) hd
theorem pe_glob {x : Str} {v : V} {u : Value} {pos : Pos} (hg : Gl X x) (hm : X.mg x = some u) (r : RelV v u) (hd : (x == ("__debug__" : Str)) = false := by decide) : PE X (.Name x pos) (tC v) :=
  fun _ _ _ H _ I h => ld_glob I hg hm ⟨v, H, I, r, h⟩ hd
theorem pe_bltn {x : Str} {v : V} {u : Value} {pos : Pos} (hg : Gl X x) (hm : X.mg x = none) (hv : bootBuiltins x = some u) (r : RelV v u) (hn : x ≠ "__name__" := by decide) (hd : (x == ("__debug__" : Str)) = false := by decide) : PE X (.Name x pos) (tC v) :=
  fun _ _ _ H _ I h => ld_blt I hg hm hv ⟨v, H, I, r, h⟩ hn hd
variable {a b : Expr} {ta tb : TE} {pos : Pos}
def PC (X : Cx) (op : CmpOp) (a b : Expr) (t : TE) : Prop :=
  ∀ (pins : List (Addr × Obj)) (s : Shared) (σ : St) (H : Hp) (Q : VK), Inv X pins σ H s → t σ H Q →
    wpAny (model X.prog X.w) X.A (eval a X.env) (fun v s₁ => wpAny (model X.prog X.w) X.A (eval b X.env) (fun u s₂ => wpAny (model X.prog X.w) X.A (compareOp op v u) (EP X pins σ Q) X.xe s₂) X.xe s₁) X.xe s
theorem nobehind (b : Expr) {op : CmpOp} (h : op ≠ .In) (h2 : op ≠ .NotIn) : behindInMarks op b = false := by
  have e1 : (op == CmpOp.In) = false := by cases op <;> first | rfl | exact absurd rfl h
  have e2 : (op == CmpOp.NotIn) = false := by cases op <;> first | rfl | exact absurd rfl h2
  cases b <;> simp [behindInMarks, e1, e2]
def tIsN (ta : TE) : TE := fun σ H Q => ta σ H fun x H1 => Q (.bl (decide (x = .non))) H1
def tNotN (ta : TE) : TE := fun σ H Q => ta σ H fun x H1 => Q (.bl (!decide (x = .non))) H1
theorem RelV.none_iff {x : V} {v : Value} (r : RelV x v) : (v == Value.none) = decide (x = .non) := by
  cases x with
  | non => cases r; rfl
  | bl _ => cases r; rfl
  | int _ => obtain ⟨t, rfl⟩ := r; rfl
  | str _ => obtain ⟨t, rfl⟩ := r; rfl
  | byt _ => obtain ⟨t, rfl⟩ := r; rfl
  | flt _ => obtain ⟨t, rfl⟩ := r; rfl
  | ref _ => cases r; rfl
  | ty _ => cases r; rfl
theorem pc_isN {j pos'} (ha : PE X a ta) : PC X .Is a (.Constant .none j pos') (tIsN ta) := by
  intro pins s σ H Q I h
  refine thn (ha pins s σ H _ I h) fun v s1 ⟨x, H1, I1, r1, q1⟩ => ?_
  exact Constant_none (is_none_gen ⟨.bl _, H1, I1, by rw [r1.none_iff]; rfl, q1⟩)
theorem pc_notN {j pos'} (ha : PE X a ta) : PC X .IsNot a (.Constant .none j pos') (tNotN ta) := by
  intro pins s σ H Q I h
  refine thn (ha pins s σ H _ I h) fun v s1 ⟨x, H1, I1, r1, q1⟩ => ?_
  exact Constant_none (isnot_none_gen ⟨.bl _, H1, I1, by rw [r1.none_iff]; rfl, q1⟩)
theorem pe_cmp {op : CmpOp} {t : TE} (h : PC X op a b t) (h1 : behindInMarks op b = false := by first | exact nobehind _ (by decide) (by decide) | rfl) : PE X (.Compare a [op] [b] pos) t := fun pins s σ H Q I hw => wpAny_Compare1 (h pins s σ H Q I hw) h1
variable {tA tB' : TT} {rest : List Expr}
def tAnd (t u : TT) : TT := fun σ H Q => t σ H fun c H1 => if c = true then u σ H1 Q else Q false H1
def tOr (t u : TT) : TT := fun σ H Q => t σ H fun c H1 => if c = true then Q true H1 else u σ H1 Q
def tNot (t : TT) : TT := fun σ H Q => t σ H fun c H1 => Q (!c) H1
theorem pw_and1 (ha : PT X a tA) : PW X (.BoolOp .And [a] pos) tA := by
  intro wh pins s σ H Q I h
  refine isTrue_and (thn (ha pins s σ H Q I h) fun c s1 e => ?_)
  cases c with
  | true => exact isTrue_and_nil e
  | false => exact e
theorem pw_or1 (ha : PT X a tA) : PW X (.BoolOp .Or [a] pos) tA := by
  intro wh pins s σ H Q I h
  refine isTrue_or (thn (ha pins s σ H Q I h) fun c s1 e => ?_)
  cases c with
  | false => exact isTrue_or_nil e
  | true => exact e
theorem pw_and (ha : PT X a tA) (hb : PW X (.BoolOp .And (b :: rest) pos) tB') : PW X (.BoolOp .And (a :: b :: rest) pos) (tAnd tA tB') := by
  intro wh pins s σ H Q I h
  refine isTrue_and (thn (ha pins s σ H _ I h) fun c s1 ⟨H1, I1, q1⟩ => ?_)
  cases c with
  | true => exact hb wh pins s1 σ H1 Q I1 q1
  | false => exact ⟨H1, I1, q1⟩
theorem pw_or (ha : PT X a tA) (hb : PW X (.BoolOp .Or (b :: rest) pos) tB') : PW X (.BoolOp .Or (a :: b :: rest) pos) (tOr tA tB') := by
  intro wh pins s σ H Q I h
  refine isTrue_or (thn (ha pins s σ H _ I h) fun c s1 ⟨H1, I1, q1⟩ => ?_)
  cases c with
  | true => exact ⟨H1, I1, q1⟩
  | false => exact hb wh pins s1 σ H1 Q I1 q1
theorem pt_not (ha : PT X a tA) : PT X (.UnaryOp .Not a pos) (tNot tA) := by
  intro pins s σ H Q I h
  exact isTrue_not (ha pins s σ H (fun c H1 => Q (!c) H1) I h)
theorem pe_one {op} {t : TE} (h : PE X a t) : PE X (.BoolOp op [a] pos) t := fun pins s σ H Q I hw => BoolOp_one (h pins s σ H Q I hw)
def tIf (t : TT) (ta tb : TE) : TE := fun σ H Q => t σ H fun c H1 => if c = true then ta σ H1 Q else tb σ H1 Q
theorem pe_ifExp {c : Expr} (hc : PT X c tA) (ha : PE X a ta) (hb : PE X b tb) : PE X (.IfExp c a b pos) (tIf tA ta tb) := by
  intro pins s σ H Q I h
  refine wpAny_IfExp (thn (hc pins s σ H _ I h) fun d s1 ⟨H1, I1, q1⟩ => ?_)
  cases d with
  | true => exact ha pins s1 σ H1 Q I1 q1
  | false => exact hb pins s1 σ H1 Q I1 q1
end
end L2
namespace L2
open PySem PySem.Spec PyProof.Rows
def SqL (K : PySem.W.Frag) (H : Hp) (a : Addr) (xs : List V) : Prop :=
  Rd H a (.lst xs) ∨
    ∃ (o : Obj) (its : Array Value) (n : Nat), K.lookup a = some o ∧ o.cls = .type "list" ∧ o.dict = none ∧ o.data = .seq its n ∧ its.size ≤ sizeLine ∧ Vals xs its.toList
def SqT (K : PySem.W.Frag) (H : Hp) (a : Addr) (xs : List V) : Prop :=
  Rd H a (.tup xs) ∨
    ∃ (o : Obj) (its : Array Value) (n : Nat), K.lookup a = some o ∧ o.cls = .type "tuple" ∧ o.data = .seq its n ∧ its.size ≤ sizeLine ∧ Vals xs its.toList
def absV : Value → Option V
  | .none => some .non
  | .bool b => some (.bl b)
  | .int i _ => some (.int i)
  | .str x _ => some (.str x)
  | .bytes b _ => some (.byt b)
  | .float b _ => some (.flt b)
  | .ref a => some (.ref a)
  | .type n => some (.ty n)
  | _ => none
theorem RelV.abs {x : V} {u : Value} (r : RelV x u) : absV u = some x := by
  cases x with
  | non => cases r; rfl
  | bl _ => cases r; rfl
  | int _ => obtain ⟨t, rfl⟩ := r; rfl
  | str _ => obtain ⟨t, rfl⟩ := r; rfl
  | byt _ => obtain ⟨t, rfl⟩ := r; rfl
  | flt _ => obtain ⟨t, rfl⟩ := r; rfl
  | ref _ => cases r; rfl
  | ty _ => cases r; rfl
theorem RelV.inj {x y : V} {u : Value} (r : RelV x u) (q : RelV y u) : x = y := Option.some.inj (r.abs.symm.trans q.abs)
theorem Vals.inj : ∀ {xs ys : List V} {us : List Value}, Vals xs us → Vals ys us → xs = ys
  | _, _, _, .nil, .nil => rfl
  | _, _, _, .cons r t, .cons r' t' => by rw [r.inj r', Vals.inj t t']
section
variable {X : Cx} {pins : List (Addr × Obj)} {σ : St} {H : Hp} {s : Shared} {a : Addr} {xs ys : List V}
theorem SqL.of {K : PySem.W.Frag} (h : H a = some (.lst xs)) : SqL K H a xs := .inl (.inl h)
theorem SqT.of {K : PySem.W.Frag} (h : H a = some (.tup xs)) : SqT K H a xs := .inl (.inl h)
theorem Inv.list (I : Inv X pins σ H s) (h : SqL X.K H a xs) : ∃ its : List Value, Vals xs its ∧ PlainL s.heap a its.toArray ∧ xs.length ≤ sizeLine := by
  rcases h with h | ⟨o, its, n, hk, hc, hd, hs, hz, r⟩
  · obtain ⟨z, its, n, r, e⟩ := h.ok I.hok
    exact ⟨its, r, ⟨_, n, e, rfl, rfl, rfl⟩, z⟩
  · refine ⟨its.toList, r, ⟨o, n, I.kIn a o hk, hc, hd, by simpa using hs⟩, ?_⟩
    have e := r.length
    simp only [Array.length_toList] at e
    omega
theorem Inv.tuple (I : Inv X pins σ H s) (h : SqT X.K H a xs) : ∃ its : List Value, Vals xs its ∧ IsTup s.heap a its.toArray ∧ xs.length ≤ sizeLine := by
  rcases h with h | ⟨o, its, n, hk, hc, hs, hz, r⟩
  · obtain ⟨z, its, r, p⟩ := h.ok I.hok
    exact ⟨its, r, p, z⟩
  · refine ⟨its.toList, r, ⟨o, I.kIn a o hk, hc, n, by simpa using hs⟩, ?_⟩
    have e := r.length
    simp only [Array.length_toList] at e
    omega
theorem Inv.list_inj (I : Inv X pins σ H s) (h : SqL X.K H a xs) (h' : SqL X.K H a ys) : xs = ys := by
  obtain ⟨its, r, ⟨o, n, e, _, _, d⟩, _⟩ := I.list h
  obtain ⟨its', r', ⟨o', n', e', _, _, d'⟩, _⟩ := I.list h'
  rw [e] at e'; cases e'
  rw [d] at d'
  injection d' with d1 _
  have : its = its' := by simpa using congrArg Array.toList d1
  subst this
  exact r.inj r'
theorem Inv.tuple_inj (I : Inv X pins σ H s) (h : SqT X.K H a xs) (h' : SqT X.K H a ys) : xs = ys := by
  obtain ⟨its, r, ⟨o, e, _, n, d⟩, _⟩ := I.tuple h
  obtain ⟨its', r', ⟨o', e', _, n', d'⟩, _⟩ := I.tuple h'
  rw [e] at e'; cases e'
  rw [d] at d'
  injection d' with d1 _
  have : its = its' := by simpa using congrArg Array.toList d1
  subst this
  exact r.inj r'
end
abbrev Cx.wish (X : Cx) (E : Value → Shared → Prop) : Cx := { X with xe := E }
abbrev Cx.nox (X : Cx) : Cx := X.wish fun _ _ => False
theorem Cx.Ok.wish {X : Cx} (ok : X.Ok) (E : Value → Shared → Prop) : (X.wish E).Ok :=
  ⟨ok.mod, ok.kind, ok.glob, ok.blt, ok.above, ok.inj, ok.has, ok.cab, ok.hd, ok.frames, ok.stk, ok.exf, ok.bs, ok.bsz, ok.noex, ok.exfs, ok.funs, ok.frf⟩
theorem Cx.Ok.unwish {X : Cx} {E : Value → Shared → Prop} (ok : (X.wish E).Ok) : X.Ok :=
  ⟨ok.mod, ok.kind, ok.glob, ok.blt, ok.above, ok.inj, ok.has, ok.cab, ok.hd, ok.frames, ok.stk, ok.exf, ok.bs, ok.bsz, ok.noex, ok.exfs, ok.funs, ok.frf⟩
section
variable {X : Cx} {pins : List (Addr × Obj)} {σ : St} {H : Hp} {s : Shared} {E : Value → Shared → Prop}
theorem Inv.wish (I : Inv X pins σ H s) (E : Value → Shared → Prop) : Inv (X.wish E) pins σ H s := ⟨I.ok.wish E, I.os, I.bare, I.base, I.loc, I.cell, I.free, I.freeC, I.pin, I.hok, I.len⟩
theorem Inv.unwish (I : Inv (X.wish E) pins σ H s) : Inv X pins σ H s := ⟨I.ok.unwish, I.os, I.bare, I.base, I.loc, I.cell, I.free, I.freeC, I.pin, I.hok, I.len⟩
theorem SP.unwish {D : Ends} {f : Flow} {s' : Shared} (h : SP (X.wish E) pins D f s') : SP X pins D f s' := by
  cases f with
  | next => obtain ⟨σ', H', I, q⟩ := h; exact ⟨σ', H', I.unwish, q⟩
  | brk => obtain ⟨σ', H', I, q⟩ := h; exact ⟨σ', H', I.unwish, q⟩
  | cont => obtain ⟨σ', H', I, q⟩ := h; exact ⟨σ', H', I.unwish, q⟩
  | ret u => obtain ⟨v, σ', H', I, r, q⟩ := h; exact ⟨v, σ', H', I.unwish, r, q⟩
theorem PE.nox {e : Expr} {t : TE} (h : PE X.nox e t) : PE X e t := fun pins s σ H Q I hw =>
  wpAny_mono (h pins s σ H Q (I.wish _) hw) (fun _ _ ⟨v, H', I', r, q⟩ => ⟨v, H', I'.unwish, r, q⟩) fun _ _ z => False.elim z
theorem PT.nox {e : Expr} {t : TT} (h : PT X.nox e t) : PT X e t := fun pins s σ H Q I hw =>
  wpAny_mono (h pins s σ H Q (I.wish _) hw) (fun _ _ ⟨H', I', q⟩ => ⟨H', I'.unwish, q⟩) fun _ _ z => False.elim z
theorem PSs.nox {st : List Stmt} {t : TS} (h : PSs X.nox st t) : PSs X st t := fun pins s σ H D I hw =>
  wpAny_mono (h pins s σ H D (I.wish _) hw) (fun _ _ q => q.unwish) fun _ _ z => False.elim z
end
section
variable {X : Cx} {st : Stmt} {rest : List Stmt} {t u : TS} {e : Expr} {te : TE} {pos : Pos}
def tNext : TS := fun D σ H => D.nx σ H
def tSeq (t u : TS) : TS := fun D σ H => t { D with nx := u D } σ H
theorem pss_nil : PSs X [] tNext := fun _ _ σ H _ I h => wpAny_execs_nil ⟨σ, H, I, h⟩
theorem pss_cons (h1 : PS X st t) (h2 : PSs X rest u) : PSs X (st :: rest) (tSeq t u) := by
  intro pins s σ H D I h
  refine wpAny_execs_cons (thn (h1 pins s σ H { D with nx := u D } I h) fun f s1 q => ?_)
  cases f with
  | next =>
    obtain ⟨σ', H', I', q⟩ := q
    exact h2 pins s1 σ' H' D I' q
  | ret v => exact q
  | brk => exact q
  | cont => exact q
theorem pss_one (h1 : PS X st t) : PSs X [st] t := by
  intro pins s σ H D I h
  refine wpAny_execs_cons (thn (h1 pins s σ H D I h) fun f s1 q => ?_)
  cases f with
  | next => exact wpAny_execs_nil q
  | ret v => exact q
  | brk => exact q
  | cont => exact q
theorem Inv.quiet {pins : List (Addr × Obj)} {σ : St} {H : Hp} {s : Shared} (I : Inv X pins σ H s) : interactive X.env = false := by simp [interactive, I.ok.kind]
def tDrop (te : TE) : TS := fun D σ H => te σ H fun _ H1 => D.nx σ H1
theorem ps_expr (he : PE X e te) (hs : swapsWith e none pos.line X.env = pure false := by rfl) : PS X (.Expr e pos) (tDrop te) := by
  intro pins s σ H D I h
  exact wpAny_Expr_any (thn (he pins s σ H _ I h) fun v s1 ⟨x, H1, I1, r1, q1⟩ => ⟨σ, H1, I1, q1⟩) I.quiet hs
def tRet (te : TE) : TS := fun D σ H => te σ H D.rt
theorem ps_ret (he : PE X e te) : PS X (.Return (some e) pos) (tRet te) := by
  intro pins s σ H D I h
  exact wpAny_Return_some (thn (he pins s σ H _ I h) fun v s1 ⟨x, H1, I1, r1, q1⟩ => ⟨x, σ, H1, I1, r1, q1⟩)
def tIfS (c : TT) (t u : TS) : TS := fun D σ H => c σ H fun b H1 => if b = true then t D σ H1 else u D σ H1
theorem ps_if {c : Expr} {a b : List Stmt} {tc : TT} (hc : PT X c tc) (ha : PSs X a t) (hb : PSs X b u) : PS X (.If c a b pos) (tIfS tc t u) := by
  intro pins s σ H D I h
  refine wpAny_If (thn (hc pins s σ H _ I h) fun d s1 ⟨H1, I1, q1⟩ => ?_)
  cases d with
  | true => exact ha pins s1 σ H1 D I1 q1
  | false => exact hb pins s1 σ H1 D I1 q1
end
abbrev TG := V → St → Hp → (St → Hp → Prop) → Prop
abbrev TGs := List V → St → Hp → (St → Hp → Prop) → Prop
def PG (X : Cx) (target : Expr) (t : TG) : Prop :=
  ∀ (pins : List (Addr × Obj)) (s : Shared) (σ : St) (H : Hp) (v : V) (u : Value) (Q : St → Hp → Prop), Inv X pins σ H s → RelV v u → t v σ H Q →
    wpAny (model X.prog X.w) X.A (assign target X.env u) (fun _ s' => ∃ σ' H', Inv X pins σ' H' s' ∧ Q σ' H') X.xe s
def PGs (X : Cx) (ts : List Expr) (t : TGs) : Prop :=
  ∀ (pins : List (Addr × Obj)) (s : Shared) (σ : St) (H : Hp) (vs : List V) (us : List Value) (Q : St → Hp → Prop), Inv X pins σ H s → Vals vs us → t vs σ H Q →
    wpAny (model X.prog X.w) X.A (assignInOrder ((assignEach ts X.env).map (·.2)) us) (fun _ s' => ∃ σ' H', Inv X pins σ' H' s' ∧ Q σ' H') X.xe s
section
variable {X : Cx} {pos : Pos}
def gName (i : Nat) : TG := fun v σ H Q => Q (σ.set i (some v)) H
theorem pg_name {i : Nat} {x : Str} (hN : X.N.Nodup) (hi : X.N[i]? = some x) (hx : Loc X.env.scope x) (hf : X.fn x = true ∨ X.env.scope.names.lookup x = some .local := by first | exact .inl rfl | exact .inr rfl | assumption) : PG X (.Name x pos) (gName i) := by
  intro pins s σ H v u Q I r h
  exact wpAny_assign_Name (store_ok I hN hi hx r (fun s' I' => ⟨_, H, I', h⟩) hf)
def gNil : TGs := fun vs σ H Q => vs = [] ∧ Q σ H
def gCons (t : TG) (u : TGs) : TGs := fun vs σ H Q => ∃ v r, vs = v :: r ∧ t v σ H fun σ' H' => u r σ' H' Q
theorem pgs_nil : PGs X [] gNil := by
  intro pins s σ H vs us Q I r h
  obtain ⟨e, h⟩ := h
  subst e
  cases r
  exact assignInOrder_nil ⟨σ, H, I, h⟩
theorem pgs_cons {e : Expr} {es : List Expr} {t : TG} {u : TGs} (h1 : PG X e t) (h2 : PGs X es u)
    (hs : (assignEach (e :: es) X.env).map (·.2) = assign e X.env :: (assignEach es X.env).map (·.2) := by rfl) : PGs X (e :: es) (gCons t u) := by
  intro pins s σ H vs us Q I r h
  obtain ⟨v, vr, e1, h⟩ := h
  subst e1
  cases r with
  | cons r rr =>
    rw [hs]
    refine assignInOrder_cons (thn (h1 pins s σ H _ _ _ I r h) fun _ s1 ⟨σ1, H1, I1, q1⟩ => ?_)
    exact h2 pins s1 σ1 H1 _ _ Q I1 rr q1
def gTup (K : PySem.W.Frag) (n : Nat) (t : TGs) : TG := fun v σ H Q => ∃ a xs, v = .ref a ∧ SqT K H a xs ∧ xs.length = n ∧ t xs σ H Q
theorem pg_tup {es : List Expr} {k : Nat} {t : TGs} {n : Nat} (hc : X.calm = true) (h : PGs X es t)
    (hn : (assignEach es X.env).length = n := by rfl) (hst : (assignEach es X.env).findIdx? (·.1) = none := by rfl) : PG X (.Tuple es k pos) (gTup X.K n t) := by
  intro pins s σ H v u Q I r hw
  obtain ⟨a, xs, e1, hq, hl, hw⟩ := hw
  subst e1
  cases r
  obtain ⟨its, rv, ht, hz⟩ := I.tuple hq
  refine assign_Tuple_tuple (I.ok.hd hc) ht (by simp [hn, ← hl, rv.length]) hst fun h' hx => ?_
  have I1 : Inv X pins σ H { s with heap := h' } := I.kept (t' := s.toks) fun b o e => hx b o (Nat.ne_of_lt (Heap.lt_size e)) e
  exact h pins _ σ H xs _ Q I1 (by simpa using rv) hw
def tAsg (te : TE) (g : TG) : TS := fun D σ H => te σ H fun x H1 => g x σ H1 D.nx
theorem ps_asg {tg e : Expr} {te : TE} {g : TG} (he : PE X e te) (hg : PG X tg g) (hs : swapsWithSole [tg] e pos.line X.env = pure false := by rfl) (hw : swappedStores [tg] e X.env = pure none := by rfl)
    (h1 : (assignEach [tg] X.env).map (·.2) = [assign tg X.env] := by rfl) : PS X (.Assign [tg] e pos) (tAsg te g) := by
  intro pins s σ H D I h
  refine wpAny_Assign_stores (thn (he pins s σ H _ I h) fun v s1 ⟨x, H1, I1, r1, q1⟩ => ?_) hs hw
  rw [h1]
  exact thn (hg pins s1 σ H1 x v _ I1 r1 q1) fun _ s2 q => q
theorem ps_set {i : Nat} {x : Str} {e : Expr} {te : TE} {pos' : Pos} (hN : X.N.Nodup) (hi : X.N[i]? = some x) (hx : Loc X.env.scope x) (he : PE X e te) (hs : swapsWith e (some (.Name x pos')) pos.line X.env = pure false := by rfl) (hf : X.fn x = true ∨ X.env.scope.names.lookup x = some .local := by first | exact .inl rfl | exact .inr rfl | assumption) :
    PS X (.Assign [.Name x pos'] e pos) (tAsg te (gName i)) := by
  intro pins s σ H D I h
  refine wpAny_Assign_Name (thn (he pins s σ H _ I h) fun v s1 ⟨y, H1, I1, r1, q1⟩ => ?_) hs
  exact store_ok I1 hN hi hx r1 (fun s2 I2 => ⟨_, H1, I2, q1⟩) hf
end
section
variable {X : Cx} {pos : Pos}
def tWhile (c : TT) (tb : TS) : TS := fun D σ H => ∃ W : Nat → St → Hp → Prop, (∃ m, W m σ H) ∧ ∀ m σ H, W m σ H →
  c σ H fun b H1 => if b = true then ∃ N : St → Hp → Prop, (∀ σ' H', N σ' H' → ∃ m', m' < m ∧ W m' σ' H') ∧ tb { D with nx := N, ct := N, bk := D.nx } σ H1 else D.nx σ H1
theorem ps_while {c : Expr} {body : List Stmt} {tc : TT} {tb : TS} (hp : PassesOwn (model X.prog X.w) X.A X.env X.xe) (hc : PT X c tc) (hb : PSs X body tb) : PS X (.While c body [] pos) (tWhile tc tb) := by
  intro pins s σ H D I h
  obtain ⟨W, ⟨m0, w0⟩, turn⟩ := h
  refine wpAny_While (codeAny_whileLoop (fun n s' => ∃ σ' H', Inv X pins σ' H' s' ∧ W n σ' H') ?_ m0 ⟨σ, H, I, w0⟩)
  rintro n s1 ⟨σ1, H1, I1, w1⟩
  refine wpAny_passesOwn hp (thn (hc pins s1 σ1 H1 _ I1 (turn n σ1 H1 w1)) fun b s2 ⟨H2, I2, q2⟩ => ?_)
  cases b with
  | true =>
    obtain ⟨N, hN, q2⟩ := q2
    rw [if_pos rfl]
    refine wpAny_passesOwn hp (thn (hb pins s2 σ1 H2 _ I2 q2) fun f s3 q3 => ?_)
    cases f with
    | next =>
      obtain ⟨σ3, H3, I3, n3⟩ := q3
      obtain ⟨m', hm, w3⟩ := hN σ3 H3 n3
      exact ⟨m', hm, σ3, H3, I3, w3⟩
    | cont =>
      obtain ⟨σ3, H3, I3, n3⟩ := q3
      obtain ⟨m', hm, w3⟩ := hN σ3 H3 n3
      exact ⟨m', hm, σ3, H3, I3, w3⟩
    | brk => exact q3
    | ret v => exact q3
  | false =>
    rw [if_neg Bool.false_ne_true]
    exact wpAny_execs_nil ⟨σ1, H2, I2, q2⟩
end
structure It where
  go : Nat → Hp → Prop
  yld : Nat → Hp → V → Hp → Prop
  stop : Nat → Hp → Prop
def FpOk (X : Cx) (pins : List (Addr × Obj)) (H : Hp) (b : Addr) : Prop :=
  H b = none ∧ b ≠ X.env.locals ∧ b ∉ X.fs ∧ (b ∈ X.ex ∨ X.s₀.heap.objs.size ≤ b) ∧ (∀ x c, X.env.cells.lookup x = some c → c ≠ b) ∧ ∀ p ∈ X.pn ++ pins, p.1 ≠ b
theorem Inv.fpOk {X : Cx} {pins : List (Addr × Obj)} {σ : St} {H H' : Hp} {s : Shared} {b : Addr} (I : Inv X pins σ H s) (hb : s.heap.objs.size ≤ b) (hn : H' b = none) : FpOk X pins H' b := by
  refine ⟨hn, Nat.ne_of_gt (Nat.lt_of_lt_of_le I.lt hb), I.nofs hb, .inr (Nat.le_trans I.sz hb), fun x c e z => ?_, fun p hp z => ?_⟩
  · obtain ⟨v, q⟩ := I.cell x c e
    exact absurd (Nat.lt_of_lt_of_le q.lt (by rw [z]; exact hb)) (Nat.lt_irrefl _)
  · exact absurd (Nat.lt_of_lt_of_le (Heap.lt_size (I.pin p hp).1) (by rw [z]; exact hb)) (Nat.lt_irrefl _)
structure Turn (P : Program) (w : World) (K : PySem.W.Frag) (tg : Expr) (J : It) (fp : List Addr) (it : Addr) (tn : Nat → Heap → Prop) : Prop where
  mem : it ∈ fp
  obj : ∀ i h, tn i h → ∀ b ∈ fp, ∃ o, h.get? b = some o ∧ ∀ v, o.data ≠ .cell v
  keep : ∀ i h h', tn i h → (∀ b ∈ fp, ∀ o, h.get? b = some o → h'.get? b = some o) → tn i h'
  item : ∀ (X : Cx), X.prog = P → X.w = w → X.K = K → X.calm = true → ∀ (i : Nat) (pins : List (Addr × Obj)) (s : Shared) (σ : St) (H : Hp) (E : Value → Shared → Prop), Inv X pins σ H s → (∀ b ∈ fp, FpOk X pins H b) → tn i s.heap → J.go i H →
    wpAny (model P w) X.A (pyNext (.ref it)) (fun r s1 => ∃ u, r = some u ∧
      wpAny (model P w) X.A (letOwnedTupleGo tg (.ref it) u) (fun _ s2 => ∃ x H', Inv X pins σ H' s2 ∧ RelV x u ∧ J.yld i H x H' ∧ tn (i + 1) s2.heap ∧ ∀ b ∈ fp, H' b = none) E s1) E s
  done : ∀ (X : Cx), X.prog = P → X.w = w → X.K = K → X.calm = true → ∀ (i : Nat) (pins : List (Addr × Obj)) (s : Shared) (σ : St) (H : Hp) (E : Value → Shared → Prop), Inv X pins σ H s → (∀ b ∈ fp, FpOk X pins H b) → tn i s.heap → J.stop i H →
    wpAny (model P w) X.A (pyNext (.ref it)) (fun r s1 => r = none ∧ Inv X pins σ H s1) E s
  self : ∀ (A : Around) (i : Nat) (s : Shared) (Q : Value → Shared → Prop) (E : Value → Shared → Prop), tn i s.heap → Q (.ref it) s → wpAny (model P w) A (pyIter (.ref it)) Q E s
abbrev TI := St → Hp → (It → Hp → Prop) → Prop
def PIE (X : Cx) (pins : List (Addr × Obj)) (σ : St) (tg : Expr) (R : It → Hp → Prop) (itv : Value) (s2 : Shared) : Prop :=
  ∃ (it : Addr) (fp : List Addr) (tn : Nat → Heap → Prop) (J : It) (H' : Hp), itv = .ref it ∧ Inv X pins σ H' s2 ∧ Turn X.prog X.w X.K tg J fp it tn ∧ tn 0 s2.heap ∧ (∀ b ∈ fp, FpOk X pins H' b) ∧ R J H'
def PI (X : Cx) (tg iter : Expr) (wi : TI) : Prop :=
  ∀ (pins : List (Addr × Obj)) (s : Shared) (σ : St) (H : Hp) (R : It → Hp → Prop), Inv X pins σ H s → wi σ H R →
    wpAny (model X.prog X.w) X.A (eval iter X.env) (fun v s1 => wpAny (model X.prog X.w) X.A (pyIter v) (PIE X pins σ tg R) X.xe s1) X.xe s
theorem go_of {M : Model} {A : Around} {E : Value → Shared → Prop} {s : Shared} {tg : Expr} {it : Addr} {u : Value} {o : Obj} {n : String} {vs : Array Value} {Q : Unit → Shared → Prop} (ho : s.heap.get? it = some o) (hc : o.cls = .type n) (hd : o.data = .fields vs)
    (hn : ["enumerate", "zip", "dict_itemiterator", "dict_reverseitemiterator", "odict_iterator", "itertools.zip_longest", "itertools.pairwise"].contains n = false) (hQ : Q () s) : wpAny M A (letOwnedTupleGo tg (.ref it) u) Q E s := by
  unfold letOwnedTupleGo
  cases tg <;> first
    | exact wpAny_pure hQ
    | (cases u <;> first
        | exact wpAny_pure hQ
        | (refine wpAny_bind (wpAny_load ho ?_)
           rw [hc, hd]
           show wpAny M A (if (["enumerate", "zip", "dict_itemiterator", "dict_reverseitemiterator", "odict_iterator", "itertools.zip_longest", "itertools.pairwise"].contains n && vs[0]? == some (rawInt _)) = true then _ else _) Q E s
           rw [if_neg (by intro h; rw [hn, Bool.false_and] at h; cases h)]
           exact wpAny_pure hQ))
def Itl (K : PySem.W.Frag) (a : Addr) : It :=
  ⟨fun i H => ∃ xs x, SqL K H a xs ∧ xs[i]? = some x, fun i H x H' => H' = H ∧ ∀ xs, SqL K H a xs → xs[i]? = some x, fun i H => ∃ xs, SqL K H a xs ∧ xs.length ≤ i⟩
def Itt (K : PySem.W.Frag) (a : Addr) : It :=
  ⟨fun i H => ∃ xs x, SqT K H a xs ∧ xs[i]? = some x, fun i H x H' => H' = H ∧ ∀ xs, SqT K H a xs → xs[i]? = some x, fun i H => ∃ xs, SqT K H a xs ∧ xs.length ≤ i⟩
def Itr (lo : Int) (n : Nat) : It := ⟨fun i _ => i < n, fun i H x H' => H' = H ∧ x = .int (lo + i), fun i _ => n ≤ i⟩
theorem turn_list {P : Program} {w : World} {K : PySem.W.Frag} {tg : Expr} (a it : Addr) : Turn P w K tg (Itl K a) [it] it (fun i h => h.IsListIter it a i) where
  mem := by simp
  obj := fun i h st b hb => by
    have e : b = it := by simpa using hb
    subst e
    obtain ⟨o, e, c, d⟩ := st
    exact ⟨o, e, fun v z => by rw [d] at z; cases z⟩
  keep := fun i h h' st k => st.at fun o e => k it (by simp) o e
  item := by
    intro X hP hw hK hc i pins s σ H E I hf st hg
    subst hP hw hK
    obtain ⟨xs, x, hq, hx⟩ := hg
    obtain ⟨its, rv, p, hz⟩ := I.list hq
    obtain ⟨u, hu, ru⟩ := rv.get hx
    obtain ⟨f0, f1, f2, f3, f4, f5⟩ := hf it (by simp)
    refine wpAny_pyNext_list_item st p.isList (x := u) (by simpa using hu) fun h' st' sb => ?_
    have I1 : Inv X pins σ H { s with heap := h' } := I.turned (t' := s.toks) (fun b o hb e => (sb.2 b hb).trans e) f0 f1 f3 f4 f5
    obtain ⟨o, e, c, d⟩ := id st'
    exact ⟨u, rfl, go_of (s := { s with heap := h' }) e c d (by decide) ⟨x, H, I1, ru, ⟨rfl, fun ys hy => by rw [I.list_inj hy hq]; exact hx⟩, st', fun b hb => (hf b hb).1⟩⟩
  done := by
    intro X hP hw hK hc i pins s σ H E I hf st hg
    subst hP hw hK
    obtain ⟨xs, hq, hx⟩ := hg
    obtain ⟨its, rv, p, hz⟩ := I.list hq
    obtain ⟨f0, f1, f2, f3, f4, f5⟩ := hf it (by simp)
    have hl := rv.length
    exact wpAny_pyNext_list_end (I.ok.hd hc) st p.isList (by simp; omega) fun h' eb => ⟨rfl, I.turned (t' := s.toks) (fun b o hb e => eb b o hb e) f0 f1 f3 f4 f5⟩
  self := fun _ _ _ _ _ st h => wpAny_pyIter_listiter st h
theorem turn_tuple {P : Program} {w : World} {K : PySem.W.Frag} {tg : Expr} (a it : Addr) : Turn P w K tg (Itt K a) [it] it (fun i h => h.IsTupleIter it a i) where
  mem := by simp
  obj := fun i h st b hb => by
    have e : b = it := by simpa using hb
    subst e
    obtain ⟨o, e, c, d⟩ := st
    exact ⟨o, e, fun v z => by rw [d] at z; cases z⟩
  keep := fun i h h' st k => st.at fun o e => k it (by simp) o e
  item := by
    intro X hP hw hK hc i pins s σ H E I hf st hg
    subst hP hw hK
    obtain ⟨xs, x, hq, hx⟩ := hg
    obtain ⟨its, rv, p, hz⟩ := I.tuple hq
    obtain ⟨u, hu, ru⟩ := rv.get hx
    obtain ⟨f0, f1, f2, f3, f4, f5⟩ := hf it (by simp)
    refine wpAny_pyNext_tuple_item st (show s.heap.IsTuple a its.toArray from p) (x := u) (by simpa using hu) fun h' st' sb => ?_
    have I1 : Inv X pins σ H { s with heap := h' } := I.turned (t' := s.toks) (fun b o hb e => (sb.2 b hb).trans e) f0 f1 f3 f4 f5
    obtain ⟨o, e, c, d⟩ := id st'
    exact ⟨u, rfl, go_of (s := { s with heap := h' }) e c d (by decide) ⟨x, H, I1, ru, ⟨rfl, fun ys hy => by rw [I.tuple_inj hy hq]; exact hx⟩, st', fun b hb => (hf b hb).1⟩⟩
  done := by
    intro X hP hw hK hc i pins s σ H E I hf st hg
    subst hP hw hK
    obtain ⟨xs, hq, hx⟩ := hg
    obtain ⟨its, rv, p, hz⟩ := I.tuple hq
    obtain ⟨f0, f1, f2, f3, f4, f5⟩ := hf it (by simp)
    have hl := rv.length
    exact wpAny_pyNext_tuple_end (I.ok.hd hc) st (show s.heap.IsTuple a its.toArray from p) (by simp; omega) fun h' eb => ⟨rfl, I.turned (t' := s.toks) (fun b o hb e => eb b o hb e) f0 f1 f3 f4 f5⟩
  self := fun _ _ _ _ _ st h => wpAny_pyIter_tupleiter st h
theorem turn_range {P : Program} {w : World} {K : PySem.W.Frag} {tg : Expr} (it : Addr) (lo : Int) (n : Nat) : Turn P w K tg (Itr lo n) [it] it (fun i h => IsRangeIter h it (lo + (i : Nat) * 1) ((n : Int) - (i : Nat)) 1) where
  mem := by simp
  obj := fun i h st b hb => by
    have e : b = it := by simpa using hb
    subst e
    exact ⟨_, st, fun v z => by
      have z' : Data.fields _ = Data.cell v := z
      cases z'⟩
  keep := fun i h h' st k => k it (by simp) _ st
  item := by
    intro X hP hw hK hc i pins s σ H E I hf st hg
    subst hP hw hK
    obtain ⟨f0, f1, f2, f3, f4, f5⟩ := hf it (by simp)
    have W := Walks.range (prog := X.prog) (w := X.w) (I.ok.hd hc) it lo 1 n
    refine W.item i s _ _ hg st fun v h' tk hv st' kk => ?_
    obtain ⟨t, rfl⟩ := hv
    have I1 : Inv X pins σ H { s with heap := h', toks := tk } := I.turned (fun b o hb e => kk b o (by simpa using hb) e) f0 f1 f3 f4 f5
    refine ⟨_, rfl, go_of (s := { s with heap := h', toks := tk }) (n := "range_iterator") st' rfl rfl (by decide) ⟨.int (lo + i), H, I1, ⟨t, ?_⟩, ⟨rfl, rfl⟩, st', fun b hb => (hf b hb).1⟩⟩
    rw [Int.mul_one]
  done := by
    intro X hP hw hK hc i pins s σ H E I hf st hg
    subst hP hw hK
    obtain ⟨f0, f1, f2, f3, f4, f5⟩ := hf it (by simp)
    exact wpAny_pyNext_range_end (I.ok.hd hc) st (by have : n ≤ i := hg; omega) fun h' eb => ⟨rfl, I.turned (t' := s.toks) (fun b o hb e => eb b o hb e) f0 f1 f3 f4 f5⟩
  self := fun _ _ _ _ _ st h => wpAny_pyIter_rangeiter st h
end L2
namespace L2
open PySem PySem.Spec PyProof.Rows
section
variable {X : Cx} {tg : Expr}
def iList (K : PySem.W.Frag) (tl : TE) : TI := fun σ H R => tl σ H fun x H1 => ∃ a, x = .ref a ∧ (∃ xs, SqL K H1 a xs) ∧ R (Itl K a) H1
def iTup (K : PySem.W.Frag) (tl : TE) : TI := fun σ H R => tl σ H fun x H1 => ∃ a, x = .ref a ∧ (∃ xs, SqT K H1 a xs) ∧ R (Itt K a) H1
theorem pi_list {l : Expr} {tl : TE} (hl : PE X l tl) : PI X tg l (iList X.K tl) := by
  intro pins s σ H R I h
  refine thn (hl pins s σ H _ I h) fun v s1 ⟨x, H1, I1, r1, q1⟩ => ?_
  obtain ⟨a, e, ⟨xs, hq⟩, q⟩ := q1
  subst e
  cases r1
  obtain ⟨its, rv, p, hz⟩ := I1.list hq
  refine wpAny_pyIter_list p.isList ?_
  refine ⟨s1.heap.objs.size, [s1.heap.objs.size], _, _, H1, rfl, I1.kept (t' := s1.toks) fun b o e => Heap.get?_push_of_some _ e, turn_list a _, ⟨_, Heap.get?_push_size _ rfl, rfl, rfl⟩, fun b hb => ?_, q⟩
  have e : b = s1.heap.objs.size := by simpa using hb
  subst e
  exact I1.fpOk (Nat.le_refl _) (I1.hok.fresh (Nat.le_refl _))
theorem pi_tup {l : Expr} {tl : TE} (hl : PE X l tl) : PI X tg l (iTup X.K tl) := by
  intro pins s σ H R I h
  refine thn (hl pins s σ H _ I h) fun v s1 ⟨x, H1, I1, r1, q1⟩ => ?_
  obtain ⟨a, e, ⟨xs, hq⟩, q⟩ := q1
  subst e
  cases r1
  obtain ⟨its, rv, p, hz⟩ := I1.tuple hq
  refine wpAny_pyIter_tuple (show s1.heap.IsTuple a its.toArray from p) ?_
  refine ⟨s1.heap.objs.size, [s1.heap.objs.size], _, _, H1, rfl, I1.kept (t' := s1.toks) fun b o e => Heap.get?_push_of_some _ e, turn_tuple a _, ⟨_, Heap.get?_push_size _ rfl, rfl, rfl⟩, fun b hb => ?_, q⟩
  have e : b = s1.heap.objs.size := by simpa using hb
  subst e
  exact I1.fpOk (Nat.le_refl _) (I1.hok.fresh (Nat.le_refl _))
theorem range_it {pins : List (Addr × Obj)} {σ : St} {H : Hp} {s : Shared} {R : It → Hp → Prop} {E : Value → Shared → Prop} {lo hi : Int} {t u v : Tok} {tk : Nat} (I : Inv X pins σ H s) (h1 : -(2 ^ 62) ≤ lo) (h2 : lo < 2 ^ 62) (h3 : -(2 ^ 62) ≤ hi) (h4 : hi < 2 ^ 62)
    (q : R (Itr lo (hi - lo).toNat) H) : wpAny (model X.prog X.w) X.A (pyIter (.ref s.heap.objs.size)) (PIE X pins σ tg R) E { s with heap := s.heap.push { cls := .type "range", data := .fields #[.int lo t, .int hi u, .int 1 v] }, toks := tk } := by
  refine wpAny_pyIter_range (IsRange.new ..) (small_one h1 h2 h3 h4) ?_
  have I1 : Inv X pins σ H { s with heap := s.heap.push { cls := .type "range", data := .fields #[.int lo t, .int hi u, .int 1 v] }, toks := tk } := I.kept fun b o e => Heap.get?_push_of_some _ e
  refine ⟨(s.heap.push { cls := .type "range", data := .fields #[.int lo t, .int hi u, .int 1 v] }).objs.size, [(s.heap.push { cls := .type "range", data := .fields #[.int lo t, .int hi u, .int 1 v] }).objs.size], _, _, H, rfl,
    I1.kept (t' := tk) fun b o e => Heap.get?_push_of_some _ e, turn_range _ lo (hi - lo).toNat, ?_, fun b hb => ?_, q⟩
  · have e1 : lo + ((0 : Nat) : Int) * 1 = lo := by simp
    have e2 : (((hi - lo).toNat : Nat) : Int) - ((0 : Nat) : Int) = Builtin.Range.rangeSize lo hi 1 := by rw [rangeSize_one]; split <;> omega
    show IsRangeIter _ _ (lo + ((0 : Nat) : Int) * 1) ((((hi - lo).toNat : Nat) : Int) - ((0 : Nat) : Int)) 1
    rw [e1, e2]
    exact Heap.get?_push_size _ rfl
  · have e : b = (s.heap.push { cls := .type "range", data := .fields #[.int lo t, .int hi u, .int 1 v] }).objs.size := by simpa using hb
    subst e
    exact I1.fpOk (Nat.le_refl _) (I1.hok.fresh (Nat.le_refl _))
def iRng1 (ta : TA) : TI := fun σ H R => ta σ H fun vs H1 => ∃ j : Int, vs = [.int j] ∧ -(2 ^ 62) ≤ j ∧ j < 2 ^ 62 ∧ R (Itr 0 j.toNat) H1
theorem pi_range1 {a : Expr} {ta : TA} {p pos : Pos} (hg : Gl X "range") (hm : X.mg "range" = none) (ha : PA X [a] ta) (hs : starEach [a] X.env = [(false, eval a X.env)] := by rfl) : PI X tg (.Call (.Name "range" p) [a] [] pos) (iRng1 ta) := by
  intro pins s σ H R I h
  refine Call_ (ld_blt I hg hm boot_range (PyProof.Rows.callWith_type1 (thn (ha pos pins s σ H _ I h) fun us s1 ⟨vs, H1, I1, r1, q1⟩ => ?_) hs rfl))
  obtain ⟨j, e, q1, q2, q⟩ := q1
  subst e
  cases r1 with
  | cons r rr =>
    cases rr
    obtain ⟨t, rfl⟩ := r
    exact call_range_1 (range_it I1 (by omega) (by omega) q1 q2 (by simpa using q))
def tFor (wi : TI) (g : TG) (tb : TS) : TS := fun D σ H => wi σ H fun J H1 => ∃ W : Nat → Nat → St → Hp → Prop, (∃ m, W 0 m σ H1) ∧ ∀ i m σ H, W i m σ H →
  (J.stop i H ∧ D.nx σ H) ∨ (J.go i H ∧ ∃ N : St → Hp → Prop, (∀ σ' H', N σ' H' → ∃ m', m' < m ∧ W (i + 1) m' σ' H') ∧ ∀ x H', J.yld i H x H' → g x σ H' fun σ2 H2 => tb { D with nx := N, ct := N, bk := D.nx } σ2 H2)
def pinsAt (fp : List Addr) (h : Heap) : List (Addr × Obj) := fp.filterMap fun b => (h.get? b).map fun o => (b, o)
theorem mem_pinsAt {fp : List Addr} {h : Heap} {b : Addr} {o : Obj} (hb : b ∈ fp) (e : h.get? b = some o) : (b, o) ∈ pinsAt fp h := List.mem_filterMap.mpr ⟨b, hb, by rw [e]; rfl⟩
theorem of_pinsAt {fp : List Addr} {h : Heap} {p : Addr × Obj} (hp : p ∈ pinsAt fp h) : p.1 ∈ fp ∧ h.get? p.1 = some p.2 := by
  obtain ⟨b, hb, e⟩ := List.mem_filterMap.mp hp
  cases q : h.get? b with
  | none => rw [q] at e; cases e
  | some o =>
    rw [q] at e
    have e' : (b, o) = p := Option.some.inj e
    subst e'
    exact ⟨hb, q⟩
theorem Inv.pinned {pins : List (Addr × Obj)} {σ : St} {H : Hp} {s : Shared} {fp : List Addr} (I : Inv X pins σ H s) (hf : ∀ b ∈ fp, FpOk X pins H b) (ho : ∀ b ∈ fp, ∃ o, s.heap.get? b = some o ∧ ∀ v, o.data ≠ .cell v) : Inv X (pins ++ pinsAt fp s.heap) σ H s :=
  I.pins_of fun p hp => (List.mem_append.mp hp).elim (fun z => I.pin p (List.mem_append_right _ z)) fun z => by
    obtain ⟨hb, e⟩ := of_pinsAt z
    obtain ⟨f0, f1, f2, _⟩ := hf p.1 hb
    obtain ⟨o, e', d⟩ := ho p.1 hb
    rw [e] at e'; cases e'
    exact ⟨e, f0, f1, f2, d⟩
theorem Inv.unpinned {pins pl : List (Addr × Obj)} {σ : St} {H : Hp} {s : Shared} (I : Inv X (pins ++ pl) σ H s) : Inv X pins σ H s := I.pins_of fun p hp => I.pin p (List.mem_append_right _ (List.mem_append_left _ hp))
theorem ps_for {iter : Expr} {body : List Stmt} {wi : TI} {g : TG} {tb : TS} {pos : Pos} (hp : PassesOwn (model X.prog X.w) X.A X.env X.xe) (hc : X.calm = true) (hi : PI X tg iter wi) (hg : PG X tg g) (hb : PSs X body tb)
    (hs : ∀ x, foldedSetIterable iter X.env x = pure x := by intro _; rfl) : PS X (.For tg iter body [] pos) (tFor wi g tb) := by
  intro pins s σ H D I h
  refine wpAny_For (thn (hi pins s σ H _ I h) fun v s1 h1 => thn h1 fun itv s2 h2 => ?_) hs
  obtain ⟨it, fp, tn, J, H2, e, I2, T, st2, f2, W, ⟨m0, w0⟩, turn⟩ := h2
  subst e
  have stat : ∀ {H' : Hp}, (∀ b ∈ fp, H' b = none) → ∀ b ∈ fp, FpOk X pins H' b := fun hn b hb => ⟨hn b hb, (f2 b hb).2⟩
  refine codeAny_forLoop_any (fun n s' => ∃ i σ' H', Inv X pins σ' H' s' ∧ tn i s'.heap ∧ (∀ b ∈ fp, H' b = none) ∧ W i n σ' H') ?_ m0 ⟨0, σ, H2, I2, st2, fun b hb => (f2 b hb).1, w0⟩
  rintro n s3 ⟨i, σ3, H3, I3, st3, fr3, w3⟩
  rcases turn i n σ3 H3 w3 with ⟨stop, qn⟩ | ⟨go, N, hN, step⟩
  · refine wpAny_passesOwn hp (thn (T.done X rfl rfl rfl hc i pins s3 σ3 H3 X.xe I3 (stat fr3) st3 stop) fun r s4 ⟨hr, I4⟩ => ?_)
    subst hr
    exact wpAny_execs_nil ⟨σ3, H3, I4, qn⟩
  · refine wpAny_passesOwn hp (thn (T.item X rfl rfl rfl hc i pins s3 σ3 H3 X.xe I3 (stat fr3) st3 go) fun r s4 ⟨u, hr, h4⟩ => ?_)
    subst hr
    refine wpAny_passesOwn hp (thn h4 fun _ s5 ⟨x, H5, I5, r5, y5, st5, fr5⟩ => ?_)
    have I5' := I5.pinned (stat fr5) (T.obj _ _ st5)
    refine wpAny_passesOwn hp (thn (hg _ s5 σ3 H5 x u _ I5' r5 (step x H5 y5)) fun _ s6 ⟨σ6, H6, I6, q6⟩ => ?_)
    refine wpAny_passesOwn hp (thn (hb _ s6 σ6 H6 _ I6 q6) fun f s7 q7 => ?_)
    have again : ∀ {σ7 : St} {H7 : Hp}, Inv X (pins ++ pinsAt fp s5.heap) σ7 H7 s7 → N σ7 H7 → ∃ m, m < n ∧ ∃ i σ' H', Inv X pins σ' H' s7 ∧ tn i s7.heap ∧ (∀ b ∈ fp, H' b = none) ∧ W i m σ' H' := fun {σ7 H7} I7 n7 => by
      obtain ⟨m', hm, w7⟩ := hN σ7 H7 n7
      refine ⟨m', hm, i + 1, σ7, H7, I7.unpinned, T.keep _ _ _ st5 fun b hb o e => (I7.pin (b, o) (List.mem_append_right _ (List.mem_append_right _ (mem_pinsAt hb e)))).1, fun b hb => ?_, w7⟩
      obtain ⟨o, e, d⟩ := T.obj _ _ st5 b hb
      exact (I7.pin (b, o) (List.mem_append_right _ (List.mem_append_right _ (mem_pinsAt hb e)))).2.1
    cases f with
    | next => obtain ⟨σ7, H7, I7, n7⟩ := q7; exact again I7 n7
    | cont => obtain ⟨σ7, H7, I7, n7⟩ := q7; exact again I7 n7
    | brk => obtain ⟨σ7, H7, I7, q7⟩ := q7; exact ⟨σ7, H7, I7.unpinned, q7⟩
    | ret v => obtain ⟨x7, σ7, H7, I7, r7, q7⟩ := q7; exact ⟨x7, σ7, H7, I7.unpinned, r7, q7⟩
end
theorem for_list {K : PySem.W.Frag} {a : Addr} {xs : List V} {g : TG} {tb : TS} {D : Ends} {σ : St} {H : Hp} (Pv : Nat → St → Hp → Prop) (h0 : Pv 0 σ H) (hl : ∀ i σ H, i ≤ xs.length → Pv i σ H → SqL K H a xs)
    (hs : ∀ i x σ H, xs[i]? = some x → Pv i σ H → g x σ H fun σ2 H2 => tb { D with nx := Pv (i + 1), ct := Pv (i + 1), bk := D.nx } σ2 H2) (hd : ∀ σ H, Pv xs.length σ H → D.nx σ H) :
    ∃ W : Nat → Nat → St → Hp → Prop, (∃ m, W 0 m σ H) ∧ ∀ i m σ H, W i m σ H →
      ((Itl K a).stop i H ∧ D.nx σ H) ∨ ((Itl K a).go i H ∧ ∃ N : St → Hp → Prop, (∀ σ' H', N σ' H' → ∃ m', m' < m ∧ W (i + 1) m' σ' H') ∧ ∀ x H', (Itl K a).yld i H x H' → g x σ H' fun σ2 H2 => tb { D with nx := N, ct := N, bk := D.nx } σ2 H2) := by
  refine ⟨fun i m σ H => m = xs.length - i ∧ i ≤ xs.length ∧ Pv i σ H, ⟨xs.length, by simp, Nat.zero_le _, h0⟩, ?_⟩
  rintro i m σ H ⟨rfl, hi, p⟩
  have q := hl i σ H hi p
  by_cases hlt : i < xs.length
  · refine .inr ⟨⟨xs, xs[i], q, by simp [hlt]⟩, Pv (i + 1), fun σ' H' p' => ⟨xs.length - (i + 1), by omega, rfl, hlt, p'⟩, fun x H' y => ?_⟩
    obtain ⟨e, y⟩ := y
    subst e
    exact hs i x σ _ (y xs q) p
  · have e : i = xs.length := by omega
    subst e
    exact .inl ⟨⟨xs, q, Nat.le_refl _⟩, hd σ H p⟩
theorem for_tup {K : PySem.W.Frag} {a : Addr} {xs : List V} {g : TG} {tb : TS} {D : Ends} {σ : St} {H : Hp} (Pv : Nat → St → Hp → Prop) (h0 : Pv 0 σ H) (hl : ∀ i σ H, i ≤ xs.length → Pv i σ H → SqT K H a xs)
    (hs : ∀ i x σ H, xs[i]? = some x → Pv i σ H → g x σ H fun σ2 H2 => tb { D with nx := Pv (i + 1), ct := Pv (i + 1), bk := D.nx } σ2 H2) (hd : ∀ σ H, Pv xs.length σ H → D.nx σ H) :
    ∃ W : Nat → Nat → St → Hp → Prop, (∃ m, W 0 m σ H) ∧ ∀ i m σ H, W i m σ H →
      ((Itt K a).stop i H ∧ D.nx σ H) ∨ ((Itt K a).go i H ∧ ∃ N : St → Hp → Prop, (∀ σ' H', N σ' H' → ∃ m', m' < m ∧ W (i + 1) m' σ' H') ∧ ∀ x H', (Itt K a).yld i H x H' → g x σ H' fun σ2 H2 => tb { D with nx := N, ct := N, bk := D.nx } σ2 H2) := by
  refine ⟨fun i m σ H => m = xs.length - i ∧ i ≤ xs.length ∧ Pv i σ H, ⟨xs.length, by simp, Nat.zero_le _, h0⟩, ?_⟩
  rintro i m σ H ⟨rfl, hi, p⟩
  have q := hl i σ H hi p
  by_cases hlt : i < xs.length
  · refine .inr ⟨⟨xs, xs[i], q, by simp [hlt]⟩, Pv (i + 1), fun σ' H' p' => ⟨xs.length - (i + 1), by omega, rfl, hlt, p'⟩, fun x H' y => ?_⟩
    obtain ⟨e, y⟩ := y
    subst e
    exact hs i x σ _ (y xs q) p
  · have e : i = xs.length := by omega
    subst e
    exact .inl ⟨⟨xs, q, Nat.le_refl _⟩, hd σ H p⟩
theorem for_range {lo : Int} {n : Nat} {g : TG} {tb : TS} {D : Ends} {σ : St} {H : Hp} (Pv : Nat → St → Hp → Prop) (h0 : Pv 0 σ H)
    (hs : ∀ i σ H, i < n → Pv i σ H → g (.int (lo + i)) σ H fun σ2 H2 => tb { D with nx := Pv (i + 1), ct := Pv (i + 1), bk := D.nx } σ2 H2) (hd : ∀ σ H, Pv n σ H → D.nx σ H) :
    ∃ W : Nat → Nat → St → Hp → Prop, (∃ m, W 0 m σ H) ∧ ∀ i m σ H, W i m σ H →
      ((Itr lo n).stop i H ∧ D.nx σ H) ∨ ((Itr lo n).go i H ∧ ∃ N : St → Hp → Prop, (∀ σ' H', N σ' H' → ∃ m', m' < m ∧ W (i + 1) m' σ' H') ∧ ∀ x H', (Itr lo n).yld i H x H' → g x σ H' fun σ2 H2 => tb { D with nx := N, ct := N, bk := D.nx } σ2 H2) := by
  refine ⟨fun i m σ H => m = n - i ∧ i ≤ n ∧ Pv i σ H, ⟨n, by simp, Nat.zero_le _, h0⟩, ?_⟩
  rintro i m σ H ⟨rfl, hi, p⟩
  by_cases hlt : i < n
  · refine .inr ⟨hlt, Pv (i + 1), fun σ' H' p' => ⟨n - (i + 1), by omega, rfl, hlt, p'⟩, fun x H' y => ?_⟩
    obtain ⟨e, y⟩ := y
    subst e y
    exact hs i σ _ hlt p
  · have e : i = n := by omega
    subst e
    exact .inl ⟨Nat.le_refl _, hd σ H p⟩
end L2
namespace L2
open PySem PySem.Spec PyProof.Rows
abbrev R2 := V → V → Hp → VK → Prop
def OpR (X : Cx) (f : Value → Value → Sem Value) (r : R2) : Prop :=
  ∀ (pins : List (Addr × Obj)) (s : Shared) (σ : St) (H : Hp) (x y : V) (v u : Value) (Q : VK), Inv X pins σ H s → RelV x v → RelV y u → r x y H Q →
    wpAny (model X.prog X.w) X.A (f v u) (EP X pins σ Q) X.xe s
def UnR (X : Cx) (f : Value → Sem Value) (r : V → Hp → VK → Prop) : Prop :=
  ∀ (pins : List (Addr × Obj)) (s : Shared) (σ : St) (H : Hp) (x : V) (v : Value) (Q : VK), Inv X pins σ H s → RelV x v → r x H Q →
    wpAny (model X.prog X.w) X.A (f v) (EP X pins σ Q) X.xe s
def CallR (X : Cx) (f : Value) (r : List V → Hp → VK → Prop) : Prop :=
  ∀ (pins : List (Addr × Obj)) (s : Shared) (σ : St) (H : Hp) (xs : List V) (us : List Value) (Q : VK), Inv X pins σ H s → Vals xs us → r xs H Q →
    wpAny (model X.prog X.w) X.A (call f us) (EP X pins σ Q) X.xe s
def TruR (X : Cx) (r : V → Hp → (Bool → Hp → Prop) → Prop) : Prop :=
  ∀ (pins : List (Addr × Obj)) (s : Shared) (σ : St) (H : Hp) (x : V) (v : Value) (Q : Bool → Hp → Prop), Inv X pins σ H s → RelV x v → r x H Q →
    wpAny (model X.prog X.w) X.A (truthy v) (TP X pins σ Q) X.xe s
def tOp (r : R2) (ta tb : TE) : TE := fun σ H Q => ta σ H fun x H1 => tb σ H1 fun y H2 => r x y H2 Q
def tUn (r : V → Hp → VK → Prop) (ta : TE) : TE := fun σ H Q => ta σ H fun x H1 => r x H1 Q
def rI (C : Int → Int → Prop) (g : Int → Int → V) : R2 := fun x y H Q => ∃ i j, x = .int i ∧ y = .int j ∧ C i j ∧ Q (g i j) H
def rI0 (g : Int → Int → V) : R2 := fun x y H Q => ∃ i j, x = .int i ∧ y = .int j ∧ Q (g i j) H
def rU (g : Int → V) : V → Hp → VK → Prop := fun x H Q => ∃ i, x = .int i ∧ Q (g i) H
section
variable {X : Cx} {a b c : Expr} {ta tb tc : TE} {pos : Pos}
theorem binT (ha : PE X a ta) (hb : PE X b tb) {pins : List (Addr × Obj)} {s : Shared} {σ : St} {H : Hp} {R : V → V → Hp → Prop} (I : Inv X pins σ H s)
    (h : ta σ H fun x H1 => tb σ H1 fun y H2 => R x y H2) {Q : Value → Shared → Prop} {f : Value → Value → Sem Value}
    (hf : ∀ v u s2 x y H2, Inv X pins σ H2 s2 → RelV x v → RelV y u → R x y H2 → wpAny (model X.prog X.w) X.A (f v u) Q X.xe s2) :
    wpAny (model X.prog X.w) X.A (eval a X.env) (fun v s₁ => wpAny (model X.prog X.w) X.A (eval b X.env) (fun u s₂ => wpAny (model X.prog X.w) X.A (f v u) Q X.xe s₂) X.xe s₁) X.xe s := by
  refine thn (ha pins s σ H _ I h) fun v s1 ⟨x, H1, I1, r1, q1⟩ => ?_
  refine thn (hb pins s1 σ H1 _ I1 q1) fun u s2 ⟨y, H2, I2, r2, q2⟩ => ?_
  exact hf v u s2 x y H2 I2 r1 r2 q2
theorem pe_op {op : Operator} {r : R2} (ho : OpR X (binaryOp op) r) (ha : PE X a ta) (hb : PE X b tb) : PE X (.BinOp a op b pos) (tOp r ta tb) := by
  intro pins s σ H Q I h
  exact wpAny_BinOp (binT ha hb I h fun v u s2 x y H2 I2 rx ry q => ho pins s2 σ H2 x y v u Q I2 rx ry q)
theorem pe_un {op : UnaryOp} {r : V → Hp → VK → Prop} (ho : UnR X (unaryOp op) r) (ha : PE X a ta) : PE X (.UnaryOp op a pos) (tUn r ta) := by
  intro pins s σ H Q I h
  exact UnaryOp_ (thn (ha pins s σ H _ I h) fun v s1 ⟨x, H1, I1, r1, q1⟩ => ho pins s1 σ H1 x v Q I1 r1 q1)
theorem opI {f : Value → Value → Sem Value} {C : Int → Int → Prop} {g : Int → Int → Int}
    (rule : ∀ (i j : Int) (t u : Tok) (s : Shared) (Q : Value → Shared → Prop) (E : Value → Shared → Prop), C i j → Q (.int (g i j) s.toks) { s with toks := s.toks + 1 } → wpAny (model X.prog X.w) X.A (f (.int i t) (.int j u)) Q E s) :
    OpR X f (rI C fun i j => .int (g i j)) := by
  intro pins s σ H x y v u Q I rx ry h
  obtain ⟨i, j, rfl, rfl, hc, q⟩ := h
  obtain ⟨t, rfl⟩ := rx
  obtain ⟨t', rfl⟩ := ry
  exact rule i j t t' s _ _ hc ⟨.int (g i j), H, I.tok _, ⟨_, rfl⟩, q⟩
theorem opI0 {f : Value → Value → Sem Value} {g : Int → Int → Int}
    (rule : ∀ (i j : Int) (t u : Tok) (s : Shared) (Q : Value → Shared → Prop) (E : Value → Shared → Prop), Q (.int (g i j) s.toks) { s with toks := s.toks + 1 } → wpAny (model X.prog X.w) X.A (f (.int i t) (.int j u)) Q E s) :
    OpR X f (rI0 fun i j => .int (g i j)) := by
  intro pins s σ H x y v u Q I rx ry h
  obtain ⟨i, j, rfl, rfl, q⟩ := h
  obtain ⟨t, rfl⟩ := rx
  obtain ⟨t', rfl⟩ := ry
  exact rule i j t t' s _ _ ⟨.int (g i j), H, I.tok _, ⟨_, rfl⟩, q⟩
theorem opB0 {f : Value → Value → Sem Value} {g : Int → Int → Bool}
    (rule : ∀ (i j : Int) (t u : Tok) (s : Shared) (Q : Value → Shared → Prop) (E : Value → Shared → Prop), Q (.bool (g i j)) s → wpAny (model X.prog X.w) X.A (f (.int i t) (.int j u)) Q E s) :
    OpR X f (rI0 fun i j => .bl (g i j)) := by
  intro pins s σ H x y v u Q I rx ry h
  obtain ⟨i, j, rfl, rfl, q⟩ := h
  obtain ⟨t, rfl⟩ := rx
  obtain ⟨t', rfl⟩ := ry
  exact rule i j t t' s _ _ ⟨.bl (g i j), H, I, rfl, q⟩
def CDiv (i j : Int) : Prop := 0 < j ∧ j < 1073741824
def CPow (i j : Int) : Prop := 0 ≤ j ∧ j ≤ 1000000 ∧ i.natAbs < 2 ^ 64
def CMul (i j : Int) : Prop := (-(2 ^ 64) < i ∧ i < 2 ^ 64) ∨ (-(2 ^ 64) < j ∧ j < 2 ^ 64)
theorem CMul.ok {i j : Int} (h : CMul i j) : IntMulOk i j := by
  rcases h with ⟨h1, h2⟩ | ⟨h1, h2⟩
  · exact .of_left (intBits_le_64 h1 h2)
  · exact .of_right (intBits_le_64 h1 h2)
theorem op_add : OpR X (binaryOp .Add) (rI0 fun i j => .int (i + j)) := opI0 fun _ _ _ _ _ _ _ q => add_int q
theorem op_sub : OpR X (binaryOp .Sub) (rI0 fun i j => .int (i - j)) := opI0 fun _ _ _ _ _ _ _ q => sub_int q
theorem op_mul : OpR X (binaryOp .Mult) (rI CMul fun i j => .int (i * j)) := opI fun _ _ _ _ _ _ _ hc q => mul_int q hc.ok
theorem op_fdiv : OpR X (binaryOp .FloorDiv) (rI CDiv fun i j => .int (i / j)) := opI fun i j _ _ _ _ _ hc q => by
  have h1 : (0 : Int) < j := hc.1
  have h2 : j < 1073741824 := hc.2
  exact floordiv_int (by omega) (by rw [Int.fdiv_eq_ediv_of_nonneg i (by omega)]; exact q) (.inl (PyProof.noPylong_small (by omega)))
theorem op_mod : OpR X (binaryOp .Mod) (rI (fun _ j => 0 < j) fun i j => .int (i % j)) := opI fun i j _ _ _ _ _ hc q => by
  have h1 : (0 : Int) < j := hc
  exact mod_int' (by omega) (by rw [Int.fmod_eq_emod_of_nonneg i (by omega)]; exact q)
theorem op_pow : OpR X (binaryOp .Pow) (rI CPow fun i j => .int (i ^ j.toNat)) := opI fun _ _ _ _ _ _ _ hc q => pow_int_small hc.1 hc.2.1 hc.2.2 q
theorem unI {f : Value → Sem Value} {g : Int → Int}
    (rule : ∀ (i : Int) (t : Tok) (s : Shared) (Q : Value → Shared → Prop) (E : Value → Shared → Prop), Q (.int (g i) s.toks) { s with toks := s.toks + 1 } → wpAny (model X.prog X.w) X.A (f (.int i t)) Q E s) :
    UnR X f (rU fun i => .int (g i)) := by
  intro pins s σ H x v Q I rx h
  obtain ⟨i, rfl, q⟩ := h
  obtain ⟨t, rfl⟩ := rx
  exact rule i t s _ _ ⟨.int (g i), H, I.tok _, ⟨_, rfl⟩, q⟩
theorem un_neg : UnR X (unaryOp .USub) (rU fun i => .int (-i)) := unI fun _ _ _ _ _ q => neg_int q
end
def scal : V → V → Bool
  | .non, .non => true | .non, .int _ => true | .int _, .non => true | .non, .bl _ => true | .bl _, .non => true | .non, .str _ => true | .str _, .non => true
  | .int _, .int _ => true | .bl _, .bl _ => true | .str _, .str _ => true | .byt _, .byt _ => true
  | .int _, .str _ => true | .str _, .int _ => true | .bl _, .str _ => true | .str _, .bl _ => true
  | _, _ => false
def rEq : R2 := fun x y H Q => scal x y = true ∧ Q (.bl (decide (x = y))) H
def rNe : R2 := fun x y H Q => scal x y = true ∧ Q (.bl (!decide (x = y))) H
theorem dec_int {i j : Int} : decide (V.int i = V.int j) = (i == j) := by
  rw [Bool.eq_iff_iff]
  simp
theorem dec_bl {i j : Bool} : decide (V.bl i = V.bl j) = (i == j) := by
  rw [Bool.eq_iff_iff]
  simp
theorem dec_str {i j : Str} : decide (V.str i = V.str j) = (i == j) := by
  rw [Bool.eq_iff_iff]
  simp
theorem dec_byt {i j : Array UInt8} : decide (V.byt i = V.byt j) = (i.toList == j.toList) := by
  rw [Bool.eq_iff_iff]
  cases i
  cases j
  simp
section
variable {X : Cx} {a b c : Expr} {ta tb tc : TE} {pos : Pos}
theorem fin_bl {pins : List (Addr × Obj)} {σ : St} {H : Hp} {s : Shared} {Q : VK} {k k' : Bool} (I : Inv X pins σ H s) (q : Q (.bl k) H) (e : k = k') : EP X pins σ Q (.bool k') s := by
  subst e
  exact ⟨.bl k, H, I, rfl, q⟩
theorem op_eq : OpR X (compareOp .Eq) rEq := by
  intro pins s σ H x y v u Q I rx ry h
  obtain ⟨hs, q⟩ := h
  cases x with
  | non =>
    cases rx
    cases y with
    | non => cases ry; exact PySem.EqNone.eq_none_none (fin_bl I q (by simp))
    | bl j => cases ry; exact PySem.EqNone.eq_none_bool (fin_bl I q (by simp))
    | int j => obtain ⟨t', rfl⟩ := ry; exact PySem.EqNone.eq_none_int (fin_bl I q (by simp))
    | str j => obtain ⟨t', rfl⟩ := ry; exact PySem.EqNone.eq_none_str (fin_bl I q (by simp))
    | _ => exact absurd (show false = true from hs) Bool.false_ne_true
  | bl i =>
    cases rx
    cases y with
    | non => cases ry; exact PySem.EqNone.eq_bool_none (fin_bl I q (by simp))
    | bl j => cases ry; exact eq_bool (fin_bl I q dec_bl)
    | str j => obtain ⟨t', rfl⟩ := ry; exact PySem.EqMixed.eq_bool_str (fin_bl I q (by simp))
    | _ => exact absurd (show false = true from hs) Bool.false_ne_true
  | int i =>
    obtain ⟨t, rfl⟩ := rx
    cases y with
    | non => cases ry; exact PySem.EqNone.eq_int_none (fin_bl I q (by simp))
    | int j => obtain ⟨t', rfl⟩ := ry; exact eq_int (fin_bl I q dec_int)
    | str j => obtain ⟨t', rfl⟩ := ry; exact PySem.EqMixed.eq_int_str (fin_bl I q (by simp))
    | _ => exact absurd (show false = true from hs) Bool.false_ne_true
  | str i =>
    obtain ⟨t, rfl⟩ := rx
    cases y with
    | non => cases ry; exact PySem.EqNone.eq_str_none (fin_bl I q (by simp))
    | bl j => cases ry; exact PySem.EqMixed.eq_str_bool (fin_bl I q (by simp))
    | int j => obtain ⟨t', rfl⟩ := ry; exact PySem.EqMixed.eq_str_int (fin_bl I q (by simp))
    | str j => obtain ⟨t', rfl⟩ := ry; exact eq_str (fin_bl I q dec_str)
    | _ => exact absurd (show false = true from hs) Bool.false_ne_true
  | byt i =>
    obtain ⟨t, rfl⟩ := rx
    cases y with
    | byt j => obtain ⟨t', rfl⟩ := ry; exact PySem.W.eq_bytes (fin_bl I q dec_byt)
    | _ => exact absurd (show false = true from hs) Bool.false_ne_true
  | _ => cases y <;> exact absurd (show false = true from hs) Bool.false_ne_true
theorem op_ne : OpR X (compareOp .NotEq) rNe := by
  intro pins s σ H x y v u Q I rx ry h
  obtain ⟨hs, q⟩ := h
  cases x with
  | non =>
    cases rx
    cases y with
    | non => cases ry; exact PySem.EqNone.ne_none_none (fin_bl I q (by simp))
    | bl j => cases ry; exact PySem.EqNone.ne_none_bool (fin_bl I q (by simp))
    | int j => obtain ⟨t', rfl⟩ := ry; exact PySem.EqNone.ne_none_int (fin_bl I q (by simp))
    | str j => obtain ⟨t', rfl⟩ := ry; exact PySem.EqNone.ne_none_str (fin_bl I q (by simp))
    | _ => exact absurd (show false = true from hs) Bool.false_ne_true
  | bl i =>
    cases rx
    cases y with
    | non => cases ry; exact PySem.EqNone.ne_bool_none (fin_bl I q (by simp))
    | bl j => cases ry; exact ne_bool (fin_bl I q (congrArg not dec_bl))
    | str j => obtain ⟨t', rfl⟩ := ry; exact PySem.EqMixed.ne_bool_str (fin_bl I q (by simp))
    | _ => exact absurd (show false = true from hs) Bool.false_ne_true
  | int i =>
    obtain ⟨t, rfl⟩ := rx
    cases y with
    | non => cases ry; exact PySem.EqNone.ne_int_none (fin_bl I q (by simp))
    | int j => obtain ⟨t', rfl⟩ := ry; exact ne_int (fin_bl I q (congrArg not dec_int))
    | str j => obtain ⟨t', rfl⟩ := ry; exact PySem.EqMixed.ne_int_str (fin_bl I q (by simp))
    | _ => exact absurd (show false = true from hs) Bool.false_ne_true
  | str i =>
    obtain ⟨t, rfl⟩ := rx
    cases y with
    | non => cases ry; exact PySem.EqNone.ne_str_none (fin_bl I q (by simp))
    | bl j => cases ry; exact PySem.EqMixed.ne_str_bool (fin_bl I q (by simp))
    | int j => obtain ⟨t', rfl⟩ := ry; exact PySem.EqMixed.ne_str_int (fin_bl I q (by simp))
    | str j => obtain ⟨t', rfl⟩ := ry; exact ne_str (fin_bl I q (congrArg not dec_str))
    | _ => exact absurd (show false = true from hs) Bool.false_ne_true
  | byt i =>
    obtain ⟨t, rfl⟩ := rx
    cases y with
    | byt j => obtain ⟨t', rfl⟩ := ry; exact PySem.W.ne_bytes (fin_bl I q (congrArg not dec_byt))
    | _ => exact absurd (show false = true from hs) Bool.false_ne_true
  | _ => cases y <;> exact absurd (show false = true from hs) Bool.false_ne_true
theorem op_lt : OpR X (compareOp .Lt) (rI0 fun i j => .bl (decide (i < j))) := opB0 fun _ _ _ _ _ _ _ q => lt_int q
theorem op_le : OpR X (compareOp .LtE) (rI0 fun i j => .bl (decide (i ≤ j))) := opB0 fun _ _ _ _ _ _ _ q => le_int q
theorem op_gt : OpR X (compareOp .Gt) (rI0 fun i j => .bl (decide (j < i))) := opB0 fun _ _ _ _ _ _ _ q => gt_int q
theorem op_lt_str : OpR X (compareOp .Lt) (fun x y H Q => ∃ i j, x = .str i ∧ y = .str j ∧ Q (.bl (decide (i.cps.toList < j.cps.toList))) H) := by
  intro pins s σ H x y v u Q I rx ry h
  obtain ⟨i, j, rfl, rfl, q⟩ := h
  obtain ⟨t, rfl⟩ := rx
  obtain ⟨t', rfl⟩ := ry
  exact lt_str (fin_bl I q rfl)
theorem OpR.or {f : Value → Value → Sem Value} {r r' : R2} (h : OpR X f r) (h' : OpR X f r') : OpR X f (fun x y H Q => r x y H Q ∨ r' x y H Q) := by
  intro pins s σ H x y v u Q I rx ry q
  rcases q with q | q
  · exact h pins s σ H x y v u Q I rx ry q
  · exact h' pins s σ H x y v u Q I rx ry q
theorem nomark (b : Expr) {op : CmpOp} (h : op ≠ .In := by decide) (h2 : op ≠ .NotIn := by decide) : behindInMarks op b = false := by
  have e1 : (op == CmpOp.In) = false := by cases op <;> first | rfl | exact absurd rfl h
  have e2 : (op == CmpOp.NotIn) = false := by cases op <;> first | rfl | exact absurd rfl h2
  cases b <;> simp [behindInMarks, e1, e2]
theorem pe_cmpR {op : CmpOp} {r : R2} (ho : OpR X (compareOp op) r) (ha : PE X a ta) (hb : PE X b tb) (hm : behindInMarks op b = false) : PE X (.Compare a [op] [b] pos) (tOp r ta tb) := by
  intro pins s σ H Q I h
  exact wpAny_Compare1 (binT ha hb I h fun v u s2 x y H2 I2 rx ry q => ho pins s2 σ H2 x y v u Q I2 rx ry q) hm
def TruV (K : PySem.W.Frag) (x : V) (H : Hp) (k : Bool) : Prop :=
  match x with
  | .non => k = false
  | .bl b => k = b
  | .int i => k = (i != 0)
  | .str y => y.length ≤ sizeLine ∧ k = ((y.length : Int) != 0)
  | .byt y => y.size ≤ sizeLine ∧ k = ((y.size : Int) != 0)
  | .ref p => (∃ xs, SqL K H p xs ∧ k = !xs.isEmpty) ∨ (∃ xs, SqT K H p xs ∧ k = !xs.isEmpty) ∨ ∃ kvs, H p = some (.dK kvs) ∧ k = !kvs.isEmpty
  | _ => False
theorem isEmpty_kv {κ : Type} {kvs : List (κ × V)} {vs : List (κ × Value)} (r : KV kvs vs) : (!vs.isEmpty) = !kvs.isEmpty := by
  cases r <;> rfl
theorem isEmpty_of {xs : List V} {its : List Value} (r : Vals xs its) : (!its.toArray.isEmpty) = !xs.isEmpty := by
  cases r <;> simp
theorem line63 : (sizeLine : Nat) < 2 ^ 63 := by rw [sizeLine_eq]; decide
theorem tru_ok : TruR X (fun x H Q => ∃ k, TruV X.K x H k ∧ Q k H) := by
  intro pins s σ H x v Q I rx h
  obtain ⟨k, e, q⟩ := h
  have hl := line63
  have hs : sizeLine = 16777216 := sizeLine_eq
  cases x with
  | non =>
    cases rx
    have e' : k = false := e
    subst e'
    exact truthy_none ⟨H, I, q⟩
  | bl b =>
    cases rx
    have e' : k = b := e
    subst e'
    exact wpAny_truthy_bool ⟨H, I, q⟩
  | int i =>
    obtain ⟨t, rfl⟩ := rx
    have e' : k = (i != 0) := e
    subst e'
    exact PySem.P.truthy_int ⟨H, I, q⟩
  | str y =>
    obtain ⟨t, rfl⟩ := rx
    obtain ⟨hy, e'⟩ : y.length ≤ sizeLine ∧ k = ((y.length : Int) != 0) := e
    subst e'
    exact PySem.P.truthy_str (by omega) ⟨H, I.tok _, q⟩
  | byt y =>
    obtain ⟨t, rfl⟩ := rx
    obtain ⟨hy, e'⟩ : y.size ≤ sizeLine ∧ k = ((y.size : Int) != 0) := e
    subst e'
    exact PySem.W.truthy_bytes (by omega) ⟨H, I.tok _, q⟩
  | ref p =>
    cases rx
    have e' : (∃ xs, SqL X.K H p xs ∧ k = !xs.isEmpty) ∨ (∃ xs, SqT X.K H p xs ∧ k = !xs.isEmpty) ∨ ∃ kvs, H p = some (.dK kvs) ∧ k = !kvs.isEmpty := e
    rcases e' with ⟨xs, hx, e'⟩ | ⟨xs, hx, e'⟩ | ⟨kvs, hx, e'⟩
    · subst e'
      obtain ⟨its, r, pl, hz⟩ := I.list hx
      have hlen := r.length
      exact wpAny_truthy_list pl.isList (by simp only [List.size_toArray]; omega) ⟨H, I.tok _, by rw [isEmpty_of r]; exact q⟩
    · subst e'
      obtain ⟨its, r, pl, hz⟩ := I.tuple hx
      have hlen := r.length
      exact truthy_tuple pl (by simp only [List.size_toArray]; omega) ⟨H, I.tok _, by rw [isEmpty_of r]; exact q⟩
    · subst e'
      obtain ⟨hz, hS, vs, r, m⟩ : kvs.length ≤ sizeLine ∧ (p == sysModules) = false ∧ ∃ vs, KV kvs vs ∧ s.heap.DictOf (mixKind X.prog X.w) p vs := I.hok p _ hx
      have hlen : kvs.length = vs.length := Paired.length r
      exact wpAny_truthy_dict hS m (by omega) ⟨H, I.tok _, by rw [isEmpty_kv r]; exact q⟩
  | _ => exact (show False from e).elim
theorem op_add_str : OpR X (binaryOp .Add) (fun x y H Q => ∃ i j, x = .str i ∧ y = .str j ∧ i.length + j.length ≤ sizeLine ∧ Q (.str (i ++ j)) H) := by
  intro pins s σ H x y v u Q I rx ry h
  obtain ⟨i, j, rfl, rfl, hz, q⟩ := h
  obtain ⟨t, rfl⟩ := rx
  obtain ⟨t', rfl⟩ := ry
  exact add_str (fun t' tk => ⟨.str (i ++ j), H, I.tok _, ⟨_, rfl⟩, q⟩) hz
theorem vals1 {x : V} {us : List Value} (r : Vals [x] us) : ∃ u, us = [u] ∧ RelV x u := by
  cases r with
  | cons r1 r2 => cases r2; exact ⟨_, rfl, r1⟩
theorem vals2 {x y : V} {us : List Value} (r : Vals [x, y] us) : ∃ u w', us = [u, w'] ∧ RelV x u ∧ RelV y w' := by
  cases r with
  | cons r1 r2 =>
    cases r2 with
    | cons r3 r4 => cases r4; exact ⟨_, _, rfl, r1, r3⟩
theorem call_min2 (hc : X.calm = true) : CallR X (.builtin "min") (fun xs H Q => ∃ i j, xs = [.int i, .int j] ∧ Q (.int (if j < i then j else i)) H) := by
  intro pins s σ H xs us Q I r h
  obtain ⟨i, j, rfl, q⟩ := h
  obtain ⟨u, w', rfl, ⟨t, rfl⟩, ⟨t', rfl⟩⟩ := vals2 r
  refine min_two_ints (I.ok.hd hc) fun h' tk k => ⟨_, H, I.kept k, ?_, q⟩
  by_cases hj : j < i
  · rw [if_pos hj, if_pos hj]; exact ⟨_, rfl⟩
  · rw [if_neg hj, if_neg hj]; exact ⟨_, rfl⟩
theorem call_int1 : CallR X (.type "int") (fun xs H Q => (∃ i, xs = [.int i] ∧ Q (.int i) H) ∨ ∃ k, xs = [.bl k] ∧ Q (.int (if k then 1 else 0)) H) := by
  intro pins s σ H xs us Q I r h
  rcases h with ⟨i, rfl, q⟩ | ⟨k, rfl, q⟩
  · obtain ⟨u, rfl, t, rfl⟩ := vals1 r
    exact call_int_int ⟨.int i, H, I, ⟨_, rfl⟩, q⟩
  · obtain ⟨u, rfl, r1⟩ := vals1 r
    cases r1
    exact call_int_bool ⟨.int (if k then 1 else 0), H, I.tok _, ⟨_, rfl⟩, q⟩
theorem call_str_int : CallR X (.type "str") (fun xs H Q => ∃ i, xs = [.int i] ∧ i.natAbs.log2 < 1920 ∧ Q (.str (toString i)) H) := by
  intro pins s σ H xs us Q I r h
  obtain ⟨i, rfl, hz, q⟩ := h
  obtain ⟨u, rfl, t, rfl⟩ := vals1 r
  exact PySem.P.str_of_int hz ⟨.str _, H, I.tok _, ⟨_, rfl⟩, q⟩
def LenV (K : PySem.W.Frag) (x : V) (H : Hp) (n : Nat) : Prop :=
  match x with
  | .str y => y.length ≤ sizeLine ∧ n = y.length
  | .byt y => y.size ≤ sizeLine ∧ n = y.size
  | .ref p => (∃ xs, SqL K H p xs ∧ n = xs.length) ∨ ∃ xs, SqT K H p xs ∧ n = xs.length
  | _ => False
theorem call_len : CallR X (.builtin "len") (fun xs H Q => ∃ x n, xs = [x] ∧ LenV X.K x H n ∧ Q (.int n) H) := by
  intro pins s σ H xs us Q I r h
  obtain ⟨x, n, rfl, e, q⟩ := h
  obtain ⟨u, rfl, rx⟩ := vals1 r
  have hl := line63
  have hs : sizeLine = 16777216 := sizeLine_eq
  cases x with
  | str y =>
    obtain ⟨t, rfl⟩ := rx
    obtain ⟨hy, e'⟩ : y.length ≤ sizeLine ∧ n = y.length := e
    subst e'
    exact len_str (by omega) ⟨.int _, H, I.tok _, ⟨_, rfl⟩, q⟩
  | byt y =>
    obtain ⟨t, rfl⟩ := rx
    obtain ⟨hy, e'⟩ : y.size ≤ sizeLine ∧ n = y.size := e
    subst e'
    exact PySem.W.len_bytes (by omega) ⟨.int _, H, I.tok _, ⟨_, rfl⟩, q⟩
  | ref p =>
    cases rx
    have e' : (∃ xs, SqL X.K H p xs ∧ n = xs.length) ∨ ∃ xs, SqT X.K H p xs ∧ n = xs.length := e
    rcases e' with ⟨xs, hx, e'⟩ | ⟨xs, hx, e'⟩
    · subst e'
      obtain ⟨its, r', pl, hz⟩ := I.list hx
      have hlen := r'.length
      exact Calls.call_len_list pl.isList (by simp only [List.size_toArray]; omega) ⟨.int xs.length, H, I.tok _, ⟨_, by simp only [List.size_toArray]; rw [hlen]⟩, q⟩
    · subst e'
      obtain ⟨its, r', pl, hz⟩ := I.tuple hx
      have hlen := r'.length
      exact len_tuple pl (by simp only [List.size_toArray]; omega) ⟨.int xs.length, H, I.tok _, ⟨_, by simp only [List.size_toArray]; rw [hlen]⟩, q⟩
  | _ => exact (show False from e).elim
end
end L2
namespace L2
open PySem PySem.Spec PyProof.Rows
structure ObjM (h : Heap) (x dx C : Addr) (mA : Str → Option Value) : Prop where
  obj : h.get? x = some (PySem.W.instObj C dx)
  ns : h.Ns1 dx mA
  ne : dx ≠ x
theorem lookIn_ns {h : Heap} {dx : Addr} {mA : Str → Option Value} (n : h.Ns1 dx mA) : ∃ od, h.get? dx = some od ∧ ∀ name, PySem.W.lookIn name od = some (mA name) := by
  obtain ⟨o, es, ep, ho, hd, hk, _, hm⟩ := n
  refine ⟨o, ho, fun name => ?_⟩
  have e := hm name
  unfold nsFind findBy at e
  rw [← Array.find?_toList] at e
  unfold PySem.W.lookIn
  rw [hd]
  dsimp only
  split
  · rename_i y q
    rw [q] at e
    exact congrArg some e
  · rename_i q
    rw [q] at e
    have a : es.toList.any (·.refKey) = false := by
      rw [List.any_eq_false]
      intro y hy
      obtain ⟨z, t, hkey⟩ := hk y (Array.mem_toList_iff.mp hy)
      simp [DictEntry.refKey, hkey]
    have a' : ¬ es.toList.any (·.refKey) = true := by rw [a]; exact Bool.false_ne_true
    rw [if_neg a']
    exact congrArg some e
theorem ObjM.look {h : Heap} {x dx C : Addr} {mA : Str → Option Value} (I : ObjM h x dx C mA) : ∃ od, PySem.W.InstAt h x (PySem.W.instObj C dx) C (some od) ∧ ∀ name, PySem.W.lookIn name od = some (mA name) :=
  let ⟨od, ho, hl⟩ := lookIn_ns I.ns
  ⟨od, ⟨I.obj, rfl, rfl, ho⟩, hl⟩
section
variable {prog : Program} {w : World} {A : Around} {E : Value → Shared → Prop} {s : Shared} {K : PySem.W.Frag} {x dx C f : Addr} {mA : Str → Option Value} {name : Str} {v : Value}
theorem get_map {expr : Bool} {Q : Value → Shared → Prop} (X : K.In s.heap) (I : ObjM s.heap x dx C mA) (hg : PySem.W.plainGet K C name = true) (hh : PySem.W.hasDictIn K C = true)
    (ha : PySem.W.findIn K (.ref C) name = some none) (hv : mA name = some v) (hv' : PySem.W.handedIn v = true) (h : Q v { s with toks := s.toks + 1 }) :
    wpAny (model prog w) A (getAttr (.ref x) name expr) Q E s := by
  obtain ⟨od, J, hl⟩ := I.look
  exact PySem.W.get_value X J (PySem.W.plainGet_of hg).1 (PySem.W.findObj_own hh ha rfl (by rw [hl, hv])) hv' h
theorem get_meth {pl : Sem Bool} {Q : Value × List Value → Shared → Prop} (X : K.In s.heap) (I : ObjM s.heap x dx C mA) (hg : PySem.W.plainGet K C name = true)
    (hf : PySem.W.findIn K (.ref C) name = some (some (.ref f))) (ht : PySem.W.isFn K (.ref f) = true) (hv : mA name = none) (h : Q (.ref f, [.ref x]) s) :
    wpAny (model prog w) A (getMethod (.ref x) name pl) Q E s := by
  obtain ⟨od, J, hl⟩ := I.look
  exact PySem.W.method_fn X J (PySem.W.plainGet_of hg).1 (PySem.W.plainGet_of hg).2 hf (beq_iff_eq.mp ht) (by show (PySem.W.lookIn name od).map (·.isSome) = some false; rw [hl, hv]; rfl) h
theorem set_map {ns : List Str} {Q : Unit → Shared → Prop} (X : K.In s.heap) (I : ObjM s.heap x dx C mA)
    (hs : PySem.W.findIn K (.ref C) "__setattr__" = some (some (.builtin "object.__setattr__"))) (hp : PySem.W.plainOver K C = true) (ht : PySem.W.takerIn K C name = some none) (hh : PySem.W.hasDictIn K C = true)
    (hw : PySem.Within mA ns) (hsz : ns.length ≤ sizeLine)
    (h : ∀ h', ObjM h' x dx C (fun y => if y = name then some v else mA y) → Heap.SameBut dx s.heap h' → Q () { s with heap := h', toks := s.toks + 2 }) :
    wpAny (model prog w) A (setAttr (.ref x) name v) Q E s := by
  obtain ⟨od, J, hl⟩ := I.look
  refine PySem.W.set_plain X J hs (PySem.W.osa_open (s := { s with toks := s.toks + 1 }) (r := none) X J hp ht fun b => ?_)
  obtain ⟨cd, hc, hd'⟩ := PySem.W.any_some hh
  have hx : s.heap.get? x = some ⟨.ref C, some dx, .plain, #[]⟩ := I.obj
  refine wpAny_bind (wpAny_pure (wpAny_bind (wpAny_bind (wpAny_loadPart hx (wpAny_bind (PySem.W.Looks.here (s := { s with toks := s.toks + 1 }) (PySem.W.looks_clsIn X hc) ?_))))))
  rw [hd']
  refine wpAny_pure (a := some dx) (wpAny_bind (wpAny_pure (wpAny_bind ?_)))
  refine wpAny_nsSet1 (s := { s with toks := s.toks + 1 }) I.ns fun h' hn2 hs2 => ?_
  obtain ⟨oD, esD, epD, hoD, hdD, hcD⟩ := hn2.count (PySem.Within.cons name v hw)
  refine wpAny_bind (wpAny_lookBehind hoD (by rw [hdD]; exact pastItsLine_dict (Nat.le_trans hcD (by rw [List.length_cons]; omega))) ?_)
  exact wpAny_pure (h _ ⟨(hs2.2 _ (Ne.symm I.ne)).trans I.obj, hn2, I.ne⟩ hs2)
theorem make_map {R : Result → Shared → Prop} {vs : List Value} {kw : List (Str × Value)} (X : K.In s.heap) (hm : PySem.W.makesIn K C = true)
    (hi : PySem.W.findIn K (.ref C) "__init__" = some (some (.ref f))) (hf : PySem.W.typeIn K (.ref f) = some (.type "function"))
    (h : codeAny (model prog w) (A.under (.builtin "type.__call__" ⟨.ref C :: vs, kw⟩)) (.call (.ref f) ⟨.ref (s.heap.objs.size + 1) :: vs, kw⟩) (PySem.W.InitBack (s.heap.objs.size + 1) R)
      { s with heap := (s.heap.push PySem.W.emptyDict).push (PySem.W.instObj C s.heap.objs.size) }) :
    codeAny (model prog w) A (.call (.ref C) ⟨vs, kw⟩) R s := by
  obtain ⟨hh, g, d, t, os⟩ := s
  exact PySem.W.make_core (PySem.W.makes_of X hm) (PySem.W.looks_findIn X hi) (fun self => PySem.W.bind_fn X self hf) (.inl rfl) h
end
def putF (f : Str) (v : V) : List (Str × V) → List (Str × V)
  | [] => [(f, v)]
  | (g, x) :: r => if g = f then (g, v) :: r else (g, x) :: putF f v r
theorem lookup_putF (f g : Str) (v : V) : ∀ fs : List (Str × V), (putF f v fs).lookup g = if g = f then some v else fs.lookup g
  | [] => by
    show List.lookup g [(f, v)] = _
    by_cases h : g = f
    · have hb : (g == f) = true := beq_iff_eq.mpr h
      simp only [List.lookup, hb, if_pos h]
    · have hb : (g == f) = false := beq_eq_false_iff_ne.mpr h
      simp only [List.lookup, hb, if_neg h]
  | (k, x) :: r => by
    have ih := lookup_putF f g v r
    rw [show putF f v ((k, x) :: r) = (if k = f then (k, v) :: r else (k, x) :: putF f v r) from rfl]
    by_cases hk : k = f
    · rw [if_pos hk]
      by_cases h : g = k
      · have hb : (g == k) = true := beq_iff_eq.mpr h
        simp only [List.lookup, hb, if_pos (h.trans hk)]
      · have hb : (g == k) = false := beq_eq_false_iff_ne.mpr h
        simp only [List.lookup, hb, if_neg (fun e : g = f => h (e.trans hk.symm))]
    · rw [if_neg hk]
      by_cases h : g = k
      · have hb : (g == k) = true := beq_iff_eq.mpr h
        simp only [List.lookup, hb, if_neg (fun e : g = f => hk (h.symm.trans e))]
      · have hb : (g == k) = false := beq_eq_false_iff_ne.mpr h
        simp only [List.lookup, hb]
        exact ih
theorem keys_putF (f : Str) (v : V) : ∀ fs : List (Str × V), f ∈ (putF f v fs).map (·.1) ∧ ∀ g, g ∈ fs.map (·.1) → g ∈ (putF f v fs).map (·.1)
  | [] => ⟨by simp [putF], fun g h => by simp at h⟩
  | (k, x) :: r => by
    obtain ⟨i1, i2⟩ := keys_putF f v r
    rw [show putF f v ((k, x) :: r) = (if k = f then (k, v) :: r else (k, x) :: putF f v r) from rfl]
    by_cases hk : k = f
    · rw [if_pos hk]
      subst hk
      exact ⟨by simp, fun g h => by simpa using h⟩
    · rw [if_neg hk]
      refine ⟨?_, fun g h => ?_⟩
      · rw [List.map_cons]
        exact List.mem_cons_of_mem _ i1
      · rw [List.map_cons] at h ⊢
        rcases List.mem_cons.mp h with e | e
        · exact List.mem_cons.mpr (.inl e)
        · exact List.mem_cons_of_mem _ (i2 g e)
theorem length_putF (f : Str) (v : V) : ∀ fs : List (Str × V), (putF f v fs).length ≤ fs.length + 1
  | [] => by simp [putF]
  | (k, x) :: r => by
    have ih := length_putF f v r
    rw [show putF f v ((k, x) :: r) = (if k = f then (k, v) :: r else (k, x) :: putF f v r) from rfl]
    by_cases hk : k = f
    · rw [if_pos hk, List.length_cons, List.length_cons]; omega
    · rw [if_neg hk, List.length_cons, List.length_cons]; omega
theorem RelO.some_of {v : V} {o : Option Value} (r : RelO (some v) o) : ∃ u, o = some u ∧ RelV v u := by
  cases o with
  | none => exact (show False from r).elim
  | some u => exact ⟨u, rfl, r⟩
theorem RelO.none_of {o : Option Value} (r : RelO none o) : o = none := by
  cases o with
  | none => rfl
  | some u => exact (show False from r).elim
theorem handed_of {v : V} {u : Value} (r : RelV v u) : PySem.W.handedIn u = true := by
  cases v with
  | non => cases (show u = Value.none from r); rfl
  | bl b => cases (show u = Value.bool b from r); rfl
  | int i => obtain ⟨t, e⟩ := (show ∃ t, u = Value.int i t from r); cases e; rfl
  | str x => obtain ⟨t, e⟩ := (show ∃ t, u = Value.str x t from r); cases e; rfl
  | byt b => obtain ⟨t, e⟩ := (show ∃ t, u = Value.bytes b t from r); cases e; rfl
  | flt b => obtain ⟨t, e⟩ := (show ∃ t, u = Value.float b t from r); cases e; rfl
  | ref a => cases (show u = Value.ref a from r); rfl
  | ty n => cases (show u = Value.type n from r); rfl
section
variable {P : Program} {w : World} {H H' : Hp} {h h' : Heap} {a C dx : Addr} {fs fs' : List (Str × V)}
theorem ins_get (hok : HOk P w H h) (e : H a = some (.ins C dx fs)) : ∃ mA, ObjM h a dx C mA ∧ (∀ f, RelO (fs.lookup f) (mA f)) ∧ PySem.Within mA (fs.map (·.1)) ∧ fs.length ≤ 1000 ∧ H dx = some (.own a) := by
  obtain ⟨d, z, ne, ob, mA, n, r, q⟩ := (show ObjOk P w H h a (.ins C dx fs) from hok a _ e)
  exact ⟨mA, ⟨ob, n, ne⟩, r, q, z, d⟩
end
structure Cls (K : PySem.W.Frag) (C : Addr) : Prop where
  pg : PySem.W.plainGet K C Str.empty = true
  hd : PySem.W.hasDictIn K C = true
  po : PySem.W.plainOver K C = true
  sa : PySem.W.findIn K (.ref C) "__setattr__" = some (some (.builtin "object.__setattr__"))
theorem Cls.get {K : PySem.W.Frag} {C : Addr} (c : Cls K C) (f : Str) : PySem.W.plainGet K C f = true := c.pg
def NoAttr (K : PySem.W.Frag) (C : Addr) (f : Str) : Prop := PySem.W.findIn K (.ref C) f = some none
theorem NoAttr.taker {K : PySem.W.Frag} {C : Addr} {f : Str} (n : NoAttr K C f) : PySem.W.takerIn K C f = some none := by
  unfold PySem.W.takerIn
  rw [show PySem.W.findIn K (.ref C) f = some none from n]
  rfl
structure Meth (K : PySem.W.Frag) (C : Addr) (m : Str) (f : Addr) : Prop where
  at_ : PySem.W.findIn K (.ref C) m = some (some (.ref f))
  fn : PySem.W.isFn K (.ref f) = true
  kp : PySem.W.keepIn K (.ref f) = true
section
variable {X : Cx} {pins : List (Addr × Obj)} {σ : St} {H : Hp} {s : Shared} {a C dx : Addr} {fs : List (Str × V)} {f : Str} {v : V} {A : Around} {E : Value → Shared → Prop}
theorem getattr_ok {b : Bool} {Q : Value → Shared → Prop} (I : Inv X pins σ H s) (e : H a = some (.ins C dx fs)) (c : Cls X.K C) (n : NoAttr X.K C f) (l : fs.lookup f = some v)
    (h : ∀ u s', Inv X pins σ H s' → RelV v u → Q u s') : wpAny (model X.prog X.w) A (getAttr (.ref a) f b) Q E s := by
  obtain ⟨mA, O, r, _, _, _⟩ := ins_get I.hok e
  obtain ⟨u, hu, ru⟩ := RelO.some_of (v := v) (o := mA f) (by rw [← l]; exact r f)
  exact get_map I.kIn O (c.get f) c.hd n hu (handed_of ru) (h u _ (I.tok _) ru)
theorem getmeth_ok {m : Str} {g : Addr} {pl : Sem Bool} {Q : Value × List Value → Shared → Prop} (I : Inv X pins σ H s) (e : H a = some (.ins C dx fs)) (c : Cls X.K C) (k : Meth X.K C m g) (l : fs.lookup m = none)
    (h : Q (.ref g, [.ref a]) s) : wpAny (model X.prog X.w) A (getMethod (.ref a) m pl) Q E s := by
  obtain ⟨mA, O, r, _, _, _⟩ := ins_get I.hok e
  have hn : mA m = none := RelO.none_of (by rw [← l]; exact r m)
  exact get_meth I.kIn O (c.get m) k.at_ k.fn hn h
theorem setattr_ok {y : V} {u : Value} {Q : Unit → Shared → Prop} (I : Inv X pins σ H s) (e : H a = some (.ins C dx fs)) (c : Cls X.K C) (n : NoAttr X.K C f) (hl : fs.length < 1000) (ry : RelV y u)
    (h : ∀ s', Inv X pins σ (upd H a (.ins C dx (putF f y fs))) s' → Q () s') : wpAny (model X.prog X.w) A (setAttr (.ref a) f u) Q E s := by
  obtain ⟨mA, O, r, wi, _, ho⟩ := ins_get I.hok e
  have hz : (fs.map (·.1)).length ≤ sizeLine := by rw [List.length_map, sizeLine_eq]; omega
  refine set_map I.kIn O c.sa c.po n.taker c.hd wi hz fun h' O' sb => h _ ?_
  have hd : ∃ o, h'.get? dx = some o := let ⟨o, _, _, e', _⟩ := O'.ns; ⟨o, e'⟩
  refine I.write (x := a) (e := dx) (by rw [e]; exact True.intro) (.inr ho) (fun b q hb z => (sb.2 b hb).trans z) hd ?_
  refine ⟨by rw [upd_ne O.ne]; exact ho, ?_, O.ne, O'.obj, _, O'.ns, fun g => ?_, fun g hg => ?_⟩
  · have := length_putF f y fs; omega
  · show RelO ((putF f y fs).lookup g) (if g = f then some u else mA g)
    rw [lookup_putF]
    by_cases q : g = f
    · rw [if_pos q, if_pos q]; exact ry
    · rw [if_neg q, if_neg q]; exact r g
  · by_cases q : g = f
    · rw [q]; exact (keys_putF f y fs).1
    · refine (keys_putF f y fs).2 g (wi g fun z => hg ?_)
      show (if g = f then some u else mA g) = none
      rw [if_neg q]; exact z
theorem Inv.made (I : Inv X pins σ H s) : Inv X pins σ (upd (upd H s.heap.objs.size (.own (s.heap.objs.size + 1))) (s.heap.objs.size + 1) (.ins C s.heap.objs.size []))
    { s with heap := (s.heap.push PySem.W.emptyDict).push (PySem.W.instObj C s.heap.objs.size) } := by
  have e1 : (s.heap.push PySem.W.emptyDict).get? s.heap.objs.size = some PySem.W.emptyDict := Heap.get?_push_size s.heap rfl
  have e2 : ((s.heap.push PySem.W.emptyDict).push (PySem.W.instObj C s.heap.objs.size)).get? (s.heap.objs.size + 1) = some (PySem.W.instObj C s.heap.objs.size) := by
    have := Heap.get?_push_size (s.heap.push PySem.W.emptyDict) (o := PySem.W.instObj C s.heap.objs.size) rfl
    rwa [Heap.size_push] at this
  have e3 : (s.heap.push PySem.W.emptyDict).Ns s.heap.objs.size (fun _ => none) := ⟨PySem.W.emptyDict, #[], _, e1, rfl, (fun e he => absurd he (by simp)), fun _ => rfl⟩
  have I1 := I.laid (a := s.heap.objs.size) (o := .own (s.heap.objs.size + 1)) (h' := s.heap.push PySem.W.emptyDict) (t' := s.toks) (fun b u q => Heap.get?_push_of_some _ q) (Nat.le_refl _) ⟨_, e1⟩
  refine I1.laid (a := s.heap.objs.size + 1) (o := .ins C s.heap.objs.size []) (t' := s.toks) (fun b u q => Heap.get?_push_of_some _ q) (Nat.le_of_eq (Heap.size_push _ _)) ?_
  have ne : s.heap.objs.size ≠ s.heap.objs.size + 1 := Nat.ne_of_lt (Nat.lt_succ_self _)
  refine ⟨by rw [upd_ne ne, upd_same], Nat.zero_le _, ne, e2, fun _ => none, (Heap.Ns1.of_empty e3).at fun o q => Heap.get?_push_of_some _ q, fun _ => True.intro, fun y hy => absurd rfl hy⟩
theorem attr_of {prog : Program} {w : World} {env : Env} {e : Expr} {f : Str} {pos : Pos} {s : Shared} {Q : Value → Shared → Prop} (hb : attributeBase e f env (eval e env) = eval e env)
    (h : wpAny (model prog w) A (eval e env) (fun o s₁ => wpAny (model prog w) A (getAttr o f true) Q E s₁) E s) : wpAny (model prog w) A (eval (.Attribute e f pos) env) Q E s :=
  Attribute_any_ h (by rw [arm_eval_Attribute, hb])
end
section
variable {X : Cx} {o e value : Expr} {f : Str} {pos pos' tpos : Pos} {ta tv : TE}
end
section
variable {X : Cx} {pins : List (Addr × Obj)} {σ : St} {H : Hp} {s : Shared} {A : Around} {E : Value → Shared → Prop} {Q : Value → Shared → Prop} {c : Value} {b : Bool}
inductive TyOf (K : PySem.W.Frag) (H : Hp) : V → Value → Prop where
  | non : TyOf K H .non (.type "NoneType")
  | bl (x : Bool) : TyOf K H (.bl x) (.type "bool")
  | int (i : Int) : TyOf K H (.int i) (.type "int")
  | str (x : Str) : TyOf K H (.str x) (.type "str")
  | flt (x : UInt64) : TyOf K H (.flt x) (.type "float")
  | lst {a : Addr} {xs : List V} (e : H a = some (.lst xs)) : TyOf K H (.ref a) (.type "list")
  | frz {a : Addr} {o : Obj} {xs : List V} (e : H a = some (.frz o (.lst xs))) : TyOf K H (.ref a) (.type "list")
  | tup {a : Addr} {xs : List V} (e : H a = some (.tup xs)) : TyOf K H (.ref a) (.type "tuple")
  | dK {a : Addr} {kvs : List (Key × V)} (e : H a = some (.dK kvs)) : TyOf K H (.ref a) (.type "dict")
  | dT {a : Addr} {kvs : List (List Key × V)} (e : H a = some (.dT kvs)) : TyOf K H (.ref a) (.type "dict")
  | ins {a C dx : Addr} {fs : List (Str × V)} (e : H a = some (.ins C dx fs)) (cl : Cls K C) (ha : PySem.W.findIn K (.ref C) "__class__" = some (some (.builtin "object.__class__")))
      (hn : PySem.W.specialIn K (.builtin "object.__class__") "__get__" = some (some (.builtin "getset_descriptor.__get__"))) (htk : PySem.W.takesIn K (.builtin "object.__class__") = some true)
      (hm : PySem.W.mroIn K C (.type "object") = some true) : TyOf K H (.ref a) (.ref C)
theorem isinst_ok {x : V} {u t : Value} (I : Inv X pins σ H s) (rx : RelV x u) (ty : TyOf X.K H x t) (e : PySem.W.kitOne X.K t c = some b) (h : ∀ tk, Q (.bool b) { s with toks := tk }) :
    wpAny (model X.prog X.w) A (call (.builtin "isinstance") [u, c]) Q E s := by
  cases ty with
  | non => cases (show u = Value.none from rx); exact PySem.W.kia_one PySem.W.kitx_none I.kIn True.intro e (fun z => nomatch z) h
  | bl y => cases (show u = Value.bool y from rx); exact PySem.W.kia_one PySem.W.kitx_bool I.kIn True.intro e (fun z => nomatch z) h
  | int i => obtain ⟨t, q⟩ := (show ∃ t, u = Value.int i t from rx); cases q; exact PySem.W.kia_one PySem.W.kitx_int I.kIn True.intro e (fun z => nomatch z) h
  | str y => obtain ⟨t, q⟩ := (show ∃ t, u = Value.str y t from rx); cases q; exact PySem.W.kia_one PySem.W.kitx_str I.kIn True.intro e (fun z => nomatch z) h
  | flt y => obtain ⟨t, q⟩ := (show ∃ t, u = Value.float y t from rx); cases q; exact PySem.W.kia_one PySem.W.kitx_float I.kIn True.intro e (fun z => nomatch z) h
  | @lst a xs ea =>
    cases (show u = Value.ref a from rx)
    obtain ⟨_, _, n, _, h1⟩ := (show ObjOk X.prog X.w H s.heap a (.lst xs) from I.hok a _ ea)
    exact PySem.W.kia_one PySem.W.kitx_list I.kIn ⟨_, h1, rfl⟩ e (fun z => nomatch z) h
  | @frz a ob xs ea =>
    cases (show u = Value.ref a from rx)
    obtain ⟨_, _, _, n, _, h1⟩ := (show ObjOk X.prog X.w H s.heap a (.frz ob (.lst xs)) from I.hok a _ ea)
    exact PySem.W.kia_one PySem.W.kitx_list I.kIn ⟨_, h1, rfl⟩ e (fun z => nomatch z) h
  | @tup a xs ea =>
    cases (show u = Value.ref a from rx)
    obtain ⟨_, _, _, p⟩ := (show ObjOk X.prog X.w H s.heap a (.tup xs) from I.hok a _ ea)
    obtain ⟨o, h1, h2, _⟩ := p
    exact PySem.W.kia_one PySem.W.kitx_tuple I.kIn ⟨o, h1, h2⟩ e (fun z => nomatch z) h
  | @dK a kvs ea =>
    cases (show u = Value.ref a from rx)
    obtain ⟨_, _, vs, _, p⟩ := (show ObjOk X.prog X.w H s.heap a (.dK kvs) from I.hok a _ ea)
    obtain ⟨o, es, ep, h1, h2, _⟩ := p
    exact PySem.W.kia_one PySem.W.kitx_dict I.kIn ⟨o, h1, h2.1⟩ e (fun z => nomatch z) h
  | @dT a kvs ea =>
    cases (show u = Value.ref a from rx)
    obtain ⟨_, _, xs, _, o, es, ep, h1, h2, _⟩ := (show ObjOk X.prog X.w H s.heap a (.dT kvs) from I.hok a _ ea)
    exact PySem.W.kia_one PySem.W.kitx_dict I.kIn ⟨o, h1, h2.1⟩ e (fun z => nomatch z) h
  | @ins a C dx fs ea cl ha hn htk hm =>
    cases (show u = Value.ref a from rx)
    obtain ⟨mA, O, _⟩ := ins_get I.hok ea
    obtain ⟨od, J, _⟩ := O.look
    exact PySem.W.kia_one (PySem.W.kitx_own (cl.get _) cl.hd ha hn htk hm) I.kIn J e (fun z => nomatch z) h
end
end L2
namespace L2
open PySem PySem.Spec PyProof.Rows
structure Room (k : Nat) (A : Around) : Prop where
  hd : A.handled = none
  dp : A.depth + 3 * k + 5 < recursionLimit
  un : A.units + 16 * k + 200 < cLine
theorem Room.mono {j k : Nat} {A : Around} (r : Room k A) (h : j ≤ k) : Room j A := ⟨r.hd, by have := r.dp; omega, by have := r.un; omega⟩
theorem Room.deeper {k : Nat} {A : Around} (r : Room (k + 1) A) (env : Env) : Room k (A.deeper env) :=
  ⟨r.hd, by have := r.dp; show A.depth + 1 + 3 * k + 5 < _; omega, by have := r.un; show A.units + 3 + 16 * k + 200 < _; omega⟩
theorem Room.in1 {k : Nat} {A : Around} (r : Room (k + 1) A) : Room k A.in1 :=
  ⟨r.hd, by have := r.dp; show A.depth + 3 * k + 5 < _; omega, by have := r.un; show A.units + 1 + 16 * k + 200 < _; omega⟩
theorem make_depth {A : Around} {C : Addr} {us : List Value} {kw : List (Str × Value)} : (A.under (.builtin "type.__call__" ⟨.ref C :: us, kw⟩)).depth = A.depth + 1 := by
  first | rfl | simp [Around.under, Code.weight, Code.isCreation, Code.isGuard, Code.isCaller, Code.frames, Code.isFrame, guardIds]
theorem make_units {A : Around} {C : Addr} {us : List Value} {kw : List (Str × Value)} : (A.under (.builtin "type.__call__" ⟨.ref C :: us, kw⟩)).units = A.units + 1 := by
  first | rfl | simp [Around.under, Code.cUnits, Code.frames, Code.isFrame]
theorem Room.make {k : Nat} {A : Around} (r : Room (k + 1) A) (C : Addr) (us : List Value) (kw : List (Str × Value)) : Room k (A.under (.builtin "type.__call__" ⟨.ref C :: us, kw⟩)) :=
  ⟨r.hd, by have := r.dp; rw [make_depth]; omega, by have := r.un; rw [make_units]; omega⟩
theorem Room.depth {k : Nat} {A : Around} (r : Room k A) : A.depth < recursionLimit := by have := r.dp; omega
theorem Room.units {k : Nat} {A : Around} (r : Room k A) : A.units + 64 < cLine := by have := r.un; omega
def tNil : TA := fun _ H Q => Q [] H
def tCons (ta : TE) (tr : TA) : TA := fun σ H Q => ta σ H fun x H1 => tr σ H1 fun xs H2 => Q (x :: xs) H2
section
variable {X : Cx} {e : Expr} {es : List Expr} {te : TE} {t : TA} {pos : Pos}
theorem pa_nil : PA X [] tNil := fun _ _ _ _ H Q I h => Calls.spliced_nil ⟨[], H, I, .nil, h⟩
theorem pa_cons (ha : PE X e te) (hr : PA X es t) (hs : starEach (e :: es) X.env = (false, eval e X.env) :: starEach es X.env := by rfl) : PA X (e :: es) (tCons te t) := by
  intro pos pins s σ H Q I h
  rw [hs]
  show wpAny _ _ (spliced ((false, eval e X.env) :: backTo pos (starEach es X.env))) _ _ s
  refine Calls.spliced_cons (thn (ha pins s σ H _ I h) fun u s1 ⟨x, H1, I1, r1, q1⟩ => ?_)
  exact thn (hr pos pins s1 σ H1 _ I1 q1) fun us s2 ⟨xs, H2, I2, r2, q2⟩ => ⟨x :: xs, H2, I2, .cons r1 r2, q2⟩
def tTup (t : TA) : TE := fun σ H Q => t σ H fun xs H1 => xs.length ≤ sizeLine ∧ ∀ p, H1 p = none → Q (.ref p) (upd H1 p (.tup xs))
def tLst (t : TA) : TE := fun σ H Q => t σ H fun xs H1 => xs.length ≤ sizeLine ∧ ∀ p, H1 p = none → Q (.ref p) (upd H1 p (.lst xs))
theorem pe_tup {x1} (h : PA X es t) : PE X (.Tuple es x1 pos) (tTup t) := by
  intro pins s σ H Q I hq
  refine wpAny_Tuple_spliced (thn (h pos pins s σ H _ I hq) fun us s1 ⟨xs, H1, I1, r, z, q⟩ => ⟨by rw [← r.length]; exact z, ?_⟩)
  have hf : H1 s1.heap.objs.size = none := I1.hok.fresh (Nat.le_refl _)
  refine ⟨.ref s1.heap.objs.size, upd H1 s1.heap.objs.size (.tup xs), I1.laid (t' := s1.toks) (fun b u e => Heap.get?_push_of_some _ e) (Nat.le_refl _) ?_, rfl, q _ hf⟩
  exact ⟨z, us, r, ⟨_, Heap.get?_push_size _ rfl, rfl, _, rfl⟩⟩
theorem pe_lst (h : PA X es t) : PE X (.List es pos) (tLst t) := by
  intro pins s σ H Q I hq
  refine wpAny_List_spliced (thn (h pos pins s σ H _ I hq) fun us s1 ⟨xs, H1, I1, r, z, q⟩ => ⟨by rw [← r.length]; exact z, ?_⟩)
  have hf : H1 s1.heap.objs.size = none := I1.hok.fresh (Nat.le_refl _)
  refine ⟨.ref s1.heap.objs.size, upd H1 s1.heap.objs.size (.lst xs), I1.laid (t' := s1.toks) (fun b u e => Heap.get?_push_of_some _ e) (Nat.le_refl _) ?_, rfl, q _ hf⟩
  exact ⟨z, us, 0, r, Heap.get?_push_size _ rfl⟩
end
abbrev Sp := List V → Hp → VK → XK → Prop
abbrev CXT := List Env → Hp → Shared → XK → Value → Shared → Prop
structure Env0 (P : Program) (w : World) (K : PySem.W.Frag) (mg : Str → Option Value) (base : Heap) (A : Around) (outer : List Env) (s : Shared) (H : Hp) : Prop where
  frames : A.frames = some outer
  mod : Mod K mg base
  bs : ∀ b o, base.get? b = some o → s.heap.get? b = some o ∧ H b = none
  bsz : base.objs.size ≤ s.heap.objs.size
  funs : s.heap.FunFrames base outer
  frf : ∀ b ∈ frs outer, H b = none
  hok : HOk P w H s.heap
  bare : AllBare s.gens
def CE (outer : List Env) (P : Program) (w : World) (H : Hp) (s : Shared) (Q : VK) (u : Value) (s' : Shared) : Prop :=
  ∃ v H', s'.os = s.os ∧ AllBare s'.gens ∧ Un (frs outer) [] H H' s.heap s'.heap ∧ HOk P w H' s'.heap ∧ RelV v u ∧ Q v H'
def CR (CX : CXT) (outer : List Env) (P : Program) (w : World) (H : Hp) (s : Shared) (Q : VK) (E : XK) (r : Result) (s' : Shared) : Prop :=
  match r with
  | .ok (.ret u) => CE outer P w H s Q u s'
  | .ok _ => False
  | .error e => CX outer H s E e s'
structure FnOk (P : Program) (w : World) (K : PySem.W.Frag) (mg : Str → Option Value) (base : Heap) (CX : CXT) (k : Nat) (f : Addr) (fd : FuncData) (ps : List Str) (sp : Sp) : Prop where
  len : ∀ vs H Q E, sp vs H Q E → vs.length = ps.length
  run : ∀ (A : Around) (outer : List Env) (s : Shared) (H : Hp) (args : Args) (us : List Value) (vs : List V) (Q : VK) (E : XK), Room k A → Env0 P w K mg base A outer s H → BindsTo s fd args (ps.zip us) → Vals vs us → sp vs H Q E →
    codeAny (model P w) A (.call (.ref f) args) (CR CX outer P w H s Q E) s
theorem FnOk.mono {P : Program} {w : World} {K : PySem.W.Frag} {mg : Str → Option Value} {base : Heap} {CX : CXT} {j k : Nat} {f : Addr} {fd : FuncData} {ps : List Str} {sp : Sp} (F : FnOk P w K mg base CX j f fd ps sp) (h : j ≤ k) :
    FnOk P w K mg base CX k f fd ps sp := ⟨F.len, fun A outer s H args us vs Q E hr => F.run A outer s H args us vs Q E (hr.mono h)⟩
theorem FnOk.imp {P : Program} {w : World} {K : PySem.W.Frag} {mg : Str → Option Value} {base : Heap} {CX : CXT} {k : Nat} {f : Addr} {fd : FuncData} {ps : List Str} {sp sp' : Sp} (F : FnOk P w K mg base CX k f fd ps sp)
    (h : ∀ vs H Q E, sp' vs H Q E → sp vs H Q E) : FnOk P w K mg base CX k f fd ps sp' :=
  ⟨fun vs H Q E q => F.len vs H Q E (h _ _ _ _ q), fun A outer s H args us vs Q E hr he hb hv hs => F.run A outer s H args us vs Q E hr he hb hv (h _ _ _ _ hs)⟩
theorem Env0.make {P : Program} {w : World} {K : PySem.W.Frag} {mg : Str → Option Value} {base : Heap} {A : Around} {outer : List Env} {s : Shared} {H : Hp} (e : Env0 P w K mg base A outer s H) (C : Addr) (us : List Value) (kw : List (Str × Value)) :
    Env0 P w K mg base (A.under (.builtin "type.__call__" ⟨.ref C :: us, kw⟩)) outer s H := ⟨by first | exact e.frames | (simpa [Around.under, Code.envs, Code.isFrame, pushEnvs] using e.frames), e.mod, e.bs, e.bsz, e.funs, e.frf, e.hok, e.bare⟩
theorem Env0.in1 {P : Program} {w : World} {K : PySem.W.Frag} {mg : Str → Option Value} {base : Heap} {A : Around} {outer : List Env} {s : Shared} {H : Hp} (e : Env0 P w K mg base A outer s H) :
    Env0 P w K mg base A.in1 outer s H := ⟨e.frames, e.mod, e.bs, e.bsz, e.funs, e.frf, e.hok, e.bare⟩
section
variable {X : Cx} {pins : List (Addr × Obj)} {σ : St} {H : Hp} {s s' : Shared}
theorem Inv.env0 (I : Inv X pins σ H s) : Env0 X.prog X.w X.K X.mg X.base X.A X.stack s H :=
  ⟨I.ok.frames, I.ok.mod, I.bs, Nat.le_trans I.ok.bsz I.sz, I.stack, I.stkFree, I.hok, I.bare⟩
theorem Inv.after {Q : VK} {u : Value} (I : Inv X pins σ H s) (h : CE X.stack X.prog X.w H s Q u s') : EP X pins σ Q u s' := by
  obtain ⟨v, H', os, bare, un, hok, r, q⟩ := h
  obtain ⟨hh, g, d, t, os'⟩ := s'
  obtain rfl : os' = s.os := os
  exact ⟨v, H', I.call (h' := hh) (g' := g) (d' := d) (t' := t) (ch := []) un hok bare (fun b z => absurd z (by simp)), r, q⟩
end
def Binds (K : PySem.W.Frag) (fd : FuncData) (ps : List Str) (ds : List Value) : Prop :=
  ∀ (s : Shared) (us : List Value), K.In s.heap → (us ++ ds).length = ps.length → BindsTo s fd ⟨us, []⟩ (ps.zip (us ++ ds))
theorem Binds.all {K : PySem.W.Frag} {fd : FuncData} {ps : List Str} (h : ∀ us : List Value, us.length = ps.length → bindArgs fd ⟨us, []⟩ = pure (ps.zip us)) : Binds K fd ps [] := fun s us _ hl => by
  rw [List.append_nil] at hl ⊢
  exact .of_eq (h us hl)
section
variable {X : Cx} {CX : CXT} {k : Nat} {f C : Addr} {fd : FuncData} {ps : List Str} {sp : Sp} {dvs : List V} {ds : List Value} {E : XK} {x m : Str} {p pos apos : Pos} {e o : Expr} {es : List Expr} {ta : TE} {t : TA}
structure Mk (K : PySem.W.Frag) (C f : Addr) : Prop where
  makes : PySem.W.makesIn K C = true
  init : PySem.W.findIn K (.ref C) "__init__" = some (some (.ref f))
  fn : PySem.W.isFn K (.ref f) = true
  kp : PySem.W.keepIn K (.ref C) = true
end
section
variable {X : Cx} {CX : CXT} {k : Nat} {f C : Addr} {fd : FuncData} {ps ks : List Str} {sp : Sp} {E : XK} {x m : Str} {p pos apos kpos : Pos} {e o : Expr} {es : List Expr} {kws : List Keyword} {te ta : TE} {t tk : TA} {nm : Option Str}
variable {g : List Value → List Value → List Value} {gV : List V → List V → List V}
end
structure FnScope (N P : List Str) (sc : Scope) : Prop where
  kind : sc.kind = .function
  co : sc.isCoroutine = false
  gen : sc.isGenerator = false
  nd : N.Nodup
  pre : N.take P.length = P
  par : ∀ x ∈ P, sc.names.lookup x = some .local ∨ sc.names.lookup x = some .cell
  nofree : ∀ y ∈ sc.names, y.2 ≠ .free
theorem bindL_out {kindOf : Str → Option NameKind} {x : Str} : ∀ {binds : List (Str × Value)} {m : Str → Option Value}, (∀ v, (x, v) ∉ binds) → bindL kindOf binds m x = m x
  | [], _, _ => rfl
  | (n, v) :: r, m, h => by
    unfold bindL
    rw [bindL_out fun w hw => h w (List.mem_cons_of_mem _ hw)]
    split
    · have : x ≠ n := by rintro rfl; exact h v List.mem_cons_self
      simp [this]
    · rfl
theorem bindC_out {kindOf : Str → Option NameKind} {x : Str} : ∀ {binds : List (Str × Value)} {m : Str → Option Value}, (∀ v, (x, v) ∉ binds) → bindC kindOf binds m x = m x
  | [], _, _ => rfl
  | (n, v) :: r, m, h => by
    unfold bindC
    rw [bindC_out fun w hw => h w (List.mem_cons_of_mem _ hw)]
    split
    · rfl
    · have : x ≠ n := by rintro rfl; exact h v List.mem_cons_self
      simp [this]
theorem bindL_get {kindOf : Str → Option NameKind} {x : Str} {v : Value} : ∀ {P : List Str} {vs : List Value} {i : Nat} {m : Str → Option Value}, P.Nodup → P[i]? = some x → vs[i]? = some v → kindOf x = some .local →
    bindL kindOf (P.zip vs) m x = some v
  | [], _, _, _, _, h, _, _ => by simp at h
  | _ :: _, [], _, _, _, _, h, _ => by simp at h
  | p :: P, w :: vs, 0, m, nd, h1, h2, hk => by
    simp at h1 h2; subst h1; subst h2
    show bindL kindOf ((p, w) :: P.zip vs) m p = _
    unfold bindL
    rw [bindL_out fun v hv => (List.nodup_cons.mp nd).1 (List.of_mem_zip hv).1, if_pos hk]
    simp
  | p :: P, w :: vs, i + 1, m, nd, h1, h2, hk => by
    show bindL kindOf ((p, w) :: P.zip vs) m x = _
    unfold bindL
    exact bindL_get (i := i) (List.nodup_cons.mp nd).2 (by simpa using h1) (by simpa using h2) hk
theorem bindC_get {kindOf : Str → Option NameKind} {x : Str} {v : Value} : ∀ {P : List Str} {vs : List Value} {i : Nat} {m : Str → Option Value}, P.Nodup → P[i]? = some x → vs[i]? = some v → kindOf x ≠ some .local →
    bindC kindOf (P.zip vs) m x = some v
  | [], _, _, _, _, h, _, _ => by simp at h
  | _ :: _, [], _, _, _, _, h, _ => by simp at h
  | p :: P, w :: vs, 0, m, nd, h1, h2, hk => by
    simp at h1 h2; subst h1; subst h2
    show bindC kindOf ((p, w) :: P.zip vs) m p = _
    unfold bindC
    rw [bindC_out fun v hv => (List.nodup_cons.mp nd).1 (List.of_mem_zip hv).1, if_neg hk]
    simp
  | p :: P, w :: vs, i + 1, m, nd, h1, h2, hk => by
    show bindC kindOf ((p, w) :: P.zip vs) m x = _
    unfold bindC
    exact bindC_get (i := i) (List.nodup_cons.mp nd).2 (by simpa using h1) (by simpa using h2) hk
def start (N : List Str) (vs : List V) : St := vs.map some ++ List.replicate (N.length - vs.length) none
def cxOf (CX : CXT) (P : Program) (w : World) (K : PySem.W.Frag) (mg : Str → Option Value) (base : Heap) (N : List Str) (qual : Str) (scope : Scope) (f : Addr) (cd : Value) (A : Around) (outer : List Env) (s : Shared) (H : Hp) (E : XK) : Cx where
  prog := P
  w := w
  K := K
  mg := mg
  base := base
  A := A.deeper (envOfC qual scope s.heap.objs.size f cd)
  N := N
  s₀ := s
  H₀ := H
  env := envOfC qual scope s.heap.objs.size f cd
  outer := outer
  stack := envOfC qual scope s.heap.objs.size f cd :: outer
  ex := []
  calm := true
  fn := fun _ => true
  pn := []
  xe := fun e s' => wpAny (model P w) (A.deeper (envOfC qual scope s.heap.objs.size f cd)) (leaving (envOfC qual scope s.heap.objs.size f cd) e) (fun _ s'' => CX outer H s E e s'') (fun e' s'' => CX outer H s E e' s'') s'
theorem cell_has {sc : Scope} {n : Nat} {x : Str} (h : sc.names.lookup x = some .cell) : ∃ c, (cellsFrom n sc.names []).lookup x = some c := by
  have q := PySem.W.cellsFrom_some sc.names n [] (.inl h)
  exact Option.isSome_iff_exists.mp q
theorem inv_start {CX : CXT} {P : Program} {w : World} {K : PySem.W.Frag} {mg : Str → Option Value} {base : Heap} {N ps : List Str} {qual : Str} {scope : Scope} {f : Addr} {cd : Value} {A : Around} {outer : List Env} {s s1 : Shared} {H : Hp} {E : XK} {us : List Value} {vs : List V}
    (S : FnScope N ps scope) (hd : A.handled = none) (e0 : Env0 P w K mg base A outer s H) (hl : vs.length = ps.length) (r : Vals vs us)
    (x : InCallC s s.heap.objs.size (bindL (envOfC qual scope s.heap.objs.size f cd).kindOf (ps.zip us) fun _ => none) (cellsFrom (s.heap.objs.size + 1) scope.names []) (bindC (envOfC qual scope s.heap.objs.size f cd).kindOf (ps.zip us) fun _ => none) s1) :
    Inv (cxOf CX P w K mg base N qual scope f cd A outer s H E) [] (start N vs) H s1 := by
  have hpl : ps.length ≤ N.length := by have := congrArg List.length S.pre; rw [List.length_take] at this; omega
  obtain ⟨h1, tk, rfl, hk⟩ := x.done
  have noA : ∀ b : Addr, b ∉ (cxOf CX P w K mg base N qual scope f cd A outer s H E).ex := fun b z => absurd (show b ∈ ([] : List Addr) from z) (by simp)
  refine ⟨⟨e0.mod, S.kind, rfl, rfl, Nat.le_refl _, fun y z c h1 h2 => ?_, fun y hy => ?_, fun y c _ h => ?_, fun _ => hd, Around.frames_deeper e0.frames, .inr ⟨rfl, rfl⟩, fun b z => absurd z (noA b), e0.bs, e0.bsz, fun b _ _ => noA b, fun b z => absurd z (noA b), e0.funs, e0.frf⟩,
    rfl, e0.bare, Un.kept hk, ⟨_, x.toInCall.ns, fun i y v h1 h2 h3 => ?_⟩, fun y c h => ⟨_, x.cell y c h⟩, e0.hok.fresh (Nat.le_refl _), fun y c h => ?_, fun p hp => absurd (show p ∈ ([] : List (Addr × Obj)) from hp) (by simp), e0.hok.kept hk, ?_⟩
  · exact name_of_addr x.apart (PySem.mem_of_lookup h1) (PySem.mem_of_lookup h2)
  · have hy : scope.names.lookup y = some .cell ∨ scope.names.lookup y = some .free := hy
    rcases hy with hy | hy
    · exact cell_has hy
    · exact absurd rfl (S.nofree _ (PySem.mem_of_lookup hy))
  · exact Nat.le_of_lt (x.above y c (PySem.mem_of_lookup h))
  · have hi : i < vs.length := by
      unfold start at h2
      by_cases hi : i < vs.length
      · exact hi
      · rw [List.getElem?_append_right (by simpa using hi)] at h2
        rw [List.getElem?_replicate] at h2
        split at h2 <;> cases h2
    have ha : vs[i]? = some v := by
      unfold start at h2
      rw [List.getElem?_append_left (by simpa using hi), List.getElem?_map] at h2
      cases e : vs[i]? with
      | none => rw [e] at h2; cases h2
      | some a => rw [e] at h2; cases h2; rfl
    obtain ⟨u, hu, rv⟩ := r.get ha
    have hp : ps[i]? = some y := by
      rw [← S.pre, List.getElem?_take_of_lt (by omega)]; exact h1
    have ndP : ps.Nodup := by rw [← S.pre]; exact S.nd.sublist (List.take_sublist _ _)
    refine ⟨u, rv, ?_⟩
    rcases S.par y (List.mem_of_getElem? hp) with k | k
    · exact .inl ⟨k, bindL_get ndP hp hu k⟩
    · obtain ⟨c, e⟩ := cell_has (n := s.heap.objs.size + 1) k
      refine .inr ⟨.inl k, c, e, ?_⟩
      have q := x.cell y c e
      rw [bindC_get ndP hp hu (by show scope.names.lookup y ≠ _; rw [k]; decide)] at q
      exact q
  · exact e0.hok.fresh (Nat.le_of_lt (x.above y c (PySem.mem_of_lookup h)))
  · unfold start
    show _ = N.length
    rw [List.length_append, List.length_map, List.length_replicate]
    omega
theorem fn_of {CX : CXT} {P : Program} {w : World} {K : PySem.W.Frag} {mg : Str → Option Value} {base : Heap} {k : Nat} {f : Addr} {name qual : Str} {params : Arguments} {body : List Stmt} {scope : Scope} {dV kV doc pm cdv ct oc : Value} {an od : Option Addr}
    {osl : Array (Option Value)} {N ps : List Str} {sp : Sp} (lk : K.lookup f = some ⟨oc, od, .func (PySem.W.fnOf name qual params body scope dV kV doc pm an cdv ct), osl⟩) (hcd : PySem.W.codeIn K cdv qual = true) (S : FnScope N ps scope)
    (len : ∀ vs H Q E, sp vs H Q E → vs.length = ps.length)
    (hbody : ∀ (A : Around) (outer : List Env) (s : Shared) (H : Hp) (vs : List V) (Q : VK) (E : XK), Room k (A.deeper (envOfC qual scope s.heap.objs.size f cdv)) → sp vs H Q E →
      ∃ t, PSs (cxOf CX P w K mg base N qual scope f cdv A outer s H E) body t ∧ t { nx := fun _ H' => Q .non H', rt := Q } (start N vs) H) :
    FnOk P w K mg base CX (k + 1) f (PySem.W.fnOf name qual params body scope dV kV doc pm an cdv ct) ps sp := by
  refine ⟨len, fun A outer s H args us vs Q E hr e0 hb r hsp => ?_⟩
  have hl := len _ _ _ _ hsp
  have KX : K.In s.heap := e0.mod.kin.keeps fun b o e => (e0.bs b o e).1
  have lim : s.heap.NoLimit := e0.mod.nolimit.keeps fun b o e => (e0.bs b o e).1
  have hkind : ∀ y ∈ ps.zip us, scope.names.lookup y.1 = some .local ∨ (scope.names.lookup y.1 = some .cell ∧ ((cellsFrom (s.heap.objs.size + 1) scope.names []).lookup y.1).isSome = true) := fun ⟨n, v⟩ hy => by
    rcases S.par n (List.of_mem_zip hy).1 with q | q
    · exact .inl q
    · exact .inr ⟨q, PySem.W.cellsFrom_some _ _ _ (.inl q)⟩
  refine codeAny_call_function hr.depth (KX _ _ lk) rfl S.co S.gen rfl (PySem.W.codeRec_of KX hcd) (hb _ _ _ _ ?_)
  refine wpAny_newFunctionEnv_cells S.kind hkind fun env he s1 x => ?_
  subst he
  refine ⟨lim.keeps x.toInCall.keep, codeAny_func ?_⟩
  obtain ⟨t, ht, hq⟩ := hbody A outer s H vs Q E (hr.deeper _) hsp
  have I : Inv (cxOf CX P w K mg base N qual scope f cdv A outer s H E) [] (start N vs) H s1 := inv_start S hr.hd e0 hl r x
  refine wpAny_mono (ht [] s1 (start N vs) H _ I hq) (fun fl s' hs => ?_) fun e s' hs => hs
  have fin : ∀ {σ' : St} {H' : Hp} {v : V} {u : Value}, Inv (cxOf CX P w K mg base N qual scope f cdv A outer s H E) [] σ' H' s' → RelV v u → Q v H' → CE outer P w H s Q u s' :=
    fun {σ' H' v u} J rv q => ⟨v, H', J.os, J.bare, J.base, J.hok, rv, q⟩
  cases fl with
  | ret u =>
    obtain ⟨v, σ', H', J, rv, q⟩ := hs
    exact fin J rv q
  | next =>
    obtain ⟨σ', H', J, q⟩ := hs
    exact fin (v := V.non) (u := Value.none) J rfl q
  | brk =>
    obtain ⟨_, _, _, q⟩ := hs
    exact False.elim q
  | cont =>
    obtain ⟨_, _, _, q⟩ := hs
    exact False.elim q
end L2
namespace L2
open PySem PySem.Spec PyProof.Rows
section
variable {X : Cx} {x : Str} {p pos : Pos} {e : Expr} {es : List Expr} {t : TA} {id T : String} {r : List V → Hp → VK → Prop}
def tCB (r : List V → Hp → VK → Prop) (t : TA) : TE := fun σ H Q => t σ H fun vs H1 => r vs H1 Q
theorem pe_callB (hc : CallR X (.builtin id) r) (hg : Gl X x) (hm : X.mg x = none) (hv : bootBuiltins x = some (.builtin id)) (ha : PA X (e :: es) t) (hn : x ≠ "__name__" := by decide) (hdb : (x == ("__debug__" : Str)) = false := by decide)
    (he : starEach (e :: es) X.env = (false, eval e X.env) :: starEach es X.env := by rfl) (hpl : (backTo pos (starEach es X.env)).any (·.1) = false := by rfl) : PE X (.Call (.Name x p) (e :: es) [] pos) (tCB r t) := by
  intro pins s σ H Q I h
  refine wpAny_Call_Name_kw (ld_blt I hg hm hv ?_ hn hdb)
  exact PyProof.Rows.callWith_builtin1 (thn (ha pos pins s σ H _ I h) fun us s1 ⟨vs, H1, I1, r1, q1⟩ => hc pins s1 σ H1 vs us Q I1 r1 q1) he hpl
theorem pe_callTy (hc : CallR X (.type T) r) (hg : Gl X x) (hm : X.mg x = none) (hv : bootBuiltins x = some (.type T)) (ha : PA X (e :: es) t) (hn : x ≠ "__name__" := by decide) (hdb : (x == ("__debug__" : Str)) = false := by decide)
    (he : starEach (e :: es) X.env = (false, eval e X.env) :: starEach es X.env := by rfl) (hpl : (backTo pos (starEach es X.env)).any (·.1) = false := by rfl) : PE X (.Call (.Name x p) (e :: es) [] pos) (tCB r t) := by
  intro pins s σ H Q I h
  refine wpAny_Call_Name_kw (ld_blt I hg hm hv ?_ hn hdb)
  exact PyProof.Rows.callWith_type1 (thn (ha pos pins s σ H _ I h) fun us s1 ⟨vs, H1, I1, r1, q1⟩ => hc pins s1 σ H1 vs us Q I1 r1 q1) he hpl
end
end L2
namespace HT
open PySem PyProof.Rows
section
open PySem.SeqAt
open PySem.AutoSeq1 (wpAny_loadPart')
open PySem.MeetsSeq PySem.MeetsSeq2 PySem.MeetsSeq3
end
section
variable {prog : Program} {w : World} {A : Around} {E : Value → Shared → Prop} {s : Shared}
def sIx (n d : Nat) : Option Int → Nat
  | none => d
  | some v => if v < 0 then (v + (n : Int)).toNat else min v.toNat n
theorem sIx_none (n d : Nat) : sIx n d none = d := rfl
theorem sIx_nat (n d k : Nat) : sIx n d (some (k : Int)) = min k n := by
  show (if (k : Int) < 0 then ((k : Int) + (n : Int)).toNat else min (k : Int).toNat n) = min k n
  rw [if_neg (by omega), Int.toNat_natCast]
theorem sIx_le (n d : Nat) (hd : d ≤ n) (o : Option Int) : sIx n d o ≤ n := by
  cases o with
  | none => exact hd
  | some v =>
    show (if v < 0 then (v + (n : Int)).toNat else min v.toNat n) ≤ n
    by_cases hv : v < 0
    · rw [if_pos hv]; omega
    · rw [if_neg hv]; exact Nat.min_le_right _ _
theorem clip_eq (v : Int) (n d : Nat) : (if v < 0 then max (v + (n : Int)) 0 else min v (n : Int)) = ((sIx n d (some v) : Nat) : Int) := by
  show (if v < 0 then max (v + (n : Int)) 0 else min v (n : Int)) = (((if v < 0 then (v + (n : Int)).toNat else min v.toNat n) : Nat) : Int)
  by_cases hv : v < 0
  · simp only [if_pos hv]; omega
  · simp only [if_neg hv]; omega
theorem adjust_gen (lo hi : Option Int) (n : Nat) : Builtin.Slice.sliceAdjust lo hi 1 (n : Int) = (((sIx n 0 lo : Nat) : Int), ((sIx n n hi : Nat) : Int)) := by
  have h1 : ¬ ((1 : Int) < 0) := by omega
  unfold Builtin.Slice.sliceAdjust
  simp only [h1, if_false]
  refine Prod.ext ?_ ?_
  · cases lo with
    | none => rfl
    | some v => exact clip_eq v n 0
  · cases hi with
    | none => rfl
    | some v => exact clip_eq v n n
theorem places_gen (i j : Nat) : Builtin.Slice.slicePlaces (i : Int) (j : Int) 1 = j - i := by
  unfold Builtin.Slice.slicePlaces
  have h1 : (1 : Int) > 0 := by omega
  simp only [h1, if_true, Int.ediv_one]
  split <;> omega
theorem slicePart_ {v : Value} {o : Option Int} {Q : Option Int → Shared → Prop} (p : IsPart v o) (h : Q o s) : wpAny (model prog w) A (Builtin.Slice.slicePartIndex v) Q E s := by
  cases p with
  | none => exact slicePart_none h
  | int i t => exact slicePart_int h
theorem sliceApplied_gen {sl : Addr} {vl vu : Value} {lo hi : Option Int} {n : Nat} {Q : Int × Int × Nat → Shared → Prop} (hs : s.heap.IsSliceOf sl vl vu .none) (pl : IsPart vl lo) (pu : IsPart vu hi)
    (h : Q (((sIx n 0 lo : Nat) : Int), 1, sIx n n hi - sIx n 0 lo) s) : wpAny (model prog w) A (Builtin.Slice.sliceApplied (.ref sl) (pure (n : Int))) Q E s := by
  obtain ⟨os, hos, hcs, hds⟩ := id hs
  unfold Builtin.Slice.sliceApplied Builtin.Slice.sliceFields
  refine wpAny_bind (wpAny_bind (wpAny_field hos hds (x := vl) rfl (wpAny_bind (wpAny_field hos hds (x := vu) rfl (wpAny_bind (wpAny_field hos hds (x := .none) rfl (wpAny_pure ?_)))))))
  refine wpAny_bind (slicePart_none ?_)
  show wpAny _ _ (if ((1 : Int) == 0) = true then _ else _) _ _ s
  rw [if_neg (by decide)]
  refine wpAny_bind (slicePart_ pl (wpAny_bind (slicePart_ pu (wpAny_bind (wpAny_pure ?_)))))
  show wpAny _ _ (match Builtin.Slice.sliceAdjust lo hi 1 (n : Int) with | (lo, hi) => pure (lo, (1 : Int), Builtin.Slice.slicePlaces lo hi 1)) _ _ s
  rw [adjust_gen lo hi n]
  show wpAny _ _ (pure (((sIx n 0 lo : Nat) : Int), (1 : Int), Builtin.Slice.slicePlaces ((sIx n 0 lo : Nat) : Int) ((sIx n n hi : Nat) : Int) 1)) _ _ s
  rw [places_gen]
  exact wpAny_pure h
theorem pick_gen (xs : Array Value) (i k : Nat) : ((List.range k).filterMap fun (m : Nat) => xs[((i : Int) + (m : Int) * 1).toNat]?).toArray = ((xs.toList.drop i).take k).toArray := by
  have e : (fun (m : Nat) => xs[((i : Int) + (m : Int) * 1).toNat]?) = fun m => xs[i + m]? := by
    funext m
    have : ((i : Int) + (m : Int) * 1).toNat = i + m := by omega
    rw [this]
  rw [e]
  have := pick_run xs i k
  rw [List.filterMap_map] at this
  have e2 : ((fun x => xs[x]?) ∘ fun x => i + x) = fun m => xs[i + m]? := rfl
  rw [e2] at this
  rw [this]
theorem getItem_tuple_cut {t sl : Addr} {items : Array Value} {vl vu : Value} {lo hi : Option Int} {Q : Value → Shared → Prop} (ht : IsTup s.heap t items) (hs : s.heap.IsSliceOf sl vl vu .none) (pl : IsPart vl lo) (pu : IsPart vu hi)
    (hw : ¬ (sIx items.size 0 lo = 0 ∧ sIx items.size items.size hi = items.size))
    (h : Q (.ref s.heap.objs.size) { s with heap := s.heap.push { cls := .type "tuple", data := .seq ((items.toList.drop (sIx items.size 0 lo)).take (sIx items.size items.size hi - sIx items.size 0 lo)).toArray } })
    (hsz : items.size ≤ sizeLine) : wpAny (model prog w) A (getItem (.ref t) (.ref sl)) Q E s := by
  have htake : sizeOk (.seq ((items.toList.drop (sIx items.size 0 lo)).take (sIx items.size items.size hi - sIx items.size 0 lo)).toArray) := by
    show ((items.toList.drop (sIx items.size 0 lo)).take (sIx items.size items.size hi - sIx items.size 0 lo)).toArray.size ≤ sizeLine
    rw [List.size_toArray, List.length_take, List.length_drop, Array.length_toList]
    omega
  have hj : sIx items.size items.size hi ≤ items.size := sIx_le _ _ (Nat.le_refl _) hi
  obtain ⟨os, hos, hcs, hds⟩ := id hs
  have hTs : s.TypeIs (.ref sl) "slice" := ⟨os, hos, hcs⟩
  unfold getItem
  try with_reducible refine wpAny_holding ?_
  first | refine wpAny_bind (wpAny_pure ?_) | skip
  refine wpAny_bind (wpAny_sequenceKey ht.typeIs (by decide) ?_)
  refine wpAny_bind (wpAny_callSpecial?_slot (name := Str.ofString "__getitem__") ht.typeIs PyProof.Rows.slot_tuple_getitem
    (wpAny_call_entry PyProof.Rows.slot_tuple_getitem ht.typeIs entry_tuple_getitem ?_ (args_tuple_getitem _ _)))
  show wpAny _ _ (Builtin.Tuple.tupleItemsOf (.ref t) >>= _) _ _ s
  refine wpAny_bind (tupleItemsOf_ ht ?_)
  refine wpAny_bind (wpAny_typeOf hTs ?_)
  rw [if_pos (by decide)]
  refine wpAny_bind (sliceApplied_gen hs pl pu ?_)
  have hno : ¬ ((((sIx items.size 0 lo : Nat) : Int) == 0 && (1 : Int) == 1 && (sIx items.size items.size hi - sIx items.size 0 lo) == items.size) = true) := by
    intro q
    rw [Bool.and_eq_true, Bool.and_eq_true] at q
    have q1 : ((sIx items.size 0 lo : Nat) : Int) = 0 := eq_of_beq q.1.1
    have q2 : sIx items.size items.size hi - sIx items.size 0 lo = items.size := eq_of_beq q.2
    exact hw ⟨by omega, by omega⟩
  show wpAny _ _ (if (((sIx items.size 0 lo : Nat) : Int) == 0 && (1 : Int) == 1 && (sIx items.size items.size hi - sIx items.size 0 lo) == items.size) = true then _ else _) _ _ s
  rw [if_neg hno, pick_gen]
  first
    | exact wpAny_bind (m := Builtin.Tuple.tupleExact _) (wpAny_newObj_type (wpAny_pure ⟨_, rfl, wpAny_pure h⟩) htake)
    | exact wpAny_bind (m := Builtin.Tuple.tupleExact _) (wpAny_newObj_type (wpAny_bind (wpAny_pure (wpAny_pure ⟨_, rfl, wpAny_pure h⟩))) htake)
    | exact wpAny_bind (wpAny_bind (m := Builtin.Tuple.tupleExact _) (wpAny_newObj_type (wpAny_pure (wpAny_pure ⟨_, rfl, wpAny_pure h⟩)) htake))
    | exact wpAny_bind (wpAny_bind (m := Builtin.Tuple.tupleExact _) (wpAny_newObj_type (wpAny_pure ⟨_, rfl, wpAny_pure h⟩) htake))
end
end HT
namespace L2
open PySem PySem.Spec PyProof.Rows
abbrev TO := St → Hp → (Option Int → Hp → Prop) → Prop
def PO (X : Cx) (e : Option Expr) (t : TO) : Prop :=
  ∀ (pins : List (Addr × Obj)) (s : Shared) (σ : St) (H : Hp) (Q : Option Int → Hp → Prop), Inv X pins σ H s → t σ H Q →
    wpAny (model X.prog X.w) X.A (evalPart e X.env) (fun u s' => ∃ o H', Inv X pins σ H' s' ∧ IsPart u o ∧ Q o H') X.xe s
def tNoPart : TO := fun _ H Q => Q none H
def tPart (t : TE) : TO := fun σ H Q => t σ H fun x H1 => ∃ i, x = .int i ∧ Q (some i) H1
theorem intsAre_of {ns : List Int} : ∀ {us : List Value}, Vals (ns.map V.int) us → IntsAre us ns := by
  induction ns with
  | nil => intro us r; rw [List.map_nil] at r; cases r; exact .nil
  | cons n ns ih =>
    intro us r
    rw [List.map_cons] at r
    cases r with
    | cons r1 r2 =>
      obtain ⟨t, e⟩ := r1
      subst e
      exact .cons n t (ih r2)
section
variable {X : Cx} {e : Expr} {te : TE} {lo hi : Option Expr} {tl th : TO} {pos p2 : Pos}
theorem po_none : PO X none tNoPart := by
  intro pins s σ H Q I h
  rw [evalPart_none]
  exact wpAny_pure ⟨none, H, I, .none, h⟩
theorem po_some (h : PE X e te) : PO X (some e) (tPart te) := by
  intro pins s σ H Q I hw
  rw [evalPart_some]
  refine thn (h pins s σ H _ I hw) fun u s1 ⟨x, H1, I1, r1, q1⟩ => ?_
  obtain ⟨i, rfl, q⟩ := q1
  obtain ⟨t, rfl⟩ := r1
  exact ⟨some i, H1, I1, .int i t, q⟩
def SlR (X : Cx) (r : V → Option Int → Option Int → Hp → VK → Prop) : Prop :=
  ∀ (pins : List (Addr × Obj)) (s : Shared) (σ : St) (H : Hp) (x : V) (v vl vu : Value) (lo hi : Option Int) (sl : Addr) (Q : VK), Inv X pins σ H s → RelV x v → s.heap.IsSliceOf sl vl vu .none → IsPart vl lo → IsPart vu hi → r x lo hi H Q →
    ∃ T id, typeLookup (.type T) "__getitem__" = pure (some (.builtin id)) ∧ s.TypeIs v T ∧ wpAny (model X.prog X.w) X.A (getItem v (.ref sl)) (EP X pins σ Q) X.xe s
theorem SlR.or {r r' : V → Option Int → Option Int → Hp → VK → Prop} (h : SlR X r) (h' : SlR X r') : SlR X (fun x lo hi H Q => r x lo hi H Q ∨ r' x lo hi H Q) := by
  intro pins s σ H x v vl vu lo hi sl Q I rx hs pl pu q
  rcases q with q | q
  · exact h pins s σ H x v vl vu lo hi sl Q I rx hs pl pu q
  · exact h' pins s σ H x v vl vu lo hi sl Q I rx hs pl pu q
def tSl (r : V → Option Int → Option Int → Hp → VK → Prop) (te : TE) (tl th : TO) : TE := fun σ H Q => te σ H fun x H1 => tl σ H1 fun l H2 => th σ H2 fun u H3 => r x l u H3 Q
theorem pe_slice {r : V → Option Int → Option Int → Hp → VK → Prop} (hr : SlR X r) (he : PE X e te) (hl : PO X lo tl) (hu : PO X hi th) : PE X (.Subscript e (.Slice lo hi none p2) pos) (tSl r te tl th) := by
  intro pins s σ H Q I h
  refine Subscript_ (thn (he pins s σ H _ I h) fun v s1 ⟨x, H1, I1, r1, q1⟩ => ?_)
  refine wpAny_Slice (thn (hl pins s1 σ H1 _ I1 q1) fun vl s2 ⟨l, H2, I2, pl, q2⟩ => thn (hu pins s2 σ H2 _ I2 q2) fun vu s3 ⟨u, H3, I3, pu, q3⟩ => ?_)
  rw [evalPart_none]
  refine wpAny_pure ?_
  have I4 : Inv X pins σ H3 { s3 with heap := s3.heap.push { cls := .type "slice", data := .fields #[vl, vu, .none] } } := I3.kept (t' := s3.toks) fun b ob q => Heap.get?_push_of_some _ q
  obtain ⟨T, id, hT, ht, hg⟩ := hr pins { s3 with heap := s3.heap.push { cls := .type "slice", data := .fields #[vl, vu, .none] } } σ H3 x v vl vu l u s3.heap.objs.size Q I4 r1 (Heap.IsSliceOf.new ..) pl pu q3
  show wpAny (model X.prog X.w) X.A (subscriptTail e (.Slice lo hi none p2) v (.ref s3.heap.objs.size)) (EP X pins σ Q) X.xe { s3 with heap := s3.heap.push { cls := .type "slice", data := .fields #[vl, vu, .none] } }
  exact tail_any (ops := [.ref s3.heap.objs.size, v]) ht hT hg (by with_unfolding_all rfl)
def cutV (xs : List V) (lo hi : Option Int) : List V := (xs.drop (HT.sIx xs.length 0 lo)).take (HT.sIx xs.length xs.length hi - HT.sIx xs.length 0 lo)
theorem cutV_length (xs : List V) (lo hi : Option Int) : (cutV xs lo hi).length ≤ xs.length := by
  unfold cutV
  rw [List.length_take, List.length_drop]
  omega
def rSlT (K : PySem.W.Frag) : V → Option Int → Option Int → Hp → VK → Prop := fun x lo hi H Q => ∃ a xs, x = .ref a ∧ SqT K H a xs ∧
  ¬ (HT.sIx xs.length 0 lo = 0 ∧ HT.sIx xs.length xs.length hi = xs.length) ∧ ∀ p, H p = none → Q (.ref p) (upd H p (.tup (cutV xs lo hi)))
theorem sl_tup : SlR X (rSlT X.K) := by
  intro pins s σ H x v vl vu lo hi sl Q I rx hs pl pu h
  obtain ⟨a, xs, rfl, hx, hw, q⟩ := h
  cases rx
  obtain ⟨its, r, ht, hz⟩ := I.tuple hx
  have hlen : its.toArray.size = xs.length := by rw [List.size_toArray]; exact r.length.symm
  refine ⟨"tuple", _, PyProof.Rows.slot_tuple_getitem.lookup, ht.typeIs, ?_⟩
  refine HT.getItem_tuple_cut ht hs pl pu (by rw [hlen]; exact hw) ?_ (by rw [hlen]; exact hz)
  rw [hlen]
  refine ⟨.ref s.heap.objs.size, _, I.laid (t' := s.toks) (o := .tup (cutV xs lo hi)) (fun b ob q => Heap.get?_push_of_some _ q) (Nat.le_refl _) ?_, rfl, q _ (I.hok.fresh (Nat.le_refl _))⟩
  exact ⟨Nat.le_trans (cutV_length xs lo hi) hz, _, (r.drop (HT.sIx xs.length 0 lo)).take (HT.sIx xs.length xs.length hi - HT.sIx xs.length 0 lo), IsTup.new _ _⟩
end
end L2
namespace L2
open PySem PySem.Spec PyProof.Rows
def ixN (n : Nat) (i : Int) : Option Nat := if 0 ≤ i then (if i < n then some i.toNat else none) else if -(n : Int) ≤ i then some (i + n).toNat else none
def atI {α : Type} (xs : List α) (i : Int) : Option α := (ixN xs.length i).bind fun j => xs[j]?
theorem ixN_seq {n : Nat} {i : Int} {j : Nat} (h : ixN n i = some j) : seqIndex? i n = some j ∧ j < n ∧ -(n : Int) ≤ i ∧ i < n := by
  unfold ixN at h
  by_cases h0 : 0 ≤ i
  · rw [if_pos h0] at h
    by_cases h1 : i < n
    · rw [if_pos h1] at h
      have e : i.toNat = j := Option.some.inj h
      exact ⟨by rw [seqIndex_of h0 h1, e], by omega, by omega, h1⟩
    · rw [if_neg h1] at h; cases h
  · rw [if_neg h0] at h
    by_cases h1 : -(n : Int) ≤ i
    · rw [if_pos h1] at h
      have e : (i + n).toNat = j := Option.some.inj h
      exact ⟨by rw [seqIndex_neg (by omega) h1, e], by omega, h1, by omega⟩
    · rw [if_neg h1] at h; cases h
theorem atI_get {α : Type} {xs : List α} {i : Int} {v : α} (h : atI xs i = some v) : ∃ j, seqIndex? i xs.length = some j ∧ xs[j]? = some v ∧ j < xs.length ∧ -(xs.length : Int) ≤ i ∧ i < xs.length := by
  unfold atI at h
  cases e : ixN xs.length i with
  | none => rw [e] at h; cases h
  | some j =>
    rw [e] at h
    obtain ⟨h1, h2, h3, h4⟩ := ixN_seq e
    exact ⟨j, h1, h, h2, h3, h4⟩
theorem atI_nat {α : Type} {xs : List α} {j : Nat} {v : α} (h : xs[j]? = some v) : atI xs (j : Int) = some v := by
  have hj : j < xs.length := (List.getElem?_eq_some_iff.mp h).1
  have e : ixN xs.length (j : Int) = some j := by
    unfold ixN
    rw [if_pos (by omega), if_pos (by omega)]; simp
  unfold atI; rw [e]; exact h
theorem atI_last {α : Type} (xs : List α) (v : α) : atI (xs ++ [v]) (-1) = some v := by
  have hl : (xs ++ [v]).length = xs.length + 1 := by simp
  have e : ixN (xs ++ [v]).length (-1) = some xs.length := by
    unfold ixN
    rw [hl, if_neg (by decide), if_pos (by omega)]
    congr 1
    omega
  unfold atI
  rw [e]
  show (xs ++ [v])[xs.length]? = some v
  simp
def PlainIx (b : Expr) : Prop := ∀ o i, subscripted b false o i = operate [o, i] (getItem o i)
def IxR (X : Cx) (r : R2) : Prop :=
  ∀ (value slice : Expr) (pins : List (Addr × Obj)) (s : Shared) (σ : St) (H : Hp) (x y : V) (v u : Value) (Q : VK), Inv X pins σ H s → RelV x v → RelV y u → r x y H Q →
    subscripted slice false v u = operate [v, u] (getItem v u) → wpAny (model X.prog X.w) X.A (subscriptTail value slice v u) (EP X pins σ Q) X.xe s
def MtR (X : Cx) (id : String) (r : V → List V → Hp → VK → Prop) : Prop :=
  ∀ (pins : List (Addr × Obj)) (s : Shared) (σ : St) (H : Hp) (x : V) (xs : List V) (v : Value) (us : List Value) (Q : VK), Inv X pins σ H s → RelV x v → Vals xs us → r x xs H Q →
    wpAny (model X.prog X.w) X.A (call (.builtin id) (v :: us)) (EP X pins σ Q) X.xe s
section
variable {X : Cx} {a b : Expr} {ta tb : TE} {pos : Pos}
theorem IxR.or {r r' : R2} (h : IxR X r) (h' : IxR X r') : IxR X (fun x y H Q => r x y H Q ∨ r' x y H Q) := by
  intro value slice pins s σ H x y v u Q I rx ry q hs
  rcases q with q | q
  · exact h value slice pins s σ H x y v u Q I rx ry q hs
  · exact h' value slice pins s σ H x y v u Q I rx ry q hs
theorem MtR.or {id : String} {r r' : V → List V → Hp → VK → Prop} (h : MtR X id r) (h' : MtR X id r') : MtR X id (fun x xs H Q => r x xs H Q ∨ r' x xs H Q) := by
  intro pins s σ H x xs v us Q I rx rs q
  rcases q with q | q
  · exact h pins s σ H x xs v us Q I rx rs q
  · exact h' pins s σ H x xs v us Q I rx rs q
theorem pe_ix {r : R2} (hr : IxR X r) (ha : PE X a ta) (hb : PE X b tb) (hs : PlainIx b) : PE X (.Subscript a b pos) (tOp r ta tb) := by
  intro pins s σ H Q I h
  exact Subscript_ (binT ha hb I h fun v u s2 x y H2 I2 rx ry q => hr a b pins s2 σ H2 x y v u Q I2 rx ry q (hs _ _))
def rIxL (K : PySem.W.Frag) : R2 := fun x y H Q => ∃ p xs i v, x = .ref p ∧ y = .int i ∧ SqL K H p xs ∧ atI xs i = some v ∧ Q v H
def rIxT (K : PySem.W.Frag) : R2 := fun x y H Q => ∃ p xs i v, x = .ref p ∧ y = .int i ∧ SqT K H p xs ∧ atI xs i = some v ∧ Q v H
def rIxS : R2 := fun x y H Q => ∃ z i c, x = .str z ∧ y = .int i ∧ z.length ≤ sizeLine ∧ atI z.cps.toList i = some c ∧ Q (.str ⟨#[c]⟩) H
theorem ix_list : IxR X (rIxL X.K) := by
  intro value slice pins s σ H x y v u Q I rx ry h hs
  obtain ⟨p, xs, i, z, rfl, rfl, hq, he, q⟩ := h
  cases rx
  obtain ⟨t, rfl⟩ := ry
  obtain ⟨its, r, pl, hz⟩ := I.list hq
  obtain ⟨j, h1, h2, h3, h4, h5⟩ := atI_get he
  obtain ⟨w, ew, rw'⟩ := r.get h2
  have hl := r.length
  have hn := line63
  have fin : EP X pins σ Q w s := ⟨z, H, I, rw', q⟩
  by_cases h0 : 0 ≤ i
  · have hj : i.toNat = j := by
      rw [seqIndex_of h0 h5] at h1
      exact Option.some.inj h1
    exact item_listR pl.isList h0 (by omega) (by rw [hj]; simpa using ew) fin hs
  · have hj : (i + (its.toArray.size : Int)).toNat = j := by
      rw [seqIndex_neg (by omega) h4] at h1
      rw [List.size_toArray, ← hl]
      exact Option.some.inj h1
    exact subscriptTail_builtinR (x := w) pl.isList.typeIs slot_list_getitem.lookup
      (wpAny_getItem_list_neg (Q := fun r s' => r = w ∧ EP X pins σ Q r s') pl.isList (by omega) (by rw [List.size_toArray] <;> omega) (by omega) (by rw [hj]; simpa using ew) ⟨rfl, fin⟩) hs
theorem ix_tup : IxR X (rIxT X.K) := by
  intro value slice pins s σ H x y v u Q I rx ry h hs
  obtain ⟨p, xs, i, z, rfl, rfl, hq, he, q⟩ := h
  cases rx
  obtain ⟨t, rfl⟩ := ry
  obtain ⟨its, r, pl, hz⟩ := I.tuple hq
  obtain ⟨j, h1, h2, h3, h4, h5⟩ := atI_get he
  obtain ⟨w, ew, rw'⟩ := r.get h2
  have hl := r.length
  have hn := line63
  have fin : EP X pins σ Q w s := ⟨z, H, I, rw', q⟩
  exact subscriptTail_builtinR (x := w) pl.typeIs slot_tuple_getitem.lookup
    (getItem_tuple (j := j) (Q := fun r s' => r = w ∧ EP X pins σ Q r s') pl (by omega) (by omega) (by rw [List.size_toArray, ← hl]; exact h1) (by simpa using ew) ⟨rfl, fin⟩) hs
theorem ix_str : IxR X rIxS := by
  intro value slice pins s σ H x y v u Q I rx ry h hs
  obtain ⟨z, i, c, rfl, rfl, hz, he, q⟩ := h
  obtain ⟨t, rfl⟩ := rx
  obtain ⟨t', rfl⟩ := ry
  obtain ⟨j, h1, h2, h3, h4, h5⟩ := atI_get he
  have hl : z.cps.toList.length = z.length := by simp [Str.length]
  rw [hl] at h1 h4 h5
  have hn := line63
  exact tail_any (typeIs_str s z t) slot_str_getitem.lookup (getItem_str (c := c) (by
    have e1 : decide (i < -(2 ^ 63 : Int)) = false := decide_eq_false (by omega)
    have e2 : decide (i ≥ 2 ^ 63) = false := decide_eq_false (by omega)
    rw [e1, e2, Bool.or_false]) (by rw [h1]; simpa using h2) ⟨.str ⟨#[c]⟩, H, I.tok _, ⟨_, rfl⟩, q⟩) hs
def rIx (K : PySem.W.Frag) : R2 := fun x y H Q => rIxL K x y H Q ∨ rIxT K x y H Q ∨ rIxS x y H Q
theorem ix_seq : IxR X (rIx X.K) := ix_list.or (ix_tup.or ix_str)
theorem Inv.lst {pins : List (Addr × Obj)} {σ : St} {H : Hp} {s : Shared} {p : Addr} {xs : List V} (I : Inv X pins σ H s) (h : H p = some (.lst xs)) :
    ∃ (its : List Value) (n : Nat), Vals xs its ∧ s.heap.get? p = some { cls := .type "list", data := .seq its.toArray n } ∧ xs.length ≤ sizeLine := by
  obtain ⟨z, its, n, r, e⟩ := I.hok p _ h
  exact ⟨its, n, r, e, z⟩
theorem slice_bounds (lo hi : Option Int) (n : Nat) : (sliceBounds lo hi none n).1 = ((HT.sIx n 0 lo : Nat) : Int) ∧ (sliceBounds lo hi none n).2.1 = ((HT.sIx n n hi : Nat) : Int) ∧ (sliceBounds lo hi none n).2.2 = 1 := by
  refine ⟨?_, ?_, rfl⟩
  · cases lo with
    | none => simp [sliceBounds, HT.sIx]
    | some i =>
      simp only [sliceBounds, HT.sIx, Option.getD_none, show (1 : Int) > 0 by decide, if_true]
      by_cases h : i < 0
      · simp only [h, if_true] <;> omega
      · simp only [h, if_false] <;> omega
  · cases hi with
    | none => simp [sliceBounds, HT.sIx]
    | some i =>
      simp only [sliceBounds, HT.sIx, Option.getD_none, show (1 : Int) > 0 by decide, if_true]
      by_cases h : i < 0
      · simp only [h, if_true] <;> omega
      · simp only [h, if_false] <;> omega
theorem slicePick_cut (its : List Value) (lo hi : Option Int) : slicePick its.toArray lo hi none = ((its.drop (HT.sIx its.length 0 lo)).take (HT.sIx its.length its.length hi - HT.sIx its.length 0 lo)).toArray := by
  obtain ⟨h1, h2, h3⟩ := slice_bounds lo hi its.toArray.size
  unfold slicePick
  rw [h1, h2, h3]
  simp only [sliceRange_one, pick_run, List.size_toArray] <;> rfl
def rSlL (K : PySem.W.Frag) : V → Option Int → Option Int → Hp → VK → Prop := fun x lo hi H Q => ∃ a xs, x = .ref a ∧ SqL K H a xs ∧ ∀ p, H p = none → Q (.ref p) (upd H p (.lst (cutV xs lo hi)))
theorem sl_list : SlR X (rSlL X.K) := by
  intro pins s σ H x v vl vu lo hi sl Q I rx hs pl pu h
  obtain ⟨a, xs, rfl, hx, q⟩ := h
  cases rx
  obtain ⟨its, r, ht, hz⟩ := I.list hx
  have hlen := r.length
  refine ⟨"list", _, slot_list_getitem.lookup, ht.isList.typeIs, ?_⟩
  refine wpAny_getItem_list_slice ht.isList hs pl pu .none (by simp) ?_ (by rw [List.size_toArray] <;> omega)
  rw [slicePick_cut, ← hlen]
  refine ⟨.ref s.heap.objs.size, _, I.laid (t' := s.toks) (o := .lst (cutV xs lo hi)) (fun b ob q => Heap.get?_push_of_some _ q) (Nat.le_refl _) ?_, rfl, q _ (I.hok.fresh (Nat.le_refl _))⟩
  exact ⟨Nat.le_trans (cutV_length xs lo hi) hz, _, 0, (r.drop (HT.sIx xs.length 0 lo)).take (HT.sIx xs.length xs.length hi - HT.sIx xs.length 0 lo), Heap.get?_push_size _ rfl⟩
def flatV : V → Bool
  | .non => true
  | .bl _ => true
  | .int _ => true
  | .str _ => true
  | _ => false
def eqV : V → V → Bool
  | .non, .non => true
  | .bl a, .bl b => a == b
  | .bl a, .int b => (if a then 1 else 0) == b
  | .int a, .bl b => a == (if b then 1 else 0)
  | .int a, .int b => a == b
  | .str a, .str b => a == b
  | _, _ => false
theorem eqAt_V {A : Around} {s : Shared} {y x : V} {u v : Value} (ry : RelV y u) (rx : RelV x v) (fy : flatV y = true) (fx : flatV x = true) : SeqAt.EqAt A s u v (eqV y x) := by
  cases y with
  | non =>
    cases ry
    cases x with
    | non => cases rx; exact SeqAt.EqAt.same _
    | bl b => cases rx; exact SeqAt.EqAt.none_bool b
    | int b => obtain ⟨t, rfl⟩ := rx; exact SeqAt.EqAt.none_int b t
    | str b => obtain ⟨t, rfl⟩ := rx; exact SeqAt.EqAt.none_str b t
    | _ => exact absurd (show false = true from fx) Bool.false_ne_true
  | bl a =>
    cases ry
    cases x with
    | non => cases rx; exact SeqAt.EqAt.bool_none a
    | bl b => cases rx; exact SeqAt.EqAt.bool_bool a b
    | int b => obtain ⟨t, rfl⟩ := rx; exact SeqAt.EqAt.bool_int a b t
    | str b => obtain ⟨t, rfl⟩ := rx; exact SeqAt.EqAt.bool_str a b t
    | _ => exact absurd (show false = true from fx) Bool.false_ne_true
  | int a =>
    obtain ⟨t', rfl⟩ := ry
    cases x with
    | non => cases rx; exact SeqAt.EqAt.int_none a t'
    | bl b => cases rx; exact SeqAt.EqAt.int_bool a t' b
    | int b => obtain ⟨t, rfl⟩ := rx; exact SeqAt.EqAt.int_int a t' b t
    | str b => obtain ⟨t, rfl⟩ := rx; exact SeqAt.EqAt.int_str a t' b t
    | _ => exact absurd (show false = true from fx) Bool.false_ne_true
  | str a =>
    obtain ⟨t', rfl⟩ := ry
    cases x with
    | non => cases rx; exact SeqAt.EqAt.str_none a t'
    | bl b => cases rx; exact SeqAt.EqAt.str_bool a t' b
    | int b => obtain ⟨t, rfl⟩ := rx; exact SeqAt.EqAt.str_int a t' b t
    | str b => obtain ⟨t, rfl⟩ := rx; exact SeqAt.EqAt.str_str a t' b t
    | _ => exact absurd (show false = true from fx) Bool.false_ne_true
  | _ => exact absurd (show false = true from fy) Bool.false_ne_true
def eqU (x : V) (u : Value) : Bool := match u with
  | .none => eqV .non x
  | .bool b => eqV (.bl b) x
  | .int i _ => eqV (.int i) x
  | .str z _ => eqV (.str z) x
  | _ => false
theorem eqU_of {x y : V} {u : Value} (r : RelV y u) (f : flatV y = true) : eqU x u = eqV y x := by
  cases y with
  | non => cases r; rfl
  | bl b => cases r; rfl
  | int i => obtain ⟨t, rfl⟩ := r; rfl
  | str z => obtain ⟨t, rfl⟩ := r; rfl
  | _ => exact absurd (show false = true from f) Bool.false_ne_true
theorem any_eqU {x : V} : ∀ {xs : List V} {us : List Value}, Vals xs us → xs.all flatV = true → us.any (eqU x) = xs.any fun y => eqV y x
  | _, _, .nil, _ => rfl
  | y :: xs, u :: us, .cons r t, f => by
    rw [List.all_cons, Bool.and_eq_true] at f
    rw [List.any_cons, List.any_cons, eqU_of r f.1, any_eqU t f.2]
theorem mem_eqAt {A : Around} {s : Shared} {x : V} {v : Value} (rx : RelV x v) (fx : flatV x = true) : ∀ {xs : List V} {us : List Value}, Vals xs us → xs.all flatV = true → ∀ u ∈ us, SeqAt.EqAt A s u v (eqU x u)
  | _, _, .nil, _ => fun u hu => by cases hu
  | y :: xs, u :: us, .cons r t, f => fun u' hu => by
    rw [List.all_cons, Bool.and_eq_true] at f
    rcases List.mem_cons.mp hu with rfl | hu
    · rw [eqU_of r f.1]; exact eqAt_V r rx f.1 fx
    · exact mem_eqAt rx fx t f.2 u' hu
def inV (x : V) (xs : List V) : Bool := xs.any fun y => eqV y x
def rIn (K : PySem.W.Frag) (neg : Bool) : R2 := fun x y H Q => ∃ p xs, y = .ref p ∧ (SqL K H p xs ∨ SqT K H p xs) ∧ flatV x = true ∧ xs.all flatV = true ∧ Q (.bl (if neg then !inV x xs else inV x xs)) H
theorem op_notIn_seq : OpR X (compareOp .NotIn) (rIn X.K true) := by
  intro pins s σ H x y v u Q I rx ry h
  obtain ⟨p, xs, rfl, hq, fx, fs, q⟩ := h
  cases ry
  rcases hq with hq | hq
  · obtain ⟨its, r, pl, hz⟩ := I.list hq
    refine SeqAt.notIn_listAt (eqU x) pl.isList (fun w hw => mem_eqAt rx fx r fs w (by simpa using hw)) ⟨.bl _, H, I, rfl, ?_⟩
    rw [show its.toArray.any (eqU x) = its.any (eqU x) by simp, any_eqU r fs]
    exact q
  · obtain ⟨its, r, pl, hz⟩ := I.tuple hq
    refine SeqAt.notIn_tupleAt (eqU x) pl (fun w hw => mem_eqAt rx fx r fs w (by simpa using hw)) ⟨.bl _, H, I, rfl, ?_⟩
    rw [show its.toArray.any (eqU x) = its.any (eqU x) by simp, any_eqU r fs]
    exact q
theorem CallR.or {f : Value} {r r' : List V → Hp → VK → Prop} (h : CallR X f r) (h' : CallR X f r') : CallR X f (fun xs H Q => r xs H Q ∨ r' xs H Q) := by
  intro pins s σ H xs us Q I rs q
  rcases q with q | q
  · exact h pins s σ H xs us Q I rs q
  · exact h' pins s σ H xs us Q I rs q
theorem call_list_of : CallR X (.type "list") (fun xs H Q => ∃ p ys, xs = [.ref p] ∧ (SqL X.K H p ys ∨ SqT X.K H p ys) ∧ ∀ l, H l = none → Q (.ref l) (upd H l (.lst ys))) := by
  intro pins s σ H xs us Q I r h
  obtain ⟨p, ys, rfl, hq, q⟩ := h
  obtain ⟨u, rfl, rx⟩ := vals1 r
  cases rx
  have fin : ∀ (its : List Value), Vals ys its → ys.length ≤ sizeLine → ∀ (h' : Heap) (c' : Nat), (∀ b o', s.heap.get? b = some o' → h'.get? b = some o') →
      h'.get? s.heap.objs.size = some { cls := .type "list", dict := none, data := .seq its.toArray c', slots := #[] } → EP X pins σ Q (.ref s.heap.objs.size) { s with heap := h' } := fun its r' hz h' c' kp e =>
    ⟨.ref s.heap.objs.size, _, I.laid (t' := s.toks) kp (Nat.le_refl _) (show ObjOk X.prog X.w _ h' _ (.lst ys) from ⟨hz, its, c', r', e⟩), rfl, q _ (I.hok.fresh (Nat.le_refl _))⟩
  rcases hq with hq | hq
  · obtain ⟨its, r', pl, hz⟩ := I.list hq
    have hlen := r'.length
    obtain ⟨o, ho, hc, n, hd⟩ := pl.isList
    exact call_list_seq p (.inl rfl) ho hc hd (fun h' c' kp e => fin its r' hz h' c' kp e) (by simp only [List.size_toArray] <;> omega)
  · obtain ⟨its, r', pl, hz⟩ := I.tuple hq
    have hlen := r'.length
    obtain ⟨o, ho, hc, n, hd⟩ := pl
    exact call_list_seq p (.inr rfl) ho hc hd (fun h' c' kp e => fin its r' hz h' c' kp e) (by simp only [List.size_toArray] <;> omega)
theorem call_tuple_of : CallR X (.type "tuple") (fun xs H Q => ∃ p ys, xs = [.ref p] ∧ ((SqL X.K H p ys ∧ ∀ l, H l = none → Q (.ref l) (upd H l (.tup ys))) ∨ (SqT X.K H p ys ∧ Q (.ref p) H))) := by
  intro pins s σ H xs us Q I r h
  obtain ⟨p, ys, rfl, h⟩ := h
  obtain ⟨u, rfl, rx⟩ := vals1 r
  cases rx
  rcases h with ⟨hq, q⟩ | ⟨hq, q⟩
  · obtain ⟨its, r', pl, hz⟩ := I.list hq
    have hlen := r'.length
    refine call_tuple_list pl.isList (fun h' kp => ?_) (by simp only [List.size_toArray] <;> omega)
    have I1 : Inv X pins σ H { s with heap := h' } := I.kept (t' := s.toks) kp
    have I2 : Inv X pins σ (upd H h'.objs.size (.tup ys)) { s with heap := h'.push { cls := .type "tuple", data := .seq its.toArray } } :=
      I1.laid (t' := s.toks) (fun b o e => Heap.get?_push_of_some _ e) (Nat.le_refl _) (show ObjOk X.prog X.w _ _ _ (.tup ys) from ⟨hz, its, r', IsTup.new _ _⟩)
    exact ⟨.ref h'.objs.size, _, I2, rfl, q _ (I1.hok.fresh (Nat.le_refl _))⟩
  · obtain ⟨its, r', pl, hz⟩ := I.tuple hq
    exact call_tuple_same pl ⟨.ref p, H, I, rfl, q⟩
def tyV (K : PySem.W.Frag) (T : String) (x : V) (H : Hp) : Prop := match x with
  | .str _ => T = "str"
  | .int _ => T = "int"
  | .ref p => (T = "list" ∧ ∃ xs, SqL K H p xs) ∨ (T = "tuple" ∧ ∃ o, K.lookup p = some o ∧ o.cls = .type "tuple" ∧ o.dict = none) ∨
      (T = "dict" ∧ ((∃ kvs, H p = some (.dK kvs)) ∨ ∃ kvs, H p = some (.dT kvs))) ∨ (T = "set" ∧ ∃ S n, H p = some (.set S n))
  | _ => False
theorem tyV_is {pins : List (Addr × Obj)} {σ : St} {H : Hp} {s : Shared} {T : String} {x : V} {v : Value} (I : Inv X pins σ H s) (r : RelV x v) (ty : tyV X.K T x H) :
    s.TypeIs v T ∧ ∀ a, v = .ref a → ∃ ob, s.heap.get? a = some ob ∧ ob.dict = none := by
  cases x with
  | str z =>
    obtain ⟨t, rfl⟩ := r
    cases (show T = "str" from ty)
    exact ⟨typeIs_str s z t, fun _ e => nomatch e⟩
  | int i =>
    obtain ⟨t, rfl⟩ := r
    cases (show T = "int" from ty)
    exact ⟨typeIs_int s i t, fun _ e => nomatch e⟩
  | ref p =>
    cases r
    rcases ty with ⟨rfl, xs, hq⟩ | ⟨rfl, o, hk, hc, hd⟩ | ⟨rfl, hk⟩ | ⟨rfl, S, n, hk⟩
    · obtain ⟨its, _, pl, _⟩ := I.list hq
      refine ⟨pl.isList.typeIs, fun a e => ?_⟩
      cases e
      obtain ⟨o, n, e, c, hd, _⟩ := pl
      exact ⟨o, e, hd⟩
    · refine ⟨⟨o, I.kIn p o hk, hc⟩, fun a e => ?_⟩
      cases e
      exact ⟨o, I.kIn _ o hk, hd⟩
    · have z : ∃ o, s.heap.get? p = some o ∧ o.ExactDict := by
        rcases hk with ⟨kvs, hk⟩ | ⟨kvs, hk⟩
        · obtain ⟨_, _, _, _, o, _, _, e, ex, _⟩ := I.hok p _ hk
          exact ⟨o, e, ex⟩
        · obtain ⟨_, _, _, _, o, _, _, e, ex, _⟩ := I.hok p _ hk
          exact ⟨o, e, ex⟩
      obtain ⟨o, e, ex⟩ := z
      refine ⟨⟨o, e, ex.1⟩, fun a e2 => ?_⟩
      cases e2
      exact ⟨o, e, ex.2.1⟩
    · obtain ⟨o, _, _, _, e, ex, _⟩ := I.hok p _ hk
      refine ⟨⟨o, e, ex.1⟩, fun a e2 => ?_⟩
      cases e2
      exact ⟨o, e, ex.2.1⟩
  | _ => exact False.elim ty
def tBM0 (K : PySem.W.Frag) (T : String) (r : V → List V → Hp → VK → Prop) (to : TE) : TE := fun σ H Q => to σ H fun x H1 => tyV K T x H1 ∧ r x [] H1 Q
def tBM (K : PySem.W.Frag) (T : String) (r : V → List V → Hp → VK → Prop) (to : TE) (t : TA) : TE := fun σ H Q => to σ H fun x H1 => tyV K T x H1 ∧ t σ H1 fun xs H2 => r x xs H2 Q
variable {o e : Expr} {es : List Expr} {to : TE} {t : TA} {name : Str} {apos cpos : Pos} {T id : String} {r : V → List V → Hp → VK → Prop}
theorem pe_bm0 (pa : PlainAttrs T) (slot : Slot T name id) (hty : typeOf (.builtin id) = pure (.type "method_descriptor")) (hm : MtR X id r) (ho : PE X o to)
    (hbase : attributeBase o name X.env (eval o X.env) = eval o X.env := by rfl) (hline : (apos.endLine == cpos.line) = true := by rfl) : PE X (.Call (.Attribute o name apos) [] [] cpos) (tBM0 X.K T r to) := by
  intro pins s σ H Q I h
  refine wpAny_Call_method0_late hbase hline (thn (ho pins s σ H _ I h) fun v s1 ⟨x, H1, I1, r1, ty, q1⟩ => ?_)
  obtain ⟨h1, h2⟩ := tyV_is I1 r1 ty
  exact ⟨T, id, pa, slot, hty, h1, h2, Calls.callWith_builtin rfl (PySem.evalArgs_none (hm pins s1 σ H1 x [] v [] Q I1 r1 .nil q1))⟩
theorem pe_bm (pa : PlainAttrs T) (slot : Slot T name id) (hty : typeOf (.builtin id) = pure (.type "method_descriptor")) (hm : MtR X id r) (ho : PE X o to) (ha : PA X (e :: es) t)
    (hbase : attributeBase o name X.env (eval o X.env) = eval o X.env := by rfl)
    (hfew : ((backTo cpos (starEach (e :: es) X.env)).all (fun x => !x.1) && (backToKw cpos (keywordEach [] X.env)).all (fun x => x.1.isSome)
      && decide ((e :: es).length + ([] : List Keyword).length + (if ([] : List Keyword).isEmpty then 0 else 1) < 30)) = true := by rfl)
    (hline : (apos.endLine == cpos.line) = true := by rfl) (hs : starEach (e :: es) X.env = (false, eval e X.env) :: starEach es X.env := by rfl) (hplain : (backTo cpos (starEach es X.env)).any (·.1) = false := by rfl) :
    PE X (.Call (.Attribute o name apos) (e :: es) [] cpos) (tBM X.K T r to t) := by
  intro pins s σ H Q I h
  refine wpAny_Call_method_late hbase hfew hline rfl (thn (ho pins s σ H _ I h) fun v s1 ⟨x, H1, I1, r1, ty, q1⟩ => ?_)
  obtain ⟨h1, h2⟩ := tyV_is I1 r1 ty
  refine ⟨T, id, pa, slot, hty, h1, h2, ?_⟩
  have hA := ha cpos pins s1 σ H1 _ I1 q1
  rw [hs] at hA ⊢
  refine Calls.callWith_builtin (by show (false || (backTo cpos (starEach es X.env)).any (·.1)) = false; rw [hplain] <;> rfl) (Calls.evalArgs_plain ?_)
  exact thn hA fun us s2 ⟨vs, H2, I2, r2, q2⟩ => hm pins s2 σ H2 x vs v us Q I2 r1 r2 q2
end
end L2
namespace L2
open PySem PySem.Spec PyProof.Rows
def MtM (X : Cx) (id : String) (r : V → List V → Hp → VK → Prop) : Prop :=
  ∀ (pins : List (Addr × Obj)) (s : Shared) (σ : St) (H : Hp) (x : V) (xs : List V) (v : Value) (us : List Value) (Q : VK), Inv X pins σ H s → RelV x v → Vals xs us → r x xs H Q →
    wpAny (model X.prog X.w) X.A (call (.builtin id) (v :: us)) (EP X pins σ Q) X.xe s
theorem Vals.one : ∀ {x : V} {us : List Value}, Vals [x] us → ∃ u, us = [u] ∧ RelV x u
  | _, _, .cons r .nil => ⟨_, rfl, r⟩
theorem Vals.two : ∀ {x y : V} {us : List Value}, Vals [x, y] us → ∃ u v, us = [u, v] ∧ RelV x u ∧ RelV y v
  | _, _, _, .cons r (.cons q .nil) => ⟨_, _, rfl, r, q⟩
theorem Vals.zero : ∀ {us : List Value}, Vals [] us → us = []
  | _, .nil => rfl
theorem Vals.dropLast {xs : List V} {us : List Value} (h : Vals xs us) : Vals xs.dropLast us.dropLast := by
  induction h with
  | nil => exact .nil
  | cons r t ih =>
    cases t with
    | nil => exact .nil
    | cons q t' => exact .cons r ih
theorem Vals.eraseIdx : ∀ {xs : List V} {us : List Value} (i : Nat), Vals xs us → Vals (xs.eraseIdx i) (us.eraseIdx i)
  | _, _, _, .nil => .nil
  | _, _, 0, .cons _ t => t
  | _, _, i + 1, .cons r t => .cons r (Vals.eraseIdx i t)
theorem Vals.reverse {xs : List V} {us : List Value} (h : Vals xs us) : Vals xs.reverse us.reverse := by
  induction h with
  | nil => exact .nil
  | cons r t ih => rw [List.reverse_cons, List.reverse_cons]; exact Vals.append ih (.cons r .nil)
theorem erase_last {α : Type} (l : List α) : l.eraseIdx (l.length - 1) = l.dropLast := by
  induction l with
  | nil => rfl
  | cons a r ih =>
    cases r with
    | nil => rfl
    | cons b r =>
      have e : (a :: b :: r).length - 1 = ((b :: r).length - 1) + 1 := by
        have h1 : (a :: b :: r).length = r.length + 2 := rfl
        have h2 : (b :: r).length = r.length + 1 := rfl
        omega
      rw [e, List.eraseIdx_cons_succ, ih]
      all_goals rfl
section
variable {X : Cx} {pins : List (Addr × Obj)} {σ : St} {H : Hp} {s : Shared} {l b : Addr} {xs ys zs : List V}
theorem Inv.lset {its its' : List Value} {n : Nat} {f : Array Value → Array Value} {t' : Nat} (I : Inv X pins σ H s) (hH : H l = some (.lst xs))
    (e : s.heap.get? l = some { cls := .type "list", data := .seq its.toArray n }) (hf : f its.toArray = its'.toArray) (hv : Vals ys its') (hz : ys.length ≤ sizeLine) :
    Inv X pins σ (upd H l (.lst ys)) { s with heap := s.heap.update l (Obj.mapSeq f), toks := t' } := by
  have q := PySem.IsL.update e f
  rw [hf] at q
  refine I.write (x := l) (e := l) (by rw [hH]; exact trivial) (.inl rfl) (fun b' u hb hu => (Heap.get?_update_other s.heap (Obj.mapSeq f) (Ne.symm hb)).trans hu) ⟨_, q⟩ ?_
  exact ⟨hz, its', _, hv, q⟩
theorem Inv.lnew {its : List Value} {t' : Nat} (I : Inv X pins σ H s) (hv : Vals ys its) (hz : ys.length ≤ sizeLine) :
    Inv X pins σ (upd H s.heap.objs.size (.lst ys)) { s with heap := s.heap.push { cls := .type "list", data := .seq its.toArray }, toks := t' } :=
  I.laid (fun _ _ q => Heap.get?_push_of_some _ q) (Nat.le_refl _) ⟨hz, its, 0, hv, Heap.get?_push_size _ rfl⟩
theorem Inv.fresh (I : Inv X pins σ H s) : H s.heap.objs.size = none := I.hok.fresh (Nat.le_refl _)
theorem Inv.lstM (I : Inv X pins σ H s) (hH : H l = some (.lst xs)) : xs.length ≤ sizeLine ∧ ∃ (its : List Value) (n : Nat), Vals xs its ∧ xs.length = its.length ∧ s.heap.get? l = some { cls := .type "list", data := .seq its.toArray n } := by
  obtain ⟨z, its, n, r, e⟩ := I.hok l _ hH
  exact ⟨z, its, n, r, r.length, e⟩
theorem notLongL {n : Nat} (h : n ≤ sizeLine) : Builtin.List.listTooLong n = false := by
  unfold Builtin.List.listTooLong
  exact decide_eq_false (by omega)
end
section
variable {X : Cx}
def rAppend : V → List V → Hp → VK → Prop := fun x vs H Q => ∃ l xs y, x = .ref l ∧ vs = [y] ∧ H l = some (.lst xs) ∧ xs.length < sizeLine ∧ Q .non (upd H l (.lst (xs ++ [y])))
theorem mt_append : MtM X "list.append" rAppend := by
  intro pins s σ H x vs v us Q I rx rv h
  obtain ⟨l, xs, y, rfl, rfl, hH, hz, q⟩ := h
  cases rx
  obtain ⟨u, rfl, ru⟩ := rv.one
  obtain ⟨z, its, n, r, hl, e⟩ := I.lstM hH
  refine call_meets F.slot_list_append ⟨_, e, rfl⟩ F.entry_list_append (F.args_list_append_2 _ _) (PySem.list_append l its.toArray n u (by rw [List.size_toArray]; omega)) ⟨e, ?_⟩
  refine ⟨.non, _, I.lset (its' := its ++ [u]) hH e (by simp) (r.append (.cons ru .nil)) ?_, rfl, q⟩
  rw [List.length_append, List.length_singleton]
  omega
def rExtend : V → List V → Hp → VK → Prop := fun x vs H Q => ∃ l b xs zs, x = .ref l ∧ vs = [.ref b] ∧ H l = some (.lst xs) ∧ H b = some (.lst zs) ∧ xs.length + zs.length ≤ sizeLine ∧ Q .non (upd H l (.lst (xs ++ zs)))
theorem mt_extend : MtM X "list.extend" rExtend := by
  intro pins s σ H x vs v us Q I rx rv h
  obtain ⟨l, b, xs, zs, rfl, rfl, hH, hB, hz, q⟩ := h
  cases rx
  obtain ⟨u, rfl, ru⟩ := rv.one
  cases ru
  obtain ⟨z, its, n, r, hl, e⟩ := I.lstM hH
  obtain ⟨z2, its2, n2, r2, hl2, e2⟩ := I.lstM hB
  have hsz : its.toArray.size + its2.toArray.size ≤ sizeLine := by rw [List.size_toArray, List.size_toArray]; omega
  have hlong : ¬ (!its.toArray.isEmpty && Builtin.List.listTooLong (its.toArray.size + its2.toArray.size)) = true := by
    rw [notLongL hsz, Bool.and_false]
    exact Bool.false_ne_true
  refine call_meets F.slot_list_extend ⟨_, e, rfl⟩ F.entry_list_extend (F.args_list_extend_2 _ _)
    (AutoSeq1.list_extend_list_list_0 l its.toArray n b its2.toArray n2 hlong (by rw [List.size_toArray]; omega) (by omega)) ⟨e, e2, ?_⟩
  refine ⟨.non, _, I.lset (its' := its ++ its2) hH e (by simp) (r.append r2) ?_, rfl, q⟩
  rw [List.length_append]
  omega
def rPop : V → List V → Hp → VK → Prop := fun x vs H Q => ∃ l xs y, x = .ref l ∧ vs = [] ∧ H l = some (.lst xs) ∧ xs[xs.length - 1]? = some y ∧ Q y (upd H l (.lst xs.dropLast))
theorem mt_pop : MtM X "list.pop" rPop := by
  intro pins s σ H x vs v us Q I rx rv h
  obtain ⟨l, xs, y, rfl, rfl, hH, hy, q⟩ := h
  cases rx
  have hus := rv.zero
  subst hus
  obtain ⟨z, its, n, r, hl, e⟩ := I.lstM hH
  obtain ⟨u, hu, ru⟩ := r.get hy
  have hy' : its.toArray[its.toArray.size - 1]? = some u := by
    show its.toArray[its.length - 1]? = some u
    rw [← Array.getElem?_toList, ← hl]
    exact hu
  refine call_meets F.slot_list_pop ⟨_, e, rfl⟩ F.entry_list_pop (F.args_list_pop_1 _) (MeetsSeq.list_pop_last l its.toArray n u hy' (by rw [List.size_toArray]; omega)) ⟨e, ?_⟩
  refine ⟨y, _, I.lset (its' := its.dropLast) hH e ?_ r.dropLast ?_, ru, q⟩
  · show its.toArray.eraseIdxIfInBounds (its.toArray.size - 1) = its.dropLast.toArray
    rw [List.size_toArray, List.eraseIdxIfInBounds_toArray, erase_last]
  · rw [List.length_dropLast]
    omega
def rClear : V → List V → Hp → VK → Prop := fun x vs H Q => ∃ l xs, x = .ref l ∧ vs = [] ∧ H l = some (.lst xs) ∧ Q .non (upd H l (.lst []))
theorem mt_clear : MtM X "list.clear" rClear := by
  intro pins s σ H x vs v us Q I rx rv h
  obtain ⟨l, xs, rfl, rfl, hH, q⟩ := h
  cases rx
  have hus := rv.zero
  subst hus
  obtain ⟨z, its, n, r, hl, e⟩ := I.lstM hH
  refine call_meets F.slot_list_clear ⟨_, e, rfl⟩ F.entry_list_clear (F.args_list_clear_1 _) (AutoSeq1.list_clear_list_0 l its.toArray n (by rw [List.size_toArray]; omega)) ⟨e, ?_⟩
  exact ⟨.non, _, I.lset (its' := []) (ys := []) hH e rfl .nil (Nat.zero_le _), rfl, q⟩
def rCat : R2 := fun x y H Q => ∃ l b xs zs, x = .ref l ∧ y = .ref b ∧ H l = some (.lst xs) ∧ H b = some (.lst zs) ∧ xs.length + zs.length ≤ sizeLine ∧ ∀ p, H p = none → Q (.ref p) (upd H p (.lst (xs ++ zs)))
theorem op_cat : OpR X (binaryOp .Add) rCat := by
  intro pins s σ H x y v u Q I rx ry h
  obtain ⟨l, b, xs, zs, rfl, rfl, hH, hB, hz, q⟩ := h
  cases rx
  cases ry
  obtain ⟨z, its, n, r, hl, e⟩ := I.lstM hH
  obtain ⟨z2, its2, n2, r2, hl2, e2⟩ := I.lstM hB
  refine PySem.P.add_list e e2 ?_ (by rw [List.size_toArray, List.size_toArray]; omega)
  have ea : its.toArray ++ its2.toArray = (its ++ its2).toArray := by simp
  rw [ea]
  exact ⟨.ref _, _, I.lnew (t' := s.toks) (r.append r2) (by rw [List.length_append]; omega), rfl, q _ I.fresh⟩
end
section
variable {prog : Program} {w : World} {A : Around} {E : Value → Shared → Prop} {s : Shared}
end
section
variable {X : Cx}
end
end L2
namespace Att
open PySem PySem.W PySem.Calls PyProof.Rows
theorem ints_of_wellAll {P : Params} {h : Heap} : ∀ (ns : List Int) (vs : List Value), WellAll P h vs (ns.map WData.int) → IntsAre vs ns := by
  intro ns
  induction ns with
  | nil =>
    intro vs w
    rw [List.map_nil] at w
    cases w
    exact .nil
  | cons n ns ih =>
    intro vs w
    rw [List.map_cons] at w
    cases w with
    | cons a b =>
      cases a
      exact .cons _ _ (ih _ b)
theorem script_of {l : OpenLaw} {n : Nat} (hn : l.most = some n) {P : Params} {h : Heap} {args : List WData} {vals : List Value}
    (hpre : l.row.toRowW.claim.pre args = true) (hwl : WellAll P h vals args) :
    ∃ a vs ns, vals = [Value.ref a] ∧ args = [WData.list (ns.map WData.int)] ∧ h.get? a = some { cls := .type "list", data := .seq vs.toArray } ∧ IntsAre vs ns ∧ ns.length ≤ n := by
  have hsh : WShape.hasAll [] args [.list .int] = true := (pre_splitW hpre).1
  have hc : l.pre.holds [] { args := args } = true := (pre_splitW hpre).2
  obtain ⟨d, r, rfl, h1, h2⟩ := hasAllW_cons hsh
  obtain rfl := hasAllW_nil h2
  obtain ⟨xs, rfl, h3⟩ := hasW_list h1
  obtain ⟨ns, rfl⟩ := items_int h3
  have hlen : ns.length ≤ n := by
    unfold OpenLaw.pre at hc
    have h4 : (WTm.not (.lt (.lit (.int (n : Int))) (.len (.arg 0)))).holds [] { args := [.list (ns.map .int)] } = true := by
      have h4 := (holds_andW hc).1
      rw [hn] at h4
      exact h4
    have h5 := condW_of h4 (w_not (w_lt w_lit (w_len_list (w_arg rfl))))
    rw [List.length_map] at h5
    refine Nat.le_of_not_lt fun q => ?_
    have q' : (n : Int) < ((ns.length : Nat) : Int) := by omega
    first
      | (rw [decide_eq_true q'] at h5; exact absurd h5 (by decide))
      | (simp at h5; omega)
  cases hwl with
  | cons w1 w2 =>
    cases w2
    cases w1 with
    | list ho hall => exact ⟨_, _, ns, rfl, rfl, ho, ints_of_wellAll ns _ hall, hlen⟩
theorem post_true (l : OpenLaw) (args : List WData) : l.row.toRowW.claim.post args (.bool true) args = true :=
  postW_of (r := l.row.toRowW) (X := (true == true))
    (show WShape.has [] (.bool true) .bool = true by first | rfl | decide | simp [WShape.has, WShape.arms, WShape.armsAll])
    (show (WTm.eq .res (.lit (.bool true))).value [] { args := args, res := some (.bool true), after := args } = some (.bool (true == true)) from w_eq_bool (w_res rfl) w_lit) rfl
theorem attach_call {l : OpenLaw} {n : Nat} {q : Program} {loose : List Str} {XP : (Str → Option Value) → Heap → Prop} {YP : World → Heap → Prop} {d : DefRec}
    (hn : l.most = some n) (hdf : d.params.defaults = [])
    (call : ∀ (w : World) (s₀ s₁ : Shared) (mg mb : Str → Option Value) (fa : Addr) (o : Obj) (pm cd doc : Value) (a : Addr) (vs : List Value) (ns : List Int),
      Ground q loose [] XP w s₀ mg mb s₁.heap → YP w s₁.heap →
      s₁.heap.get? fa = some o → o.data = .func (docDef d.name d.params d.body d.scope pm cd doc) → s₁.heap.CodeRec cd d.name → mg d.name = some (.ref fa) →
      s₁.heap.get? a = some { cls := .type "list", data := .seq vs.toArray } → IntsAre vs ns → ns.length ≤ n → s₁.gens = #[] →
      codeAny (model l.prog w) callerA (.call (.ref fa) ⟨[.ref a], []⟩) (fun r s' => r = .ok (.ret (.bool true)) ∧ OldK s₁.heap s'.heap ∧ s'.os = s₁.os ∧ AllBare s'.gens) s₁) :
    WalkO q loose XP YP l.row.toRowW d [] (fun f vs => PySem.call f vs) := by
  intro w s₀ s₁ mg mb G Y fa o pm cd doc dV kV ho hd hcd hD hmg hg args vals as hpre hlay hrd hwl hlo
  obtain rfl : dV = .none := Dflts.none hD hdf
  obtain rfl : kV = .none := Dflts.noKw hD
  obtain ⟨a, vs, ns, rfl, rfl, hobj, hints, hlen⟩ := script_of hn hpre hwl
  refine enter_call (codeAny_mono (call w s₀ s₁ mg mb fa o pm cd doc a vs ns G Y ho (fd_plain hd) hcd hmg hobj hints hlen hg) fun r s' hq => ?_)
  obtain ⟨rfl, h2, h3, h4⟩ := hq
  exact ⟨.inl ⟨.bool true, .bool true, [], rfl, fun _ => rfl, .bool true, post_true l _, fun _ => ⟨List.Pairwise.nil, fun _ hm => (nomatch hm)⟩⟩, h2, h3, h4⟩
section
variable {prog : Program} {w : World} {A : Around} {E : Value → Shared → Prop} {s : Shared} {K : Frag}
end
end Att
namespace L2
open PySem PySem.Spec PyProof.Rows
theorem vals_ints : ∀ {vs : List Value} {ns : List Int}, IntsAre vs ns → Vals (ns.map V.int) vs
  | _, _, .nil => .nil
  | _, _, .cons n t h => .cons ⟨t, rfl⟩ (vals_ints h)
def Only (H : Hp) : Prop := ∀ b, H b = none ∨ ∃ o xs, H b = some (.frz o (.lst xs))
theorem law_call {P : Program} {w : World} {K : PySem.W.Frag} {mg mb : Str → Option Value} {CX : CXT} {k : Nat} {fa a : Addr} {fd : FuncData} {x : Str} {sp : Sp} {s₁ : Shared} {vs : List Value} {ns : List Int}
    (KX : K.In s₁.heap) (hns : s₁.heap.Ns mainGlobals mg) (hb : s₁.heap.Ns builtinsNs mb) (hbb : ∀ x : Str, x ≠ "__name__" → mb x = bootBuiltins x) (hlim : s₁.heap.NoLimit) (hg : s₁.gens = #[])
    (ha : s₁.heap.get? a = some { cls := .type "list", data := .seq vs.toArray }) (hi : IntsAre vs ns) (hl : ns.length ≤ sizeLine) (hr : Room k callerA)
    (F : ∀ base : Heap, K.In base → base.Ns mainGlobals mg → FnOk P w K mg base CX k fa fd [x] sp) (hbind : ∀ (s : Shared) (u : Value), BindsTo s fd ⟨[u], []⟩ [(x, u)])
    (hsp : ∀ H : Hp, Only H → SqL K H a (ns.map V.int) → sp [.ref a] H (fun v _ => v = .bl true) fun _ _ _ => False)
    (hCX : ∀ H e s', CX [] H s₁ (fun _ _ _ => False) e s' → False) :
    codeAny (model P w) callerA (.call (.ref fa) ⟨[.ref a], []⟩) (fun r s' => r = .ok (.ret (.bool true)) ∧ OldK s₁.heap s'.heap ∧ s'.os = s₁.os ∧ AllBare s'.gens) s₁ := by
  have rv := vals_ints hi
  have lenV := hi.length
  have core : ∀ H : Hp, Only H → SqL K H a (ns.map V.int) → HOk P w H s₁.heap → (∀ b, H b ≠ none → b = a) → (H a ≠ none → K.lookup a = none) →
      codeAny (model P w) callerA (.call (.ref fa) ⟨[.ref a], []⟩) (fun r s' => r = .ok (.ret (.bool true)) ∧ OldK s₁.heap s'.heap ∧ s'.os = s₁.os ∧ AllBare s'.gens) s₁ := by
    intro H hO hS hok hA hK
    have base_of : ∀ {b : Addr} {o : Obj}, s₁.heap.get? b = some o → H b = none → (hidT s₁.heap H).get? b = some o := fun e n => hidT_get e n
    have noA : ∀ {b : Addr} {o : Obj} {es : Array DictEntry} {ep : Nat}, s₁.heap.get? b = some o → o.data = .dict es ep → H b = none := fun {b o es ep} e d => by
      cases q : H b with
      | none => rfl
      | some u =>
        have e' : b = a := hA b (by rw [q]; simp)
        subst e'
        rw [ha] at e; cases e
        have d' : Data.seq vs.toArray _ = Data.dict es ep := d
        cases d'
    have nsK : ∀ {b : Addr} {m : Str → Option Value}, s₁.heap.Ns b m → (hidT s₁.heap H).Ns b m := fun {b m} ⟨o, es, ep, e, d, r⟩ => ⟨o, es, ep, base_of e (noA e d), d, r⟩
    have hKb : K.In (hidT s₁.heap H) := fun b o e => base_of (KX b o e) (by
      cases q : H b with
      | none => rfl
      | some u =>
        have e' : b = a := hA b (by rw [q]; simp)
        subst e'
        rw [hK (by rw [q]; simp)] at e; cases e)
    have hM : Mod K mg (hidT s₁.heap H) := ⟨hKb, nsK hns, ⟨mb, nsK hb, hbb⟩, let ⟨mc, h1, h2⟩ := hlim; ⟨mc, nsK h1, h2⟩⟩
    have e0 : Env0 P w K mg (hidT s₁.heap H) callerA [] s₁ H := ⟨rfl, hM, fun b o e => of_hidT e, Nat.le_of_eq (hidT_size _ _), trivial, fun b hb => absurd (show b ∈ ([] : List Addr) from hb) (by simp), hok, .of_eq hg⟩
    refine codeAny_mono ((F _ hKb (nsK hns)).run callerA [] s₁ H ⟨[.ref a], []⟩ [.ref a] [.ref a] _ _ hr e0 (hbind s₁ (.ref a)) (.cons rfl .nil) (hsp H hO hS)) fun r s' h => ?_
    cases r with
    | error e => exact (hCX H e s' h).elim
    | ok fl =>
      cases fl with
      | next => exact False.elim h
      | brk => exact False.elim h
      | cont => exact False.elim h
      | ret u =>
        obtain ⟨v, H', os, bare, un, hok', r', q⟩ := h
        have q' : v = .bl true := q
        subst q'
        obtain rfl : u = Value.bool true := r'
        refine ⟨rfl, OldK.of_keep fun b o e => ?_, os, bare⟩
        cases q : H b with
        | none => exact un.keep b o e q (by intro z; exact absurd (show b ∈ ([] : List Addr) from z) (by simp)) (by simp)
        | some u =>
          rcases hO b with z | ⟨ob, xs, z⟩
          · rw [q] at z; cases z
          · have z2 := un.frzs b ob _ z
            obtain ⟨e1, _⟩ := hok b _ z
            obtain ⟨e2, _⟩ := hok' b _ z2
            rw [e] at e1; cases e1
            exact e2
  cases hk : K.lookup a with
  | some o =>
    have e := KX a o hk
    rw [ha] at e
    cases e
    refine core (fun _ => none) (fun _ => .inl rfl) (.inr ⟨_, vs.toArray, _, hk, rfl, rfl, rfl, by rw [List.size_toArray, lenV]; exact hl, by simpa using rv⟩) (fun b u z => by have z' : (none : Option HO) = some u := z; cases z') (fun b z => absurd rfl z) fun z => absurd rfl z
  | none =>
    refine core (fun b => if b = a then some (.frz { cls := .type "list", data := .seq vs.toArray } (.lst (ns.map V.int))) else none) (fun b => ?_) (.inl (.inr ⟨{ cls := .type "list", data := .seq vs.toArray }, if_pos rfl⟩)) (fun b u z => ?_) (fun b z => ?_) fun _ => hk
    · by_cases hb : b = a
      · exact .inr ⟨_, _, if_pos hb⟩
      · exact .inl (if_neg hb)
    · by_cases hb : b = a
      · have z' := (if_pos hb).symm.trans z
        cases z'
        subst hb
        exact ⟨ha, by rw [List.length_map]; exact hl, vs, _, rv, ha⟩
      · have z' := (if_neg hb).symm.trans z
        cases z'
    · by_cases hb : b = a
      · exact hb
      · exact absurd (if_neg hb) z
end L2
namespace L2
open PySem PySem.Spec PyProof.Rows
theorem walk_of {l : PySem.W.OpenLaw} {n k : Nat} {q : Program} {loose : List Str} {XP : (Str → Option Value) → Heap → Prop} {YP : World → Heap → Prop} {d : DefRec} {K : Params → PySem.W.Frag} {CX : World → CXT} {sp : World → Sp} {x : Str}
    (hn : l.most = some n) (hn2 : n ≤ sizeLine) (hdf : d.params.defaults = []) (hr : Room k callerA)
    (hY : ∀ (w : World) (h : Heap), YP w h → (K w.params).In h)
    (F : ∀ (w : World) (mg : Str → Option Value) (fa : Addr) (h : Heap), (K w.params).In h → h.Ns mainGlobals mg → mg d.name = some (.ref fa) →
      ∃ fd : FuncData, (∀ (s : Shared) (u : Value), BindsTo s fd ⟨[u], []⟩ [(x, u)]) ∧
        ∀ base : Heap, (K w.params).In base → base.Ns mainGlobals mg → FnOk l.prog w (K w.params) mg base (CX w) k fa fd [x] (sp w))
    (hsp : ∀ (w : World) (H : Hp) (a : Addr) (ns : List Int), ns.length ≤ n → Only H → SqL (K w.params) H a (ns.map V.int) → sp w [.ref a] H (fun v _ => v = .bl true) fun _ _ _ => False)
    (hCX : ∀ (w : World) (H : Hp) (s : Shared) (e : Value) (s' : Shared), CX w [] H s (fun _ _ _ => False) e s' → False) :
    PySem.W.WalkO q loose XP YP l.row.toRowW d [] (fun f vs => PySem.call f vs) := by
  refine Att.attach_call hn hdf fun w s₀ s₁ mg mb fa o pm cd doc a vs ns G Y ho hd hcd hmg hobj hints hlen hg => ?_
  have KX := hY w _ Y
  obtain ⟨fd, hb, hF⟩ := F w mg fa _ KX G.T.g hmg
  exact law_call KX G.T.g G.T.b G.T.builtins G.T.nolimit hg hobj hints (Nat.le_trans hlen hn2) hr hF hb (fun H hO hS => hsp w H a ns hlen hO hS) fun H e s' => hCX w H s₁ e s'
end L2
namespace L2
open PySem PySem.Spec PyProof.Rows
abbrev CX0 : CXT := fun _ _ _ _ _ _ => False
structure Fun (K : PySem.W.Frag) (x qual : Str) (st : Stmt) (f : Addr) (fd : FuncData) : Prop where
  ex : ∃ (oc : Value) (od : Option Addr) (kV doc pm : Value) (an : Option Addr) (cdv ct : Value) (osl : Array (Option Value)),
    fd = PySem.W.fnOf x qual (defArgs st) (defBody st) (defScope st) .none kV doc pm an cdv ct ∧ K.lookup f = some ⟨oc, od, .func fd, osl⟩ ∧ PySem.W.codeIn K cdv qual = true
  kp : PySem.W.keepIn K (.ref f) = true
section
variable {P : Program} {w : World} {K : PySem.W.Frag} {mg : Str → Option Value} {base : Heap}
theorem Fun.ok {x qual : Str} {st : Stmt} {f : Addr} {fd : FuncData} {N ps : List Str} {k : Nat} {sp : Sp} (F : Fun K x qual st f fd) (S : FnScope N ps (defScope st)) (len : ∀ vs H Q E, sp vs H Q E → vs.length = ps.length)
    (hbody : ∀ (cdv : Value) (A : Around) (outer : List Env) (s : Shared) (H : Hp) (vs : List V) (Q : VK) (E : XK), Room k (A.deeper (envOfC qual (defScope st) s.heap.objs.size f cdv)) → sp vs H Q E →
      ∃ t, PSs (cxOf CX0 P w K mg base N qual (defScope st) f cdv A outer s H E).nox (defBody st) t ∧ t { nx := fun _ H' => Q .non H', rt := Q } (start N vs) H) : FnOk P w K mg base CX0 (k + 1) f fd ps sp := by
  obtain ⟨oc, od, kV, doc, pm, an, cdv, ct, osl, rfl, lk, hcd⟩ := F.ex
  refine fn_of lk hcd S len fun A outer s H vs Q E hr hsp => ?_
  obtain ⟨t, h, q⟩ := hbody cdv A outer s H vs Q E hr hsp
  exact ⟨t, h.nox, q⟩
theorem Fun.binds {x qual : Str} {st : Stmt} {f : Addr} {fd : FuncData} {ps : List Str} (F : Fun K x qual st f fd)
    (h : ∀ (kV doc pm : Value) (an : Option Addr) (cdv ct : Value) (us : List Value), us.length = ps.length → bindArgs (PySem.W.fnOf x qual (defArgs st) (defBody st) (defScope st) .none kV doc pm an cdv ct) ⟨us, []⟩ = pure (ps.zip us)) : Binds K fd ps [] := by
  obtain ⟨oc, od, kV, doc, pm, an, cdv, ct, osl, rfl, lk, hcd⟩ := F.ex
  exact .all (h kV doc pm an cdv ct)
theorem fun_mk {x qual : Str} {st : Stmt} {f : Addr} {oc : Value} {od an : Option Addr} {osl : Array (Option Value)} {kV doc pm cdv ct : Value} (l : K.lookup f = some ⟨oc, od, .func (PySem.W.fnOf x qual (defArgs st) (defBody st) (defScope st) .none kV doc pm an cdv ct), osl⟩)
    (c : PySem.W.codeIn K cdv qual = true) (k : PySem.W.keepIn K (.ref f) = true) : Fun K x qual st f (PySem.W.fnOf x qual (defArgs st) (defBody st) (defScope st) .none kV doc pm an cdv ct) := ⟨⟨oc, od, kV, doc, pm, an, cdv, ct, osl, rfl, l, c⟩, k⟩
end
section
variable {X : Cx}
end
theorem iteF {A B : Prop} (h : B) : if false = true then A else B := by
  rw [if_neg Bool.false_ne_true]
  exact h
theorem iteT {A B : Prop} (h : A) : if true = true then A else B := by
  rw [if_pos rfl]
  exact h
def Same (H H' : Hp) : Prop := ∀ b o, H b = some o → H' b = some o
theorem Same.refl (H : Hp) : Same H H := fun _ _ h => h
theorem Same.trans {H H1 H2 : Hp} (a : Same H H1) (b : Same H1 H2) : Same H H2 := fun c o h => b c o (a c o h)
theorem Same.free {H H' : Hp} (e : Same H H') {l : Addr} (h : H' l = Option.none) : H l = Option.none := by
  cases q : H l with
  | none => rfl
  | some o =>
    rw [e l o q] at h
    cases h
theorem Same.seq {K : PySem.W.Frag} {H H' : Hp} {a : Addr} {xs : List V} (e : Same H H') (h : SqL K H a xs) : SqL K H' a xs := by
  rcases h with (h | ⟨o, h⟩) | h
  · exact .inl (.inl (e _ _ h))
  · exact .inl (.inr ⟨o, e _ _ h⟩)
  · exact .inr h
end L2
set_option Elab.async false
set_option linter.all false
set_option maxRecDepth 100000
namespace L2
open PySem PySem.Spec PyProof.Rows
def dTfree : HO → Bool
  | .dT _ => false
  | .frz _ u => dTfree u
  | _ => true
def NoT (H : Hp) : Prop := ∀ a o, H a = some o → dTfree o = true
def plainO : HO → Bool
  | .lst _ => true
  | .tup _ => true
  | .dK _ => true
  | .rng _ _ => true
  | _ => false
structure Gc (H G H' : Hp) : Prop where
  a : Same H G
  b : Same G H'
  c : ∀ p o, G p = some o → H p = some o ∨ plainO o = true
section
variable {P : Program} {w : World} {H G H' : Hp} {h h' : Heap} {a : Addr} {o : HO}
theorem ObjOk.gc (n : dTfree o = true) (x0 : ObjOk P w H h a o) (x : ObjOk P w H' h' a o) : ObjOk P w H h' a o := by
  induction o with
  | ins C dx fs => exact ⟨x0.1, x.2⟩
  | dT kvs => cases n
  | frz ob u ih => exact ⟨x.1, ih n x0.2 x.2⟩
  | _ => exact x
theorem ObjOk.plain (n : plainO o = true) (x : ObjOk P w H' h' a o) : ObjOk P w H h' a o := by
  cases o with
  | lst xs => exact x
  | tup xs => exact x
  | dK kvs => exact x
  | rng lo hi => exact x
  | _ => cases n
theorem HOk.gc (n : NoT H) (x0 : HOk P w H h) (x : HOk P w H' h') (g : Gc H G H') : HOk P w G h' := fun a o e => by
  rcases g.c a o e with q | q
  · refine (((x0 a o q).gc (n a o q) (x a o (g.b a o e)))).stay (fun _ _ _ z => z) (fun b z => g.a _ _ z) fun b xs z => g.a _ _ z
  · exact (x a o (g.b a o e)).plain q
theorem Same.none_of (s : Same H H') {b : Addr} (e : H' b = none) : H b = none := s.free e
theorem Un.gc {fs ex : List Addr} (u : Un fs ex H H' h h') (g : Gc H G H') : Un fs ex H G h h' :=
  ⟨u.keep, u.slot, fun b o q n hx => g.b.free (u.free b o q n hx), u.there, fun b xs q => g.a _ _ q, fun b o x q => g.a _ _ q, fun b ps q => ⟨#[], by rw [Array.append_empty]; exact g.a _ _ q⟩⟩
theorem Gc.refl : Gc H H H := ⟨Same.refl H, Same.refl H, fun _ _ e => .inl e⟩
theorem Gc.none (s : Same H H') : Gc H H H' := ⟨Same.refl H, s, fun _ _ e => .inl e⟩
theorem same_upd {p : Addr} (o : HO) (hp : H p = Option.none) : Same H (upd H p o) := fun b u e => by rw [upd_ne (ne_of_none e hp)]; exact e
theorem Gc.one {p : Addr} (s : Same H H') (hp : H p = Option.none) (e : H' p = some o) (n : plainO o = true) : Gc H (upd H p o) H' :=
  ⟨same_upd o hp, fun b u z => by
    by_cases hb : b = p
    · subst hb; rw [upd_same] at z; cases z; exact e
    · rw [upd_ne hb] at z; exact s b u z, fun b u z => by
    by_cases hb : b = p
    · subst hb; rw [upd_same] at z; cases z; exact .inr n
    · rw [upd_ne hb] at z; exact .inl z⟩
theorem NoT.upd {p : Addr} (n : NoT H) (d : dTfree o = true) : NoT (upd H p o) := fun b u z => by
  by_cases hb : b = p
  · subst hb; rw [upd_same] at z; cases z; exact d
  · rw [upd_ne hb] at z; exact n b u z
end
theorem Inv.gc {X : Cx} {pins pins' : List (Addr × Obj)} {σ σ' : St} {H G H' : Hp} {s s' : Shared} (n : NoT H) (I : Inv X pins σ H s) (J : Inv X pins' σ' H' s') (g : Gc H G H') : Inv X pins' σ' G s' :=
  ⟨J.ok, J.os, J.bare, ⟨J.base.keep, J.base.slot, fun b o q z hx => g.b.free (J.base.free b o q z hx), J.base.there, fun b xs q => g.a _ _ (I.base.tups b xs q), fun b o x q => g.a _ _ (I.base.frzs b o x q), fun b ps q => let ⟨m, e⟩ := I.base.tbls b ps q; ⟨m, g.a _ _ e⟩⟩,
   J.loc, J.cell, g.b.free J.free, fun x c e => g.b.free (J.freeC x c e), fun p hp => let ⟨e, z, r⟩ := J.pin p hp; ⟨e, g.b.free z, r⟩, HOk.gc n I.hok J.hok g, J.len⟩
def tGcT (t : TT) : TT := fun σ H Q => NoT H ∧ t σ H fun v H' => ∃ G, Gc H G H' ∧ Q v G
theorem pt_gc {X : Cx} {e : Expr} {t : TT} (h : PT X e t) : PT X e (tGcT t) := fun pins s σ H Q I ⟨n, q⟩ =>
  thn (h pins s σ H _ I q) fun u s1 ⟨H1, I1, G, g, q1⟩ => ⟨G, I.gc n I1 g, q1⟩
end L2
set_option Elab.async false
set_option linter.all false
set_option maxRecDepth 100000
namespace L2
open PySem PySem.Spec PyProof.Rows
theorem ObjOk.at_ {P : Program} {w : World} {H : Hp} {h : Heap} {a : Addr} {o : HO} (x : ObjOk P w H h a o) : ∃ ob, h.get? a = some ob := by
  cases o with
  | lst xs => obtain ⟨_, _, _, _, e⟩ := x; exact ⟨_, e⟩
  | tup xs => obtain ⟨_, _, _, ob, e, _⟩ := x; exact ⟨_, e⟩
  | dK kvs => obtain ⟨_, _, _, _, o, _, _, e, _⟩ := x; exact ⟨_, e⟩
  | dT kvs => obtain ⟨_, _, _, _, o, _, _, e, _⟩ := x; exact ⟨_, e⟩
  | set S n => obtain ⟨o, _, _, _, e, _⟩ := x; exact ⟨_, e⟩
  | ins C dx fs => obtain ⟨_, _, _, e, _⟩ := x; exact ⟨_, e⟩
  | own y => obtain ⟨_, e⟩ := x; exact ⟨_, e⟩
  | xd fs => obtain ⟨_, ⟨_, _, _, e, _⟩, _⟩ := x; exact ⟨_, e⟩
  | rng lo hi => obtain ⟨_, _, _, e⟩ := x; exact ⟨_, e⟩
  | frz ob u => obtain ⟨e, _⟩ := x; exact ⟨_, e⟩
  | tbl ps => exact ⟨_, (show h.get? a = some _ from x)⟩
  | met f y => exact ⟨_, (show h.get? a = some _ from x)⟩
  | ext φ => obtain ⟨_, ⟨_, e⟩, _⟩ := x; exact ⟨_, e⟩
theorem HOk.none_of {P : Program} {w : World} {H : Hp} {h : Heap} {a : Addr} (x : HOk P w H h) (e : h.get? a = none) : H a = none := by
  cases q : H a with
  | none => rfl
  | some u =>
    obtain ⟨ob, z⟩ := (x a u q).at_
    rw [e] at z; cases z
def hid (h : Heap) (l : List Env) (rs : List Addr) : Heap := PySem.W.hideAll h (frs l ++ rs)
theorem hid_get {h : Heap} {l : List Env} {rs : List Addr} {b : Addr} {o : Obj} (e : h.get? b = some o) (h1 : b ∉ frs l) (h2 : b ∉ rs) : (hid h l rs).get? b = some o :=
  PySem.W.hideAll_get _ e fun z => (List.mem_append.mp z).elim h1 h2
theorem of_hid {h : Heap} {l : List Env} {rs : List Addr} {b : Addr} {o : Obj} (e : (hid h l rs).get? b = some o) : h.get? b = some o := PySem.W.of_hideAll _ e
theorem hid_rs {h : Heap} {l : List Env} {rs : List Addr} {b : Addr} (e : b ∈ rs) : (hid h l rs).get? b = none := PySem.W.hideAll_none _ (List.mem_append_right _ e)
theorem hid_frames {h base : Heap} {l : List Env} {rs : List Addr} (e : h.FunFrames base l) : h.FunFrames (hid h l rs) l :=
  PySem.W.funFrames_hide e fun _ he _ ha => List.mem_append_left _ (List.mem_filterMap.mpr ⟨_, he, ha⟩)
def Fly (l : List Env) (rs : List Addr) (e : Addr) (cls : Value) (h : Heap) : Prop := e ∈ rs ∧ ∃ a0, Heap.FlyingW (hid h l rs) l e cls a0 h
def XE (P : Program) (w : World) : CXT := fun outer H s E ev s' => ∃ (e : Addr) (C : Value) (rs : List Addr) (H' : Hp), ev = .ref e ∧ s'.os = s.os ∧ AllBare s'.gens ∧ Un (frs outer) [] H H' s.heap s'.heap ∧
  HOk P w H' s'.heap ∧ (∀ b ∈ rs, s.heap.get? b = none ∧ H' b = none) ∧ Fly outer rs e C s'.heap ∧ E C none H'
section
variable {X : Cx} {pins : List (Addr × Obj)} {σ : St} {H : Hp} {s : Shared} {h' : Heap} {rs : List Addr}
theorem Inv.s0_none (I : Inv X pins σ H s) (hex : X.ex = []) {b : Addr} (e : s.heap.get? b = none) : X.s₀.heap.get? b = none := by
  cases q : X.s₀.heap.get? b with
  | none => rfl
  | some o =>
    obtain ⟨o', z⟩ := I.base.there b o q (by rw [hex]; simp)
    rw [e] at z; cases z
theorem Inv.noteUn (I : Inv X pins σ H s) (hex : X.ex = []) (hrs : ∀ b ∈ rs, X.s₀.heap.get? b = none)
    (stay : ∀ b o, s.heap.get? b = some o → b ∉ frs X.stack → b ∉ rs → h'.get? b = some o) (up : s.heap.UpToSlots h') : Un X.fs [] X.H₀ H X.s₀.heap h' := by
  have B := I.base
  rw [hex] at B
  have nrs : ∀ b o, X.s₀.heap.get? b = some o → b ∉ rs := fun b o e z => by rw [hrs b z] at e; cases e
  have nst : ∀ b o, X.s₀.heap.get? b = some o → b ∉ X.fs → b ∉ frs X.stack := fun b o e hb z => by
    rcases List.mem_cons.mp (I.stkSub b z) with q | q
    · exact absurd (Nat.lt_of_lt_of_le (Heap.lt_size e) I.ok.above) (by rw [q]; exact Nat.lt_irrefl _)
    · exact hb q
  refine ⟨fun b o q n hb hx => stay b o (B.keep b o q n hb hx) (nst b o q hb) (nrs b o q), fun b o q n hb hx => ?_, fun b o q n hx => B.free b o q n hx, fun b o q hx => ?_, B.tups, B.frzs, B.tbls⟩
  · obtain ⟨sl, e1⟩ := B.slot b o q n hb hx
    obtain ⟨_, o', ho', hd⟩ := I.funs.mem hb
    rw [e1] at ho'; cases ho'
    obtain ⟨sl', e2⟩ := up b _ e1 hd
    exact ⟨sl', e2⟩
  · obtain ⟨o', e1⟩ := B.there b o q hx
    by_cases hb : b ∈ frs X.stack
    · obtain ⟨_, o2, ho2, hd⟩ := I.stack.mem hb
      obtain ⟨sl', e2⟩ := up b _ ho2 hd
      exact ⟨_, e2⟩
    · exact ⟨o', stay b o' e1 hb (nrs b o q)⟩
theorem Inv.noteOk (I : Inv X pins σ H s) (hrs : ∀ b ∈ rs, H b = none) (stay : ∀ b o, s.heap.get? b = some o → b ∉ frs X.stack → b ∉ rs → h'.get? b = some o) : HOk X.prog X.w H h' := fun a o e =>
  (I.hok a o e).stay (fun b u hb q => stay b u q (fun z => by
      have n := I.stkFree b z
      rcases hb with r | r
      · rw [r, e] at n; cases n
      · rw [r] at n; cases n) fun z => by
      have n := hrs b z
      rcases hb with r | r
      · rw [r, e] at n; cases n
      · rw [r] at n; cases n) (fun _ q => q) fun _ _ q => q
theorem rec_new {base : Heap} {l : List Env} {h h1 : Heap} {T : Addr} {oT : Obj} {ts : Array Value} (hl : h.FunFrames base l) (up : h.UpToSlots h1) (e : (hid h l rs).get? T = none) (hT : h1.get? T = some oT) (hd : oT.data = .fields ts) : h.get? T = none ∨ T ∈ rs := by
  by_cases hr : T ∈ rs
  · exact .inr hr
  · refine .inl ?_
    cases q : h.get? T with
    | none => rfl
    | some o =>
      by_cases hf : T ∈ frs l
      · obtain ⟨_, o2, ho2, hnf⟩ := hl.mem hf
        rw [q] at ho2; cases ho2
        obtain ⟨sl, e2⟩ := up T o q hnf
        rw [hT] at e2; cases e2
        exact absurd hd (hnf ts)
      · rw [hid_get q hf hr] at e; cases e
end
section
variable {P : Program} {w : World} {K : PySem.W.Frag} {mg : Str → Option Value} {base : Heap} {N : List Str} {qual : Str} {scope : Scope} {f : Addr} {cd : Value} {A : Around} {outer : List Env} {s₀ : Shared} {H₀ : Hp} {E : XK}
theorem leave_made {pins : List (Addr × Obj)} {σ : St} {H : Hp} {s : Shared} {h' : Heap} {e : Addr} {cls : Value} {args : List Value}
    (I : Inv (cxOf (XE P w) P w K mg base N qual scope f cd A outer s₀ H₀ E) pins σ H s) (hx : Heap.MadeExcOf s.heap h' e cls args) (q : E cls none H) :
    (cxOf (XE P w) P w K mg base N qual scope f cd A outer s₀ H₀ E).xe (.ref e) { s with heap := h' } := by
  show wpAny (model P w) (A.deeper (envOfC qual scope s₀.heap.objs.size f cd)) (leaving (envOfC qual scope s₀.heap.objs.size f cd) (.ref e)) (fun _ s'' => XE P w outer H₀ s₀ E (.ref e) s'') (fun e' s'' => XE P w outer H₀ s₀ E e' s'') { s with heap := h' }
  have hst : s.heap.FunFrames base (envOfC qual scope s₀.heap.objs.size f cd :: outer) := I.stack
  refine wpAny_leaves_madeW (base := hid s.heap (envOfC qual scope s₀.heap.objs.size f cd :: outer) []) (h := s.heap) I.ok.frames rfl (fun b o z => of_hid z) (hid_frames hst) hx fun h'' t fl tup tn up => ?_
  obtain ⟨f1, f2, f3, oe, vs, T, oT, ts, he, hc, hd, h1, hnT, hTe, hT, hdT, h3⟩ := fl
  have up' : s.heap.UpToSlots h'' := (Heap.UpToSlots.of_keeps hx.keeps).trans up
  have nT : s.heap.get? T = none := (rec_new hst up' hnT hT hdT).elim id fun z => nomatch z
  have stay : ∀ b o, s.heap.get? b = some o → b ∉ frs (envOfC qual scope s₀.heap.objs.size f cd :: outer) → b ∉ [e, T] → h''.get? b = some o := fun b o z hb _ => f1 b o (hid_get z hb fun y => nomatch y)
  have n0 : ∀ b ∈ [e, T], s.heap.get? b = none := fun b hb => by
    rcases List.mem_cons.mp hb with r | r
    · rw [r]; exact hx.new
    · rw [List.mem_singleton.mp r]; exact nT
  have n1 : ∀ b ∈ [e, T], s₀.heap.get? b = none := fun b hb => I.s0_none rfl (n0 b hb)
  have n2 : ∀ b ∈ [e, T], H b = none := fun b hb => I.hok.none_of (n0 b hb)
  refine ⟨e, cls, [e, T], H, rfl, I.os, I.bare, I.noteUn rfl n1 stay up', I.noteOk n2 stay, fun b hb => ⟨n1 b hb, n2 b hb⟩, ⟨.head _, .ref t, ?_⟩, q⟩
  exact ⟨fun b o z => of_hid z, hid_rs (.head _), hid_frames f3, oe, vs, T, oT, ts, he, hc, hd, h1, hid_rs (.tail _ (.head _)), hTe, hT, hdT, h3⟩
abbrev XKs := St → XK
def Passes' (CX : CXT) (X : Cx) (E : XKs) : Prop := ∀ (pins : List (Addr × Obj)) (σ : St) (H : Hp) (s : Shared) (e : Value) (s' : Shared), Inv X pins σ H s → CX X.stack H s (E σ) e s' → X.xe e s'
def Raises (X : Cx) (E : XKs) : Prop := ∀ (pins : List (Addr × Obj)) (σ : St) (H : Hp) (s : Shared) (h' : Heap) (e : Addr) (cls : Value) (args : List Value), Inv X pins σ H s → Heap.MadeExcOf s.heap h' e cls args → E σ cls none H → X.xe (.ref e) { s with heap := h' }
theorem raisesB : Raises (cxOf (XE P w) P w K mg base N qual scope f cd A outer s₀ H₀ E) (fun _ => E) := fun _ _ _ _ _ _ _ _ I hx q => leave_made I hx q
theorem passB : Passes' (XE P w) (cxOf (XE P w) P w K mg base N qual scope f cd A outer s₀ H₀ E) (fun _ => E) := by
  intro pins σ H s ev s' I hq
  obtain ⟨e, C, rs, H', rfl, os, bare, un, hok, hrs, ⟨her, a0, fl⟩, q⟩ := hq
  have J : Inv (cxOf (XE P w) P w K mg base N qual scope f cd A outer s₀ H₀ E) pins σ H' s' := I.call' os un hok bare (fun b z => nomatch z)
  show wpAny (model P w) (A.deeper (envOfC qual scope s₀.heap.objs.size f cd)) (leaving (envOfC qual scope s₀.heap.objs.size f cd) (.ref e)) (fun _ s'' => XE P w outer H₀ s₀ E (.ref e) s'') (fun e' s'' => XE P w outer H₀ s₀ E e' s'') s'
  have hst : s'.heap.FunFrames base (envOfC qual scope s₀.heap.objs.size f cd :: outer) := J.stack
  refine wpAny_leaves_onW (base := hid s'.heap (envOfC qual scope s₀.heap.objs.size f cd :: outer) rs) I.ok.frames rfl fl fun h'' fl' up => ?_
  obtain ⟨f1, f2, f3, oe, vs, T, oT, ts, he, hc, hd, h1, hnT, hTe, hT, hdT, h3⟩ := fl'
  have nT := rec_new hst up hnT hT hdT
  have stay : ∀ b o, s'.heap.get? b = some o → b ∉ frs (envOfC qual scope s₀.heap.objs.size f cd :: outer) → b ∉ T :: rs → h''.get? b = some o := fun b o z hb hr => f1 b o (hid_get z hb fun y => hr (.tail _ y))
  have n1 : ∀ b ∈ T :: rs, s₀.heap.get? b = none := fun b hb => by
    rcases List.mem_cons.mp hb with r | r
    · rw [r]
      rcases nT with z | z
      · exact J.s0_none rfl z
      · exact I.s0_none rfl (hrs T z).1
    · exact I.s0_none rfl (hrs b r).1
  have n2 : ∀ b ∈ T :: rs, H' b = none := fun b hb => by
    rcases List.mem_cons.mp hb with r | r
    · rw [r]
      rcases nT with z | z
      · exact hok.none_of z
      · exact (hrs T z).2
    · exact (hrs b r).2
  refine ⟨e, C, T :: rs, H', rfl, J.os, J.bare, J.noteUn rfl n1 stay up, J.noteOk n2 stay, fun b hb => ⟨n1 b hb, n2 b hb⟩, ⟨.tail _ her, a0, ?_⟩, q⟩
  exact ⟨fun b o z => of_hid z, hid_rs (.tail _ her), hid_frames f3, oe, vs, T, oT, ts, he, hc, hd, h1, hid_rs (.head _), hTe, hT, hdT, h3⟩
end
def tCallX (sp : Sp) (dvs : List V) (E : XKs) (t : TA) : TE := fun σ H Q => t σ H fun vs H1 => sp (vs ++ dvs) H1 Q (E σ)
section
variable {X : Cx} {CX : CXT} {k : Nat} {f C : Addr} {fd : FuncData} {ps : List Str} {sp : Sp} {dvs : List V} {ds : List Value} {E : XKs} {x m : Str} {p pos apos : Pos} {e o : Expr} {es : List Expr} {ta : TE} {t : TA}
theorem run_fnX {pins : List (Addr × Obj)} {σ : St} {H : Hp} {s : Shared} {Q : VK} {us : List Value} {vs : List V} (F : FnOk X.prog X.w X.K X.mg X.base CX k f fd ps sp) (hr : Room k X.A) (hb : Binds X.K fd ps ds) (hd : Vals dvs ds) (hx : Passes' CX X E)
    (I : Inv X pins σ H s) (r : Vals vs us) (h : sp (vs ++ dvs) H Q (E σ)) : wpAny (model X.prog X.w) X.A (call (.ref f) us) (EP X pins σ Q) X.xe s := by
  have r2 : Vals (vs ++ dvs) (us ++ ds) := r.append hd
  have hl : (us ++ ds).length = ps.length := by rw [← r2.length]; exact F.len _ _ _ _ h
  refine wpAny_call (codeAny_mono (F.run X.A X.stack s H ⟨us, []⟩ (us ++ ds) (vs ++ dvs) Q (E σ) hr I.env0 (hb s us I.kIn hl) r2 h) fun r s' hq => ?_)
  cases r with
  | error e => exact hx pins σ H s e s' I hq
  | ok fl =>
    cases fl with
    | ret u => exact I.after hq
    | next => exact False.elim hq
    | brk => exact False.elim hq
    | cont => exact False.elim hq
theorem pe_callX (F : FnOk X.prog X.w X.K X.mg X.base CX k f fd ps sp) (hr : Room k X.A) (hg : Gl X x) (hm : X.mg x = some (.ref f)) (hk : PySem.W.keepIn X.K (.ref f) = true) (hb : Binds X.K fd ps ds) (hd : Vals dvs ds) (hx : Passes' CX X E)
    (ha : PA X (e :: es) t) (hdb : (x == ("__debug__" : Str)) = false := by decide) (he : starEach (e :: es) X.env = (false, eval e X.env) :: starEach es X.env := by rfl) (hpl : (backTo pos (starEach es X.env)).any (·.1) = false := by rfl) :
    PE X (.Call (.Name x p) (e :: es) [] pos) (tCallX sp dvs E t) := by
  intro pins s σ H Q I h
  refine wpAny_Call_Name_kw (ld_glob I hg hm ?_ hdb)
  refine PySem.W.callWith_K (h₀ := X.base) I.ok.mod.kin hk (thn (ha pos pins s σ H _ I h) fun us s1 ⟨vs, H1, I1, r, q⟩ => ⟨I1.kIn, ?_⟩) he hpl
  exact run_fnX F hr hb hd hx I1 r q
end
section
variable {P : Program} {w : World} {K : PySem.W.Frag} {mg : Str → Option Value} {base : Heap}
theorem Fun.okX {x qual : Str} {st : Stmt} {f : Addr} {fd : FuncData} {N ps : List Str} {k : Nat} {sp : Sp} (F : Fun K x qual st f fd) (S : FnScope N ps (defScope st)) (len : ∀ vs H Q E, sp vs H Q E → vs.length = ps.length)
    (hbody : ∀ (cdv : Value) (A : Around) (outer : List Env) (s : Shared) (H : Hp) (vs : List V) (Q : VK) (E : XK), Room k (A.deeper (envOfC qual (defScope st) s.heap.objs.size f cdv)) → sp vs H Q E →
      ∃ t, PSs (cxOf (XE P w) P w K mg base N qual (defScope st) f cdv A outer s H E) (defBody st) t ∧ t { nx := fun _ H' => Q .non H', rt := Q } (start N vs) H) : FnOk P w K mg base (XE P w) (k + 1) f fd ps sp := by
  obtain ⟨oc, od, kV, doc, pm, an, cdv, ct, osl, rfl, lk, hcd⟩ := F.ex
  exact fn_of lk hcd S len fun A outer s H vs Q E hr hsp => hbody cdv A outer s H vs Q E hr hsp
end
theorem exc_obj {K : PySem.W.Frag} {h : Heap} {C : Addr} {bmB : List Value} {newId : String} (X : K.In h) (q : PySem.W.excIn K C bmB newId = true) :
    ∃ bm N nm qn bs hdct sn sub ab col dd k0 k1 k2 k3 k5 mN, h.get? C = some (excClassObj nm qn C N bs bm hdct sn sub ab col dd k0 k1 k2 k3 k5 newId) ∧ h.Ns N mN ∧ mN "__init__" = none ∧ OwnTail h bmB bm := by
  unfold PySem.W.excIn at q
  split at q
  · rename_i dd cd sl ho
    split at q
    · rename_i C' bm k0 k1 k2 k3 n k5 hm hs
      simp only [Bool.and_eq_true, beq_iff_eq, Bool.not_eq_true'] at q
      obtain ⟨⟨⟨⟨⟨rfl, rfl⟩, hdel⟩, ht⟩, hok⟩, hni⟩ := q
      obtain ⟨nm, bs, mro, ns, qn, hd, sn, sub, ab, col, del⟩ := cd
      dsimp only at hm hdel hok hni
      subst hm hdel
      have hsl : sl = #[k0, k1, k2, k3, some (.builtin n), k5] := by
        obtain ⟨l⟩ := sl
        simp only at hs
        rw [hs]
      subst hsl
      exact ⟨bm, ns, nm, qn, bs, hd, sn, sub, ab, col, dd, k0, k1, k2, k3, k5, _, X _ _ ho, .of_isNs (PySem.W.isNs_of_in X hok), PySem.W.nsMap_none_of_in X hok hni, PySem.W.tail_of_in X ht⟩
    · cases q
  · cases q
def tRaise (C : Addr) (E : XKs) (t : TA) : TS := fun _ σ H => t σ H fun vs H1 => vs.length ≤ sizeLine ∧ E σ (.ref C) none H1
theorem ps_raise {X : Cx} {x : Str} {C : Addr} {bmB : List Value} {B newId initId : String} {E : XKs} {e : Expr} {es : List Expr} {t : TA} {np cpos pos : Pos} (O : PySem.W.excIn X.K C bmB newId = true) (FB : ExcBaseFacts B newId initId bmB)
    (hc : X.calm = true) (hg : Gl X x) (hm : X.mg x = some (.ref C)) (hx : Raises X E) (ha : PA X (e :: es) t) (hdb : (x == ("__debug__" : Str)) = false := by decide)
    (he : starEach (e :: es) X.env = (false, eval e X.env) :: starEach es X.env := by rfl) (hpl : (backTo cpos (starEach es X.env)).any (·.1) = false := by rfl) :
    PS X (.Raise (some (.Call (.Name x np) (e :: es) [] cpos)) none pos) (tRaise C E t) := by
  intro pins s σ H D I h
  obtain ⟨tl, N, nm, q, bs, hdct, sn, sub, ab, col, dd, k0, k1, k2, k3, k5, mN, hC, hN, hni, T⟩ := exc_obj I.mod.kin O
  refine wpAny_Raise_call_subT (C := C) (nm := nm) (q := q) (N := N) (bs := bs) (bm := tl) (hdct := hdct) (sn := sn) (sub := sub) (ab := ab) (col := col) (dd := dd) (k0 := k0) (k1 := k1) (k2 := k2) (k3 := k3) (k5 := k5)
    FB (mN := mN) (T.hasType FB.hasBase) (I.ok.hd hc) (by rw [he]; show (false || (backTo cpos (starEach es X.env)).any (·.1)) = false; rw [hpl]; rfl) hni (ld_glob I hg hm ⟨rfl, ?_⟩ hdb)
  have hA := ha cpos pins s σ H _ I h
  rw [he] at hA ⊢
  refine Calls.evalArgs_plain (thn hA fun us s1 ⟨vs, H1, I1, r, hz, q1⟩ => ⟨rfl, by rw [← r.length]; exact hz, I1.bk _ _ hC, hN.keeps I1.bk, T.keeps I1.bk, fun h' e' hm' => ?_⟩)
  exact hx pins σ H1 s1 h' e' (.ref C) us I1 hm' q1
end L2
set_option Elab.async false
set_option linter.all false
set_option maxRecDepth 100000
namespace L2
open PySem PySem.Spec PyProof.Rows
section
variable {X : Cx} {pins : List (Addr × Obj)} {σ : St} {H : Hp} {s : Shared} {h' : Heap} {rs : List Addr}
theorem Inv.noted {t' : Nat} (I : Inv X pins σ H s) (hrs : ∀ b ∈ rs, X.s₀.heap.get? b = none ∧ H b = none) (hpin : ∀ p ∈ X.pn ++ pins, p.1 ∉ rs)
    (stay : ∀ b o, s.heap.get? b = some o → b ∉ frs X.stack → b ∉ rs → h'.get? b = some o) (up : s.heap.UpToSlots h') : Inv X pins σ H { s with heap := h', toks := t' } := by
  have B := I.base
  have cellK : ∀ c v, s.heap.IsCell c v → h'.IsCell c v := fun c v ⟨o, ho, hd⟩ => by
    obtain ⟨sl, e⟩ := up c o ho fun vs q => by rw [hd] at q; cases q
    exact ⟨_, e, hd⟩
  have nrs : ∀ b o, X.s₀.heap.get? b = some o → b ∉ rs := fun b o e z => by rw [(hrs b z).1] at e; cases e
  have nst : ∀ b o, X.s₀.heap.get? b = some o → b ∉ X.fs → b ∉ frs X.stack := fun b o e hb z => by
    rcases List.mem_cons.mp (I.stkSub b z) with q | q
    · exact absurd (Nat.lt_of_lt_of_le (Heap.lt_size e) I.ok.above) (by rw [q]; exact Nat.lt_irrefl _)
    · exact hb q
  refine ⟨I.ok, I.os, I.bare, ⟨fun b o q n hb hx => stay b o (B.keep b o q n hb hx) (nst b o q hb) (nrs b o q), fun b o q n hb hx => ?_, fun b o q n hx => B.free b o q n hx, fun b o q hx => ?_, B.tups, B.frzs, B.tbls⟩, ?_, fun x c e => ?_, I.free, I.freeC, fun p hp => ?_, I.noteOk (fun b hb => (hrs b hb).2) stay, I.len⟩
  · obtain ⟨sl, e1⟩ := B.slot b o q n hb hx
    obtain ⟨_, o', ho', hd⟩ := I.funs.mem hb
    rw [e1] at ho'; cases ho'
    obtain ⟨sl', e2⟩ := up b _ e1 hd
    exact ⟨sl', e2⟩
  · obtain ⟨o', e1⟩ := B.there b o q hx
    by_cases hb : b ∈ frs X.stack
    · obtain ⟨_, o2, ho2, hd⟩ := I.stack.mem hb
      obtain ⟨sl', e2⟩ := up b _ ho2 hd
      exact ⟨_, e2⟩
    · exact ⟨o', stay b o' e1 hb (nrs b o q)⟩
  · obtain ⟨m, hn, hl⟩ := I.loc
    refine ⟨m, up.ns hn, fun i x v e1 e2 e3 => ?_⟩
    obtain ⟨u, r, l⟩ := hl i x v e1 e2 e3
    refine ⟨u, r, ?_⟩
    rcases l with l | ⟨k, c, e, z⟩
    · exact .inl l
    · exact .inr ⟨k, c, e, cellK c _ z⟩
  · obtain ⟨v, z⟩ := I.cell x c e
    exact ⟨v, cellK c v z⟩
  · obtain ⟨e, n, ne, nf, d⟩ := I.pin p hp
    exact ⟨stay p.1 p.2 e (fun z => (List.mem_cons.mp (I.stkSub _ z)).elim ne nf) (hpin p hp), n, ne, nf, d⟩
theorem Inv.track {a : Addr} {o : HO} (I : Inv X pins σ H s) (hn : H a = none) (h0 : X.s₀.heap.get? a = none) (hL : a ≠ X.env.locals) (hc : ∀ x c, X.env.cells.lookup x = some c → c ≠ a) (hp : ∀ p ∈ X.pn ++ pins, p.1 ≠ a)
    (new : ObjOk X.prog X.w (upd H a o) s.heap a o) : Inv X pins σ (upd H a o) s := by
  have B := I.base
  refine ⟨I.ok, I.os, I.bare, ⟨B.keep, B.slot, fun b ob q n hx => ?_, B.there, fun b xs q => ?_, fun b ob xs q => ?_, fun b ps q => ?_⟩, I.loc, I.cell, ?_, fun x c e => ?_, fun p hp' => ?_, fun b u e => ?_, I.len⟩
  · have : b ≠ a := fun z => by rw [z, h0] at q; cases q
    rw [upd_ne this]; exact B.free b ob q n hx
  · have e := B.tups b xs q
    rw [upd_ne (ne_of_none e hn)]; exact e
  · have e := B.frzs b ob xs q
    rw [upd_ne (ne_of_none e hn)]; exact e
  · obtain ⟨m, e⟩ := B.tbls b ps q
    exact ⟨m, by rw [upd_ne (ne_of_none e hn)]; exact e⟩
  · rw [upd_ne (Ne.symm hL)]; exact I.free
  · rw [upd_ne (hc x c e)]; exact I.freeC x c e
  · obtain ⟨e, n, ne, nf, d⟩ := I.pin p hp'
    exact ⟨e, by rw [upd_ne (hp p hp')]; exact n, ne, nf, d⟩
  · by_cases hb : b = a
    · subst hb
      rw [upd_same] at e
      cases e
      exact new
    · rw [upd_ne hb] at e
      refine (I.hok b u e).stay (fun c v _ q => q) (fun c q => ?_) fun c xs q => ?_
      · rw [upd_ne (ne_of_none q hn)]; exact q
      · rw [upd_ne (ne_of_none q hn)]; exact q
theorem Cx.Ok.re (ok : X.Ok) (A' : Around) (hf : A'.frames = X.A.frames) (cm : Bool) (hh : cm = true → A'.handled = none) (pn : List (Addr × Obj)) (xe : Value → Shared → Prop) : ({ X with A := A', calm := cm, pn := pn, xe := xe } : Cx).Ok :=
  ⟨ok.mod, ok.kind, ok.glob, ok.blt, ok.above, ok.inj, ok.has, ok.cab, hh, hf.trans ok.frames, ok.stk, ok.exf, ok.bs, ok.bsz, ok.noex, ok.exfs, ok.funs, ok.frf⟩
theorem Inv.toPn (I : Inv X pins σ H s) (xe : Value → Shared → Prop) : Inv { X with pn := X.pn ++ pins, xe := xe } [] σ H s :=
  ⟨I.ok.re X.A rfl X.calm I.ok.hd _ _, I.os, I.bare, I.base, I.loc, I.cell, I.free, I.freeC, fun p hp => I.pin p (by rw [List.append_nil] at hp; exact hp), I.hok, I.len⟩
theorem Inv.ofPn {xe : Value → Shared → Prop} {pins' : List (Addr × Obj)} (ok : X.Ok) (I : Inv { X with pn := X.pn ++ pins, xe := xe } pins' σ H s) : Inv X pins σ H s :=
  ⟨ok, I.os, I.bare, I.base, I.loc, I.cell, I.free, I.freeC, fun p hp => I.pin p (List.mem_append_left _ hp), I.hok, I.len⟩
abbrev Cx.caught (X : Cx) (e : Addr) : Cx := { X with A := X.A.mark (some (.ref e)), calm := false, pn := X.pn, xe := fun _ _ => False }
theorem Inv.toCaught (I : Inv X pins σ H s) (e : Addr) : Inv (X.caught e) pins σ H s :=
  ⟨I.ok.re (X.A.mark (some (.ref e))) rfl false (fun z => nomatch z) _ _, I.os, I.bare, I.base, I.loc, I.cell, I.free, I.freeC, I.pin, I.hok, I.len⟩
theorem Inv.ofCaught {e : Addr} (ok : X.Ok) (I : Inv (X.caught e) pins σ H s) : Inv X pins σ H s :=
  ⟨ok, I.os, I.bare, I.base, I.loc, I.cell, I.free, I.freeC, I.pin, I.hok, I.len⟩
theorem name_goes {M : Model} {A : Around} {E : Value → Shared → Prop} {i : Nat} {n : Str} {pos : Pos} {Q : Unit → Shared → Prop} (I : Inv X pins σ H s) (hN : X.N.Nodup) (hi : X.N[i]? = some n) (hk : X.env.kindOf n = some .local)
    (h : ∀ s', Inv X pins (σ.set i none) H s' → Q () s') : wpAny M A (do bindName X.env n .none; unbindBehindTheSuite X.env n pos) Q E s := by
  obtain ⟨m, hn, hl⟩ := id I.loc
  have hcls : (X.env.scope.kind == .class || (X.env.scope.kind == .module && X.env.locals != X.env.globals)) = false := by rw [I.ok.kind]; rfl
  have cne := I.cne
  refine wpAny_nameGoes_keeps hk hn hcls fun h' v hn' hs => ?_
  obtain ⟨oL, _, _, hoL, _⟩ := id hn
  refine h _ ⟨I.ok, I.os, I.bare, ⟨fun b o e n hb hx => ?_, fun b o e n hb hx => ?_, I.base.free, fun b o e hx => ?_, I.base.tups, I.base.frzs, I.base.tbls⟩, ⟨_, hn', fun j y v' e1 e2 e3 => ?_⟩, fun y c e => ?_, I.free, I.freeC, fun p hp => ?_, fun b ob e => ?_, by simpa using I.len⟩
  · exact (hs.2 b (Nat.ne_of_lt (Nat.lt_of_lt_of_le (Heap.lt_size e) I.ok.above))).trans (I.base.keep b o e n hb hx)
  · obtain ⟨sl, e1⟩ := I.base.slot b o e n hb hx
    exact ⟨sl, (hs.2 b (Nat.ne_of_lt (Nat.lt_of_lt_of_le (Heap.lt_size e) I.ok.above))).trans e1⟩
  · obtain ⟨o', e1⟩ := I.base.there b o e hx
    exact ⟨o', (hs.2 b (Nat.ne_of_lt (Nat.lt_of_lt_of_le (Heap.lt_size e) I.ok.above))).trans e1⟩
  · by_cases hj : j = i
    · subst hj
      rw [List.getElem?_set] at e2
      simp at e2
    · rw [List.getElem?_set_ne (Ne.symm hj)] at e2
      obtain ⟨u', r', q⟩ := hl j y v' e1 e2 e3
      refine ⟨u', r', ?_⟩
      rcases q with ⟨k, e⟩ | ⟨k, c, e, z⟩
      · refine .inl ⟨k, ?_⟩
        have : y ≠ n := fun e => hj (nodup_ix hN e1 (e ▸ hi))
        simp [this, e]
      · exact .inr ⟨k, c, e, z.sameBut hs (cne y c e)⟩
  · obtain ⟨w', z⟩ := I.cell y c e
    exact ⟨w', z.sameBut hs (cne y c e)⟩
  · obtain ⟨e, n, ne, nf, d⟩ := I.pin p hp
    exact ⟨(hs.2 p.1 ne).trans e, n, ne, nf, d⟩
  · refine (I.hok b ob e).stay (fun c w' hc q => (hs.2 c ?_).trans q) (fun _ q => q) fun _ _ q => q
    rintro rfl
    rcases hc with rfl | hc
    · rw [I.free] at e; cases e
    · rw [I.free] at hc; cases hc
end
theorem excMatches_K {M : Model} {A : Around} {E : Value → Shared → Prop} {s : Shared} {K : PySem.W.Frag} {e C D : Addr} {oe : Obj} {Q : Bool → Shared → Prop} (X : K.In s.heap) (he : s.heap.get? e = some oe) (hcls : oe.cls = .ref C)
    (hx : PySem.W.exmOne K (.ref C) (.ref D) = some true) (h : Q true s) : wpAny M A (excMatches (.ref e) (.ref D)) Q E s :=
  (PySem.W.exm_one (M := M) X (hcls ▸ (PySem.W.Looks.ld he).andThen .now) hx).here h
def ExcIs (C : Value) (e : Addr) : HO := HO.ext fun h => ∃ o vs, h.get? e = some o ∧ o.cls = C ∧ o.data = .fields vs
def tTry (K : PySem.W.Frag) (CH : Addr) (i : Nat) (tb : XKs → TS) (th : TS) : TS := fun D σ H =>
  tb (fun σ' C _ H' => ∃ Ce, C = .ref Ce ∧ PySem.W.exmOne K (.ref Ce) (.ref CH) = some true ∧ ∀ e, H' e = none →
    th { nx := fun σ2 H2 => D.nx (σ2.set i none) H2, rt := D.rt, bk := fun σ2 H2 => D.bk (σ2.set i none) H2, ct := fun σ2 H2 => D.ct (σ2.set i none) H2 } (σ'.set i (some (.ref e))) (upd H' e (ExcIs (.ref Ce) e))) D σ H
theorem ps_try {X : Cx} {CH : Addr} {i : Nat} {n x : Str} {np hpos pos : Pos} {body suite : List Stmt} {b₀ : Stmt} {tb : XKs → TS} {th : TS} (hN : X.N.Nodup) (hi : X.N[i]? = some n) (hk : X.env.kindOf n = some .local)
    (hg : Gl X x) (hm : X.mg x = some (.ref CH))
    (hex : X.ex = []) (hst : X.stack = X.env :: X.outer) (hfr : X.env.frame = some X.env.locals)
    (hb : ∀ (pn : List (Addr × Obj)) (Ee : Value → Shared → Prop) (Ex : XKs), Passes' (XE X.prog X.w) { X with pn := pn, xe := Ee } Ex → PSs { X with pn := pn, xe := Ee } body (tb Ex))
    (hh : ∀ e : Addr, PSs (X.caught e) (b₀ :: suite) th) (hdb : (x == ("__debug__" : Str)) = false := by decide) :
    PS X (.Try body [.ExceptHandler (some (.Name x np)) (some n) (b₀ :: suite) hpos] [] [] pos) (tTry X.K CH i tb th) := by
  intro pins s σ H D I h
  refine wpAny_Try_except ?_
  have ok := I.ok
  refine wpAny_mono (hb (X.pn ++ pins) _ _ ?hP [] s σ H D (I.toPn _) h) (fun f s1 hf => ?_) (fun _ _ z => z)
  case hP =>
    intro pins' σ' H1 s1 ev s1' I1 hq
    obtain ⟨e, C, rs, H', rfl, os, bare, un, hok, hrs, ⟨her, a0, fl⟩, ⟨Ce, rfl, hmro, hth⟩⟩ := hq
    have J1 := I1.call' os un hok bare (fun b z => nomatch z)
    have J : Inv X pins σ' H' s1' := J1.ofPn ok
    have I0 : Inv X pins σ' H1 s1 := I1.ofPn ok
    have hn0 : ∀ b ∈ rs, X.s₀.heap.get? b = none ∧ H' b = none := fun b hb => by
      refine ⟨?_, (hrs b hb).2⟩
      cases q : X.s₀.heap.get? b with
      | none => rfl
      | some o =>
        obtain ⟨o', z⟩ := I0.base.there b o q (by rw [hex]; simp)
        rw [(hrs b hb).1] at z; cases z
    have hpin : ∀ p ∈ X.pn ++ pins, p.1 ∉ rs := fun p hp z => by
      have := (I0.pin p hp).1
      rw [(hrs _ z).1] at this; cases this
    have hstk : s1'.heap.FunFrames X.base (X.env :: X.outer) := by rw [← hst]; exact J.stack
    rw [show X.stack = X.env :: X.outer from hst] at fl
    have hfrm : X.A.frames = some (X.env :: X.outer) := by rw [← hst]; exact ok.frames
    show wpAny (model X.prog X.w) X.A (noteFrame (.ref e) X.env) _ _ s1'
    refine wpAny_looks_onW (base := hid s1'.heap (X.env :: X.outer) rs) hfrm hfr fl fun h₄ held up4 => ?_
    refine wpAny_landsW held fun h₅ fl5 up5 => ?_
    have nin : ∀ b, b ∉ frs X.stack → b ∉ frs (X.env :: X.outer) := fun b hb => by rw [← hst]; exact hb
    have stay5 : ∀ b o, s1'.heap.get? b = some o → b ∉ frs X.stack → b ∉ rs → h₅.get? b = some o := fun b o z hb hr => fl5.1 b o (hid_get z (nin b hb) hr)
    have I5 : Inv X pins σ' H' { s1' with heap := h₅, toks := s1'.toks } := J.noted hn0 hpin stay5 (up4.trans up5)
    obtain ⟨ob, hob, hobc⟩ := fl5.there
    refine wpAny_handleBy_cons (codeAny_handlers_test (ld_glob (X := X.caught e) (I5.toCaught e) hg hm (excMatches_K I5.kIn hob hobc hmro ?_) hdb)) (by intro q; cases q)
    refine codeAny_handlers_suite_as (lands_againW fl5 fun h₆ fl6 up6 => ?_)
    have stay6 : ∀ b o, s1'.heap.get? b = some o → b ∉ frs X.stack → b ∉ rs → h₆.get? b = some o := fun b o z hb hr => fl6.1 b o (hid_get z (nin b hb) hr)
    have I6 : Inv X pins σ' H' { s1' with heap := h₆, toks := s1'.toks } := J.noted hn0 hpin stay6 ((up4.trans up5).trans up6)
    have e1 : s1.heap.get? e = none := (hrs e her).1
    obtain ⟨oe, vs, hoe, hoec, hoed, _⟩ := fl6.first
    have I6' : Inv X pins σ' (upd H' e (ExcIs (.ref Ce) e)) { s1' with heap := h₆, toks := s1'.toks } := by
      refine I6.track (hrs e her).2 (hn0 e her).1 ?_ ?_ (fun p hp z => hpin p hp (by rw [z]; exact her)) ?_
      · intro z
        obtain ⟨m, ⟨oL, _, _, hoL, _⟩, _⟩ := I0.loc
        rw [← z, e1] at hoL; cases hoL
      · intro x c hc z
        obtain ⟨v, o, ho, _⟩ := I0.cell x c hc
        rw [z, e1] at ho; cases ho
      · exact ⟨⟨oe, vs, hoe, hoec, hoed⟩, ⟨oe, hoe⟩, fun h1 h2 ⟨o, ws, a1, a2, a3⟩ k => ⟨o, ws, k o a1, a2, a3⟩⟩
    refine store_ok (X := X.caught e) (I6'.toCaught e) hN hi (Or.inl hk) (v := .ref e) rfl (fun s7 I7 => ?_) (.inr hk)
    refine wpAny_mono (hh e pins s7 _ _ _ I7 (hth e (hrs e her).2)) (fun f s8 hf => ?_) (fun _ _ z => z.elim)
    show wpAny (model X.prog X.w) X.A (do bindName X.env n .none; unbindBehindTheSuite X.env n hpos) (fun _ s₃ => SP X pins D f s₃) X.xe s8
    cases f with
    | next =>
      obtain ⟨σ2, H2, J2, q⟩ := hf
      exact name_goes (J2.ofCaught ok) hN hi hk fun s9 I9 => ⟨_, _, I9, q⟩
    | brk =>
      obtain ⟨σ2, H2, J2, q⟩ := hf
      exact name_goes (J2.ofCaught ok) hN hi hk fun s9 I9 => ⟨_, _, I9, q⟩
    | cont =>
      obtain ⟨σ2, H2, J2, q⟩ := hf
      exact name_goes (J2.ofCaught ok) hN hi hk fun s9 I9 => ⟨_, _, I9, q⟩
    | ret u =>
      obtain ⟨v, σ2, H2, J2, r, q⟩ := hf
      exact name_goes (J2.ofCaught ok) hN hi hk fun s9 I9 => ⟨v, _, _, I9, r, q⟩
  cases f with
  | next =>
    obtain ⟨σ', H', J, q⟩ := hf
    exact wpAny_execs_nil ⟨σ', H', J.ofPn ok, q⟩
  | brk =>
    obtain ⟨σ', H', J, q⟩ := hf
    exact ⟨σ', H', J.ofPn ok, q⟩
  | cont =>
    obtain ⟨σ', H', J, q⟩ := hf
    exact ⟨σ', H', J.ofPn ok, q⟩
  | ret u =>
    obtain ⟨v, σ', H', J, r, q⟩ := hf
    exact ⟨v, σ', H', J.ofPn ok, r, q⟩
end L2
set_option Elab.async false
set_option linter.all false
set_option maxRecDepth 100000
namespace L2
open PySem PySem.Spec PyProof.Rows PySem.W
inductive ClsV : V → Value → Prop where
  | ty (n : String) : ClsV (.ty n) (.type n)
  | own (a : Addr) : ClsV (.ref a) (.ref a)
section
variable {X : Cx}
theorem call_isinst : CallR X (.builtin "isinstance") (fun xs H Q => ∃ x c t u b, xs = [x, c] ∧ ClsV c u ∧ TyOf X.K H x t ∧ PySem.W.kitOne X.K t u = some b ∧ Q (.bl b) H) := by
  intro pins s σ H xs us Q I r h
  obtain ⟨x, c, t, u, b, rfl, rc, ty, e, q⟩ := h
  obtain ⟨ux, uc, rfl, rx, rc'⟩ := vals2 r
  have ec : uc = u := by
    cases rc with
    | ty n => exact rc'
    | own a => exact rc'
  subst ec
  exact isinst_ok I rx ty e fun tk => ⟨.bl b, H, I.tok _, rfl, q⟩
end
structure ExcCls (K : Frag) (C : Addr) : Prop where
  l1 : findIn K (.ref C) "__getattribute__" = some (some (.builtin "BaseException.__getattribute__"))
  l2 : findIn K (.ref C) "__getattr__" = some none
  l3 : findIn K (.ref C) "__class__" = some (some (.builtin "object.__class__"))
  c1 : (clsIn K C).isSome = true
  m1 : mroIn K C (.type "object") = some true
  m2 : mroIn K C (.type "BaseException") = some true
section
variable {prog : Program} {w : World} {A : Around} {E : Value → Shared → Prop} {K : Frag} {e C : Addr} {o : Obj} {s : Shared}
open Builtin Builtin.ObjectAttr Builtin.Getset_descriptor PySem.Calls in
theorem exc_class_get {R : Result → Shared → Prop} {tp : Value} (X : K.In s.heap) (Z : ExcCls K C) (hx : s.heap.get? e = some o) (hc : o.cls = .ref C)
    (h : R (.ok (.ret (.ref C))) s) : codeAny (model prog w) A (.call (.builtin "getset_descriptor.__get__") ⟨[.builtin "object.__class__", .ref e, tp], []⟩) R s := by
  obtain ⟨hh, g, dr, t, os⟩ := s
  have L0 : Looks (model prog w) hh (typeOf (.ref e)) (.ref C) := hc ▸ (Looks.ld hx).andThen .now
  have L1 := looks_mroIn (M := model prog w) X Z.m1
  refine codeAny_call_builtin KF.slot_gs.plain KF.entry_gs (KF.slot_gs.check _ _ _ _ _ _ _ _ KF.type_class (KF.args_gs _ _ _) ?_)
  unfold Builtin.«getset_descriptor.__get__» descrGet
  rw [dga_obj]
  refine wpAny_bind (wpAny_pure ?_)
  unfold descrGetter descrCheckInstance descrNameAndClass isInstance
  simp only [KF.owner_class]
  repeat lk
  refine ⟨Code.quiet_builtin _ (by decide +kernel), codeAny_builtin KF.entry_class ?_⟩
  unfold Builtin.«object.__class__» shownTypeOf
  repeat lk
  exact h
theorem exc_ga_check {M : Model} {nameV : Value} {Q : Unit → Shared → Prop} (X : K.In s.heap) (Z : ExcCls K C) (hx : s.heap.get? e = some o) (hc : o.cls = .ref C) (hq : Q () s) :
    wpAny M A (checkBuiltinCall "BaseException.__getattribute__" ⟨[.ref e, nameV], []⟩) Q E s := by
  have hk : builtinKind "BaseException.__getattribute__" = some .slot := by decide +kernel
  have hsplit : splitId "BaseException.__getattribute__" = some ("BaseException", "__getattribute__") := by decide +kernel
  have ha := F.args_bexc_ga (.ref e) nameV
  obtain ⟨hh, g, dr, t, os⟩ := s
  have L0 : Looks M hh (typeOf (.ref e)) (.ref C) := hc ▸ (Looks.ld hx).andThen .now
  have L1 := looks_mroIn (M := M) X Z.m2
  have LI : Looks M hh (isInstance (.ref e) (.type "BaseException")) true := L0.andThen L1
  simp only [checkBuiltinCall, hk, hsplit]
  refine wpAny_bind (LI.at ?_)
  repeat (first | assumption | wp_step)
theorem exc_ga_entry {tk : Tok} {Q : Fin → Shared → Prop} (X : K.In s.heap) (Z : ExcCls K C) (hx : s.heap.get? e = some o) (hc : o.cls = .ref C) (hq : Q (.done (.ret (.ref C))) s) :
    wpAny (model prog w) A (Builtin.«object.__getattribute__» ⟨[.ref e, .str "__class__" tk], []⟩) Q E s := by
  obtain ⟨hh, g, dr, t, os⟩ := s
  have L0 : Looks (model prog w) hh (typeOf (.ref e)) (.ref C) := hc ▸ (Looks.ld hx).andThen .now
  have L3 := looks_findIn (M := model prog w) X Z.l3
  have f5 := KF.type_class
  have f6 := F.slot_gs_get.lookup
  have f7 := F.slot_gs_set.lookup
  repeat (any_goals (first | assumption | with_reducible refine L0.at ?_ | with_reducible refine L3.at ?_ | wp_step))
  refine exc_class_get X Z hx hc ?_
  repeat (any_goals (first | assumption | wp_step))
theorem exc_class_attr {Q : Option Value → Shared → Prop} (X : K.In s.heap) (Z : ExcCls K C) (hx : s.heap.get? e = some o) (hc : o.cls = .ref C) (h : Q (some (.ref C)) { s with toks := s.toks + 1 }) :
    wpAny (model prog w) A (getAttr? (.ref e) "__class__") Q E s := by
  obtain ⟨hh, g, dr, t, os⟩ := s
  have L0 : Looks (model prog w) hh (typeOf (.ref e)) (.ref C) := hc ▸ (Looks.ld hx).andThen .now
  have L1 := looks_findIn (M := model prog w) X Z.l1
  have L2 := looks_findIn (M := model prog w) X Z.l2
  have f3 := F.excAttr_ValueError.ga.bind (.ref e)
  have hx2 : (Value.builtin "BaseException.__getattribute__" == Value.builtin "object.__getattribute__") = false := by decide +kernel
  have hx0 : ∀ ex : Bool, (ex && onTheHeap (Value.builtin "BaseException.__getattribute__")) = false := fun ex => by cases ex <;> rfl
  have hx1 : (onTheHeap (Value.ref C) && Value.builtin "BaseException.__getattribute__" == Value.builtin "object.__getattribute__") = false := by rw [hx2]; rfl
  unfold getAttr?
  repeat (any_goals (first | assumption | with_reducible refine L0.at ?_ | with_reducible refine L1.at ?_ | with_reducible refine L2.at ?_ | wp_step))
  refine codeAny_call_builtin F.excAttr_ValueError.ga.plain F.entry_bexc_ga (exc_ga_check X Z hx hc (exc_ga_entry X Z hx hc ?_))
  repeat (any_goals (first | assumption | wp_step))
theorem kitx_exc (Z : ExcCls K C) : KitX K (.ref e) (.ref C) (fun h => ∃ o, h.get? e = some o ∧ o.cls = .ref C) where
  ty := fun M h _ ⟨o, h1, h2⟩ => h2 ▸ (Looks.ld h1).andThen .now
  it := fun M h X _ => by
    have c1 := Z.c1
    unfold clsIn at c1
    split at c1
    · rename_i c' d' cd' sl' ho
      intro A' Q' E' s' k q
      unfold isType loadHead
      exact wpAny_bind (wpAny_loadPart (k _ _ (X _ _ ho)) (wpAny_pure q))
    · cases c1
  ne := fun h tp dd its n sl X htp => by
    refine Bool.eq_false_iff.mpr fun q => ?_
    have e' : C = tp := Value.ref.inj (beq_iff_eq.mp q)
    subst e'
    have c1 := Z.c1
    unfold clsIn at c1
    split at c1
    · rename_i c' d' cd' sl' ho
      have z := (X _ _ ho).symm.trans htp
      cases z
    · cases c1
  ca := fun X ⟨o, h1, h2⟩ k => exc_class_attr X Z h1 h2 k
end
section
variable {X : Cx}
theorem call_isinstE : CallR X (.builtin "isinstance") (fun xs H Q => ∃ e c C u b, xs = [.ref e, c] ∧ ClsV c u ∧ H e = some (ExcIs (.ref C) e) ∧ ExcCls X.K C ∧ PySem.W.kitOne X.K (.ref C) u = some b ∧ Q (.bl b) H) := by
  intro pins s σ H xs us Q I r h
  obtain ⟨e, c, C, u, b, rfl, rc, he, Z, k, q⟩ := h
  obtain ⟨ux, uc, rfl, rx, rc'⟩ := vals2 r
  have ec : uc = u := by
    cases rc with
    | ty n => exact rc'
    | own a => exact rc'
  subst ec
  cases (show ux = Value.ref e from rx)
  obtain ⟨⟨o, vs, h1, h2, _⟩, _, _⟩ := (show ObjOk X.prog X.w H s.heap e (ExcIs (.ref C) e) from I.hok e _ he)
  exact kia_one (kitx_exc Z) I.kIn ⟨o, h1, h2⟩ k (fun z => nomatch z) fun tk => ⟨.bl b, H, I.tok _, rfl, q⟩
theorem call_sum_tup (hc : X.calm = true) : CallR X (.builtin "sum") (fun xs H Q => ∃ (p : Addr) (ns : List Int), xs = [.ref p] ∧ SqT X.K H p (ns.map V.int) ∧ Q (.int ns.sum) H) := by
  intro pins s σ H xs us Q I r h
  obtain ⟨p, ns, rfl, hq, q⟩ := h
  obtain ⟨u, rfl, rx⟩ := vals1 r
  cases (show u = Value.ref p from rx)
  obtain ⟨its, r', pl, hz⟩ := I.tuple hq
  have hi := intsAre_of r'
  obtain ⟨ys, hy⟩ := hi.allInts.items
  have hn : numsOf its.toArray.toList = ns := by rw [show its.toArray.toList = its from rfl, hi.numsOf]
  rw [hy] at pl hn
  rw [nums_intItems] at hn
  refine ktm_sumG (I.ok.hd hc) pl fun h' tk t' hk => ?_
  rw [preSum_eq, List.take_of_length_le (by simp), hn]
  exact ⟨.int ns.sum, H, I.kept hk, ⟨_, rfl⟩, q⟩
end
end L2
namespace L2
open PySem PySem.Spec PyProof.Rows
section
variable {X : Cx} {a b : Expr} {ta : TE}
def eqVs (xs ys : List V) : Bool := (List.range (min xs.length ys.length)).all (fun j => eqV (xs.getD j .non) (ys.getD j .non)) && xs.length == ys.length
def rEqT (K : PySem.W.Frag) (neg : Bool) : R2 := fun x y H Q => ∃ p p' xs ys, x = .ref p ∧ y = .ref p' ∧ SqT K H p xs ∧ SqT K H p' ys ∧ xs.all flatV = true ∧ ys.all flatV = true ∧ Q (.bl (neg ^^ eqVs xs ys)) H
theorem eqAt_items {A : Around} {s : Shared} {xs ys : List V} {us vs : List Value} (r : Vals xs us) (r' : Vals ys vs) (fx : xs.all flatV = true) (fy : ys.all flatV = true) (j : Nat) (h1 : j < us.toArray.size) (h2 : j < vs.toArray.size) :
    SeqAt.EqAt A s us.toArray[j] vs.toArray[j] (eqV (xs.getD j .non) (ys.getD j .non)) := by
  have e1 : us[j]? = some us.toArray[j] := by simp at h1; simp [h1]
  have e2 : vs[j]? = some vs.toArray[j] := by simp at h2; simp [h2]
  have l1 : j < xs.length := by rw [r.length]; simpa using h1
  have l2 : j < ys.length := by rw [r'.length]; simpa using h2
  have g1 : xs[j]? = some (xs.getD j .non) := by simp [List.getD, l1]
  have g2 : ys[j]? = some (ys.getD j .non) := by simp [List.getD, l2]
  obtain ⟨u, hu, ru⟩ := r.get g1
  obtain ⟨v, hv, rv⟩ := r'.get g2
  rw [e1] at hu
  rw [e2] at hv
  rw [Option.some.inj hu, Option.some.inj hv]
  exact eqAt_V ru rv (List.all_eq_true.mp fx _ (List.mem_of_getElem? g1)) (List.all_eq_true.mp fy _ (List.mem_of_getElem? g2))
theorem op_eqT (hu : X.A.units < cLine) : OpR X (compareOp .Eq) (rEqT X.K false) := by
  intro pins s σ H x y v u Q I rx ry h
  obtain ⟨p, p', xs, ys, rfl, rfl, hx, hy, fx, fy, q⟩ := h
  cases (show v = Value.ref p from rx)
  cases (show u = Value.ref p' from ry)
  obtain ⟨its, r, pl, hz⟩ := I.tuple hx
  obtain ⟨its', r', pl', hz'⟩ := I.tuple hy
  refine SeqAt.eq_tupleAt pl pl' hu (fun j h1 h2 => eqAt_items r r' fx fy j h1 h2) ⟨.bl _, H, I, rfl, ?_⟩
  rw [List.size_toArray, List.size_toArray, ← r.length, ← r'.length]
  simpa [eqVs] using q
theorem op_neT (hu : X.A.units < cLine) : OpR X (compareOp .NotEq) (rEqT X.K true) := by
  intro pins s σ H x y v u Q I rx ry h
  obtain ⟨p, p', xs, ys, rfl, rfl, hx, hy, fx, fy, q⟩ := h
  cases (show v = Value.ref p from rx)
  cases (show u = Value.ref p' from ry)
  obtain ⟨its, r, pl, hz⟩ := I.tuple hx
  obtain ⟨its', r', pl', hz'⟩ := I.tuple hy
  refine SeqAt.RcNeAt.tuples pl pl' hu (fun j h1 h2 => eqAt_items r r' fx fy j h1 h2) X.prog X.w X.xe _ ⟨.bl _, H, I, rfl, ?_⟩
  rw [List.size_toArray, List.size_toArray, ← r.length, ← r'.length]
  simpa [eqVs] using q
theorem op_eqU (hu : X.A.units < cLine) : OpR X (compareOp .Eq) (fun x y H Q => rEq x y H Q ∨ rEqT X.K false x y H Q) := op_eq.or (op_eqT hu)
theorem op_neU (hu : X.A.units < cLine) : OpR X (compareOp .NotEq) (fun x y H Q => rNe x y H Q ∨ rEqT X.K true x y H Q) := op_ne.or (op_neT hu)
theorem call_isiU : CallR X (.builtin "isinstance") (fun xs H Q => (∃ x c t u b, xs = [x, c] ∧ ClsV c u ∧ TyOf X.K H x t ∧ PySem.W.kitOne X.K t u = some b ∧ Q (.bl b) H) ∨
    ∃ e c C u b, xs = [.ref e, c] ∧ ClsV c u ∧ H e = some (ExcIs (.ref C) e) ∧ ExcCls X.K C ∧ PySem.W.kitOne X.K (.ref C) u = some b ∧ Q (.bl b) H) := call_isinst.or call_isinstE
end
end L2
set_option Elab.async false
set_option linter.all false
set_option maxRecDepth 100000
namespace L2
open PySem PySem.Spec PyProof.Rows
abbrev T (l : List Nat) : V := .str ⟨⟨l⟩⟩
def cs (x : Str) : List Nat := x.cps.toList
theorem T_cs (x : Str) : V.str x = T (cs x) := rfl
section
variable {X : Cx} {e a b c : Expr} {pos : Pos}
theorem PE.imp {t t' : TE} (h : PE X e t) (i : ∀ σ H Q, t' σ H Q → t σ H Q) : PE X e t' := fun pins s σ H Q I q => h pins s σ H Q I (i σ H Q q)
theorem PT.imp {t t' : TT} (h : PT X e t) (i : ∀ σ H Q, t' σ H Q → t σ H Q) : PT X e t' := fun pins s σ H Q I q => h pins s σ H Q I (i σ H Q q)
theorem OpR.imp {f : Value → Value → Sem Value} {r r' : R2} (h : OpR X f r) (i : ∀ x y H Q, r' x y H Q → r x y H Q) : OpR X f r' := fun pins s σ H x y v u Q I rx ry q => h pins s σ H x y v u Q I rx ry (i _ _ _ _ q)
theorem UnR.imp {f : Value → Sem Value} {r r' : V → Hp → VK → Prop} (h : UnR X f r) (i : ∀ x H Q, r' x H Q → r x H Q) : UnR X f r' := fun pins s σ H x v Q I rx q => h pins s σ H x v Q I rx (i _ _ _ q)
theorem CallR.imp {f : Value} {r r' : List V → Hp → VK → Prop} (h : CallR X f r) (i : ∀ x H Q, r' x H Q → r x H Q) : CallR X f r' := fun pins s σ H x v Q I rx q => h pins s σ H x v Q I rx (i _ _ _ q)
theorem IxR.imp {r r' : R2} (h : IxR X r) (i : ∀ x y H Q, r' x y H Q → r x y H Q) : IxR X r' := fun va sl pins s σ H x y v u Q I rx ry q hs => h va sl pins s σ H x y v u Q I rx ry (i _ _ _ _ q) hs
theorem MtR.imp {id : String} {r r' : V → List V → Hp → VK → Prop} (h : MtR X id r) (i : ∀ x xs H Q, r' x xs H Q → r x xs H Q) : MtR X id r' := fun pins s σ H x xs v us Q I rx rs q => h pins s σ H x xs v us Q I rx rs (i _ _ _ _ q)
def fVar (i : Nat) : TE := fun σ H Q => match σ[i]? with
  | some (some v) => Q v H
  | _ => False
theorem fv (i : Nat) {x : Str} (hN : X.N[i]? = some x := by rfl) (hv : Vis X.env.scope x := by first | exact Or.inl rfl | exact Or.inr (Or.inl rfl) | exact Or.inr (Or.inr rfl)) (hd : (x == ("__debug__" : Str)) = false := by decide)
    (hcd : (x == ("__classdict__" : Str)) = false := by decide) : PE X (.Name x pos) (fVar i) := (pe_var hN hv hd hcd).imp fun σ H Q h => by
  unfold fVar at h
  split at h
  · exact ⟨_, by assumption, h⟩
  · exact h.elim
theorem pe_strT {x : Str} {j} (l : List Nat) (h : x = ⟨⟨l⟩⟩ := by decide +kernel) : PE X (.Constant (.str x) j pos) (tC (T l)) := h ▸ pe_str
def gAdd : R2
  | .int i, .int j, H, Q => Q (.int (i + j)) H
  | .str i, .str j, H, Q => (cs i).length + (cs j).length ≤ sizeLine ∧ Q (T (cs i ++ cs j)) H
  | _, _, _, _ => False
theorem app_cs (i j : Str) : V.str (i ++ j) = T (cs i ++ cs j) := by
  show V.str ⟨i.cps ++ j.cps⟩ = V.str ⟨⟨i.cps.toList ++ j.cps.toList⟩⟩
  congr 1
  congr 1
  exact (Array.ext' (by simp))
theorem fo_add : OpR X (binaryOp .Add) gAdd := (op_add.or op_add_str).imp fun x y H Q h => by
  unfold gAdd at h
  split at h
  · exact .inl ⟨_, _, rfl, rfl, h⟩
  · refine .inr ⟨_, _, rfl, rfl, by simpa [cs, Str.length] using h.1, ?_⟩
    rw [app_cs]; exact h.2
  · exact h.elim
def gI (g : Int → Int → V) : R2
  | .int i, .int j, H, Q => Q (g i j) H
  | _, _, _, _ => False
def gIC (C : Int → Int → Prop) (g : Int → Int → V) : R2
  | .int i, .int j, H, Q => C i j ∧ Q (g i j) H
  | _, _, _, _ => False
theorem gI_to {g : Int → Int → V} : ∀ x y H Q, gI g x y H Q → rI0 g x y H Q := fun x y H Q h => by
  unfold gI at h; split at h
  · exact ⟨_, _, rfl, rfl, h⟩
  · exact h.elim
theorem gIC_to {C : Int → Int → Prop} {g : Int → Int → V} : ∀ x y H Q, gIC C g x y H Q → rI C g x y H Q := fun x y H Q h => by
  unfold gIC at h; split at h
  · exact ⟨_, _, rfl, rfl, h.1, h.2⟩
  · exact h.elim
theorem fo_sub : OpR X (binaryOp .Sub) (gI fun i j => .int (i - j)) := op_sub.imp gI_to
theorem fo_mul : OpR X (binaryOp .Mult) (gIC CMul fun i j => .int (i * j)) := op_mul.imp gIC_to
theorem fo_mod : OpR X (binaryOp .Mod) (gIC (fun _ j => 0 < j) fun i j => .int (i % j)) := op_mod.imp gIC_to
theorem fo_fdiv : OpR X (binaryOp .FloorDiv) (gIC CDiv fun i j => .int (i / j)) := op_fdiv.imp gIC_to
theorem fo_pow : OpR X (binaryOp .Pow) (gIC CPow fun i j => .int (i ^ j.toNat)) := op_pow.imp gIC_to
def gNeg : V → Hp → VK → Prop
  | .int i, H, Q => Q (.int (-i)) H
  | _, _, _ => False
theorem fu_neg : UnR X (unaryOp .USub) gNeg := un_neg.imp fun x H Q h => by
  unfold gNeg at h; split at h
  · exact ⟨_, rfl, h⟩
  · exact h.elim
def leN (a b : List Nat) : Bool := !decide (b < a)
theorem op_le_str : OpR X (compareOp .LtE) (fun x y H Q => ∃ i j, x = .str i ∧ y = .str j ∧ Q (.bl (leN (cs i) (cs j))) H) := by
  intro pins s σ H x y v u Q I rx ry h
  obtain ⟨i, j, rfl, rfl, q⟩ := h
  obtain ⟨t, rfl⟩ := rx
  obtain ⟨t', rfl⟩ := ry
  exact PySem.P.le_str ⟨.bl _, H, I, rfl, q⟩
def gLe : R2
  | .int i, .int j, H, Q => Q (.bl (decide (i ≤ j))) H
  | .str i, .str j, H, Q => Q (.bl (leN (cs i) (cs j))) H
  | _, _, _, _ => False
theorem fo_le : OpR X (compareOp .LtE) gLe := (op_le.or op_le_str).imp fun x y H Q h => by
  unfold gLe at h; split at h
  · exact .inl ⟨_, _, rfl, rfl, h⟩
  · exact .inr ⟨_, _, rfl, rfl, h⟩
  · exact h.elim
def gLt : R2
  | .int i, .int j, H, Q => Q (.bl (decide (i < j))) H
  | .str i, .str j, H, Q => Q (.bl (decide (cs i < cs j))) H
  | _, _, _, _ => False
theorem fo_lt : OpR X (compareOp .Lt) gLt := (op_lt.or op_lt_str).imp fun x y H Q h => by
  unfold gLt at h; split at h
  · exact .inl ⟨_, _, rfl, rfl, h⟩
  · exact .inr ⟨_, _, rfl, rfl, h⟩
  · exact h.elim
theorem fo_gt : OpR X (compareOp .Gt) (gI fun i j => .bl (decide (j < i))) := op_gt.imp gI_to
def eqS : V → V → Option Bool
  | .int i, .int j => some (decide (i = j))
  | .bl i, .bl j => some (decide (i = j))
  | .str i, .str j => some (decide (cs i = cs j))
  | .non, .non => some true
  | .non, .int _ => some false | .int _, .non => some false | .non, .bl _ => some false | .bl _, .non => some false | .non, .str _ => some false | .str _, .non => some false
  | .int _, .str _ => some false | .str _, .int _ => some false | .bl _, .str _ => some false | .str _, .bl _ => some false
  | _, _ => none
theorem str_eq_iff (i j : Str) : V.str i = V.str j ↔ cs i = cs j := by
  constructor
  · intro h; injection h with h; rw [h]
  · intro h
    congr 1
    obtain ⟨⟨a⟩⟩ := i
    obtain ⟨⟨b⟩⟩ := j
    have h' : a = b := h
    rw [h']
theorem eqS_scal {x y : V} {k : Bool} (h : eqS x y = some k) : scal x y = true ∧ decide (x = y) = k := by
  unfold eqS at h
  split at h <;> (first | cases h) <;> refine ⟨rfl, ?_⟩
  case h_1 i j => exact decide_eq_decide.mpr (by simp)
  case h_2 i j => exact decide_eq_decide.mpr (by simp)
  case h_3 i j => exact decide_eq_decide.mpr (str_eq_iff i j)
  all_goals simp
variable {ta tb tc : TE} {rest : List Expr}
def kB (Q : Bool → Hp → Prop) : VK := fun x H => match x with
  | .bl k => Q k H
  | _ => False
def fTest (t : TE) : TT := fun σ H Q => t σ H (kB Q)
theorem kB_of {Q : Bool → Hp → Prop} {x : V} {H : Hp} (h : kB Q x H) : ∃ k, x = .bl k ∧ Q k H := by
  unfold kB at h
  split at h
  · exact ⟨_, rfl, h⟩
  · exact h.elim
theorem ft_cmp {op : CmpOp} {r : R2} (ho : OpR X (compareOp op) r) (ha : PE X a ta) (hb : PE X b tb) (hm : behindInMarks op b = false) : PT X (.Compare a [op] [b] pos) (fTest (tOp r ta tb)) := by
  intro pins s σ H Q I h
  refine wpAny_isTrue_Compare1 (thn (ha pins s σ H _ I h) fun v s1 ⟨x, H1, I1, r1, q1⟩ => thn (hb pins s1 σ H1 _ I1 q1) fun u s2 ⟨y, H2, I2, r2, q2⟩ =>
    thn (ho pins s2 σ H2 x y v u _ I2 r1 r2 q2) fun c s3 ⟨z, H3, I3, r3, q3⟩ => ?_) hm
  obtain ⟨k, e, q3⟩ := kB_of q3
  subst e
  cases r3
  exact wpAny_truthy_bool ⟨H3, I3, q3⟩
theorem ft_is {op : CmpOp} {t : TE} (h : PC X op a b t) (h1 : behindInMarks op b = false := by first | exact nobehind _ (by decide) (by decide) | rfl) : PT X (.Compare a [op] [b] pos) (fTest t) := by
  intro pins s σ H Q I hw
  refine wpAny_isTrue_Compare1 (thn (h pins s σ H _ I hw) fun v s1 h1 => thn h1 fun u s2 h2 => thn h2 fun c s3 ⟨x, H1, I1, r1, q1⟩ => ?_) h1
  obtain ⟨d, rfl, q⟩ := kB_of q1
  cases r1
  exact wpAny_truthy_bool ⟨H1, I1, q⟩
theorem ft_val {t : TE} (h : PE X e t) (he : ∀ whole, isTrue e X.env whole = (do let v ← whole; standAt e.pos; holding [v] (truthy v)) := by intro _; rfl) : PT X e (fTest t) := by
  intro pins s σ H Q I hw
  refine isTrue_plain (thn (h pins s σ H _ I hw) fun v s1 ⟨x, H1, I1, r1, q1⟩ => ?_) (he _)
  obtain ⟨d, rfl, q⟩ := kB_of q1
  cases r1
  exact wpAny_truthy_bool ⟨H1, I1, q⟩
def fChain (r r' : R2) (ta tb tc : TE) : TE := fun σ H Q => ta σ H fun x H1 => tb σ H1 fun y H2 => r x y H2 (kB fun k H3 => if k = true then tc σ H3 fun w' H4 => r' y w' H4 Q else Q (.bl false) H3)
theorem fe_chain {op op' : CmpOp} {r r' : R2} (ho : OpR X (compareOp op) r) (ho' : OpR X (compareOp op') r') (ha : PE X a ta) (hb : PE X b tb) (hc : PE X c tc)
    (hm : lastMarks [op, op'] [b, c] = false := by with_unfolding_all rfl) : PE X (.Compare a [op, op'] [b, c] pos) (fChain r r' ta tb tc) := by
  intro pins s σ H Q I h
  refine Compare_chain (thn (ha pins s σ H _ I h) fun v s1 ⟨x, H1, I1, r1, q1⟩ => chain_link (thn (hb pins s1 σ H1 _ I1 q1) fun u s2 ⟨y, H2, I2, r2, q2⟩ =>
    thn (ho pins s2 σ H2 x y v u _ I2 r1 r2 q2) fun d s3 ⟨z, H3, I3, r3, q3⟩ => ?_)) hm
  obtain ⟨k, e, q3⟩ := kB_of q3
  subst e
  cases r3
  refine wpAny_truthy_bool ?_
  cases k with
  | false => exact ite_ff ⟨.bl false, H3, I3, rfl, q3⟩
  | true => exact ite_tt (chain_last (thn (hc pins s3 σ H3 _ I3 q3) fun w' s4 ⟨z', H4, I4, r4, q4⟩ => ho' pins s4 σ H4 y z' u w' Q I4 r2 r4 q4))
theorem ft_chain {op op' : CmpOp} {r r' : R2} (ho : OpR X (compareOp op) r) (ho' : OpR X (compareOp op') r') (ha : PE X a ta) (hb : PE X b tb) (hc : PE X c tc)
    (hm : lastMarks [op, op'] [b, c] = false := by with_unfolding_all rfl) : PT X (.Compare a [op, op'] [b, c] pos) (fTest (fChain r r' ta tb tc)) := by
  intro pins s σ H Q I h
  refine isTrue_chain (thn (ha pins s σ H _ I h) fun v s1 ⟨x, H1, I1, r1, q1⟩ => test_link (thn (hb pins s1 σ H1 _ I1 q1) fun u s2 ⟨y, H2, I2, r2, q2⟩ =>
    thn (ho pins s2 σ H2 x y v u _ I2 r1 r2 q2) fun d s3 ⟨z, H3, I3, r3, q3⟩ => ?_)) hm
  obtain ⟨k, e, q3⟩ := kB_of q3
  subst e
  cases r3
  refine wpAny_truthy_bool ?_
  cases k with
  | false => exact ite_ff ⟨H3, I3, q3⟩
  | true =>
    refine ite_tt (test_last (thn (hc pins s3 σ H3 _ I3 q3) fun w' s4 ⟨z', H4, I4, r4, q4⟩ => thn (ho' pins s4 σ H4 y z' u w' _ I4 r2 r4 q4) fun d' s5 ⟨z2, H5, I5, r5, q5⟩ => ?_))
    obtain ⟨k2, e2, q5⟩ := kB_of q5
    subst e2
    cases r5
    exact wpAny_truthy_bool ⟨H5, I5, q5⟩
def fAnd (ta tb : TE) : TE := fun σ H Q => ta σ H (kB fun c H1 => if c = true then tb σ H1 Q else Q (.bl false) H1)
def fOr (ta tb : TE) : TE := fun σ H Q => ta σ H (kB fun c H1 => if c = true then Q (.bl true) H1 else tb σ H1 Q)
def fNot (ta : TE) : TE := fun σ H Q => ta σ H (kB fun c H1 => Q (.bl (!c)) H1)
theorem fe_and (ha : PE X a ta) (hb : PE X (.BoolOp .And (b :: rest) pos) tb) : PE X (.BoolOp .And (a :: b :: rest) pos) (fAnd ta tb) := by
  intro pins s σ H Q I h
  refine BoolOp_and (thn (ha pins s σ H _ I h) fun v s1 ⟨x, H1, I1, r1, q1⟩ => ?_)
  obtain ⟨c, rfl, q1⟩ := kB_of q1
  cases r1
  refine wpAny_truthy_bool ?_
  cases c with
  | true => exact hb pins s1 σ H1 Q I1 q1
  | false => exact ⟨.bl false, H1, I1, rfl, q1⟩
theorem fe_or (ha : PE X a ta) (hb : PE X (.BoolOp .Or (b :: rest) pos) tb) : PE X (.BoolOp .Or (a :: b :: rest) pos) (fOr ta tb) := by
  intro pins s σ H Q I h
  refine BoolOp_or (thn (ha pins s σ H _ I h) fun v s1 ⟨x, H1, I1, r1, q1⟩ => ?_)
  obtain ⟨c, rfl, q1⟩ := kB_of q1
  cases r1
  refine wpAny_truthy_bool ?_
  cases c with
  | false => exact hb pins s1 σ H1 Q I1 q1
  | true => exact ⟨.bl true, H1, I1, rfl, q1⟩
theorem fe_not (ha : PE X a ta) : PE X (.UnaryOp .Not a pos) (fNot ta) := by
  intro pins s σ H Q I h
  refine UnaryOp_ (thn (ha pins s σ H _ I h) fun v s1 ⟨x, H1, I1, r1, q1⟩ => ?_)
  obtain ⟨c, rfl, q1⟩ := kB_of q1
  cases r1
  exact not_of (wpAny_truthy_bool ⟨.bl (!c), H1, I1, rfl, q1⟩)
def gAbs : List V → Hp → VK → Prop
  | [.int i], H, Q => Q (.int (if i < 0 then -i else i)) H
  | _, _, _ => False
def gMin : List V → Hp → VK → Prop
  | [.int i, .int j], H, Q => Q (.int (if j < i then j else i)) H
  | _, _, _ => False
theorem fc_min (hc : X.calm = true) : CallR X (.builtin "min") gMin := (call_min2 hc).imp fun x H Q h => by
  unfold gMin at h; split at h
  · exact ⟨_, _, rfl, h⟩
  · exact h.elim
def gLen (K : PySem.W.Frag) : List V → Hp → VK → Prop
  | [.str y], H, Q => (cs y).length ≤ sizeLine ∧ Q (.int (cs y).length) H
  | [.ref p], H, Q => ∃ xs, (SqL K H p xs ∨ SqT K H p xs) ∧ Q (.int xs.length) H
  | _, _, _ => False
theorem fc_len : CallR X (.builtin "len") (gLen X.K) := call_len.imp fun x H Q h => by
  unfold gLen at h; split at h
  · exact ⟨_, _, rfl, ⟨by simpa [cs, Str.length] using h.1, rfl⟩, by simpa [cs, Str.length] using h.2⟩
  · obtain ⟨xs, hx, q⟩ := h
    rcases hx with hx | hx
    · exact ⟨_, _, rfl, .inl ⟨xs, hx, rfl⟩, q⟩
    · exact ⟨_, _, rfl, .inr ⟨xs, hx, rfl⟩, q⟩
  · exact h.elim
def kindV (H : Hp) : V → Option String
  | .non => some "NoneType"
  | .bl _ => some "bool"
  | .int _ => some "int"
  | .str _ => some "str"
  | .ref p => match H p with
    | some (.lst _) => some "list"
    | some (.frz _ (.lst _)) => some "list"
    | some (.tup _) => some "tuple"
    | some (.dK _) => some "dict"
    | _ => none
  | _ => none
def isiT (t n : String) : Bool := t == n || (t == "bool" && n == "int")
def bKind (t : String) : Prop := t = "NoneType" ∨ t = "bool" ∨ t = "int" ∨ t = "str" ∨ t = "list" ∨ t = "tuple" ∨ t = "dict"
theorem kit_b {K : PySem.W.Frag} {t n : String} (h : bKind t) (hn : n = "int" ∨ n = "bool" ∨ n = "str" ∨ n = "list" ∨ n = "tuple" ∨ n = "dict") : PySem.W.kitOne K (.type t) (.type n) = some (isiT t n) := by
  rcases h with rfl | rfl | rfl | rfl | rfl | rfl | rfl <;> rcases hn with rfl | rfl | rfl | rfl | rfl | rfl <;> kernel_rfl
theorem kindV_ty {K : PySem.W.Frag} {H : Hp} {x : V} {t : String} (h : kindV H x = some t) : TyOf K H x (.type t) ∧ bKind t := by
  unfold kindV at h
  split at h
  · cases h; exact ⟨.non, by simp [bKind]⟩
  · cases h; exact ⟨.bl _, by simp [bKind]⟩
  · cases h; exact ⟨.int _, by simp [bKind]⟩
  · cases h; exact ⟨.str _, by simp [bKind]⟩
  · split at h
    · rename_i e; cases h; exact ⟨.lst e, by simp [bKind]⟩
    · rename_i e; cases h; exact ⟨.frz e, by simp [bKind]⟩
    · rename_i e; cases h; exact ⟨.tup e, by simp [bKind]⟩
    · rename_i e; cases h; exact ⟨.dK e, by simp [bKind]⟩
    · cases h
  · cases h
def clsN (n : String) : Bool := n == "int" || n == "bool" || n == "str" || n == "list" || n == "tuple" || n == "dict"
def gIsi (K : PySem.W.Frag) : List V → Hp → VK → Prop
  | [x, .ty n], H, Q => (match kindV H x with
    | some t => clsN n = true ∧ Q (.bl (isiT t n)) H
    | none => ∃ e C b, x = .ref e ∧ H e = some (ExcIs (.ref C) e) ∧ ExcCls K C ∧ PySem.W.kitOne K (.ref C) (.type n) = some b ∧ Q (.bl b) H)
  | [.ref e, .ref D], H, Q => ∃ C b, H e = some (ExcIs (.ref C) e) ∧ ExcCls K C ∧ PySem.W.kitOne K (.ref C) (.ref D) = some b ∧ Q (.bl b) H
  | _, _, _ => False
theorem fc_isi : CallR X (.builtin "isinstance") (gIsi X.K) := call_isiU.imp fun xs H Q h => by
  unfold gIsi at h
  split at h
  · rename_i x n
    split at h
    · rename_i t ht
      obtain ⟨ty, hb⟩ := kindV_ty (K := X.K) ht
      obtain ⟨hn, q⟩ := h
      refine .inl ⟨x, _, _, _, _, rfl, .ty n, ty, kit_b hb ?_, q⟩
      simpa [clsN, or_assoc] using hn
    · obtain ⟨e, C, b, rfl, he, Z, k, q⟩ := h
      exact .inr ⟨e, _, C, _, b, rfl, .ty n, he, Z, k, q⟩
  · rename_i e D
    obtain ⟨C, b, he, Z, k, q⟩ := h
    exact .inr ⟨e, _, C, _, b, rfl, .own D, he, Z, k, q⟩
  · exact h.elim
end
section
variable {X : Cx} {a b : Expr} {ta tb : TE} {pos pos' : Pos}
def gIx (K : PySem.W.Frag) : R2
  | .str z, .int i, H, Q => (cs z).length ≤ sizeLine ∧ (match atI (cs z) i with
    | some c => Q (T [c]) H
    | none => False)
  | .ref p, .int i, H, Q => ∃ xs v, (SqL K H p xs ∨ SqT K H p xs) ∧ atI xs i = some v ∧ Q v H
  | _, _, _, _ => False
theorem fx_seq : IxR X (gIx X.K) := ix_seq.imp fun x y H Q h => by
  unfold gIx at h
  split at h
  · obtain ⟨hz, h⟩ := h
    split at h
    · rename_i c hc
      exact .inr (.inr ⟨_, _, c, rfl, rfl, by simpa [cs, Str.length] using hz, hc, h⟩)
    · exact h.elim
  · obtain ⟨xs, v, hs | hs, hv, q⟩ := h
    · exact .inl ⟨_, xs, _, v, rfl, rfl, hs, hv, q⟩
    · exact .inr (.inl ⟨_, xs, _, v, rfl, rfl, hs, hv, q⟩)
  · exact h.elim
def kPick (xs : List V) (H H1 : Hp) (Q : VK) : V → Prop
  | .int i => (match atI xs i with
    | some (.ref q) => H q = none ∧ (match H1 q with
      | some o => plainO o = true ∧ Q (.ref q) (upd H q o)
      | none => False)
    | some v => Q v H
    | none => False)
  | _ => False
def fPickL (ta : TA) (ti : TE) : TE := fun σ H Q => NoT H ∧ ta σ H fun xs H1 => Same H H1 ∧ xs.length ≤ sizeLine ∧ ∀ p, H1 p = none → ti σ (upd H1 p (.lst xs)) fun y H2 => H2 = upd H1 p (.lst xs) ∧ kPick xs H H1 Q y
theorem kPick_of {xs : List V} {H H1 : Hp} {Q : VK} {y : V} {p : Addr} {o : HO} (s : Same H H1) (hp : H1 p = none) (h : kPick xs H H1 Q y) : ∃ i v G, y = .int i ∧ atI xs i = some v ∧ Gc H G (upd H1 p o) ∧ Q v G := by
  unfold kPick at h
  have s2 : Same H (upd H1 p o) := s.trans (same_upd o hp)
  split at h
  · rename_i i
    split at h
    · rename_i q hq
      obtain ⟨hn, h⟩ := h
      split at h
      · rename_i o' ho'
        exact ⟨i, _, _, rfl, hq, Gc.one s2 hn (by rw [upd_ne (ne_of_none ho' hp)]; exact ho') h.1, h.2⟩
      · exact h.elim
    · rename_i v _ hv
      exact ⟨i, v, H, rfl, hv, Gc.none s2, h⟩
    · exact h.elim
  · exact h.elim
theorem fe_pickL {es : List Expr} {t : TA} (ha : PA X es t) (hb : PE X b tb) (hs : PlainIx b) : PE X (.Subscript (.List es pos') b pos) (fPickL t tb) := by
  intro pins s σ H Q I h
  obtain ⟨n, h⟩ := h
  refine Subscript_ (wpAny_List_spliced (thn (ha pos' pins s σ H _ I h) fun us s1 ⟨xs, H1, I1, r, sm, z, q⟩ => ⟨by rw [← r.length]; exact z, ?_⟩))
  have hf : H1 s1.heap.objs.size = none := I1.hok.fresh (Nat.le_refl _)
  refine thn (hb pins _ σ (upd H1 s1.heap.objs.size (.lst xs)) _ (I1.laid (t' := s1.toks) (fun b u e => Heap.get?_push_of_some _ e) (Nat.le_refl _) ⟨z, us, 0, r, Heap.get?_push_size _ rfl⟩) (q _ hf)) fun u s3 ⟨y, H3, I3, ry, e, k⟩ => ?_
  subst e
  obtain ⟨i, v, G, rfl, hv, g, hq⟩ := kPick_of (o := .lst xs) sm hf k
  exact thn (ix_list (.List es pos') b pins s3 σ _ (.ref _) (.int i) _ u (fun v' H' => v' = v ∧ H' = upd H1 s1.heap.objs.size (.lst xs)) I3 rfl ry ⟨_, xs, i, v, rfl, rfl, SqL.of upd_same, hv, rfl, rfl⟩ (hs _ _))
    fun u' s4 ⟨v', H4, I4, r4, e1, e2⟩ => ⟨v, G, I.gc n (e2 ▸ I4) g, e1 ▸ r4, hq⟩
end
def sp0 (f : Hp → VK → XK → Prop) : Sp := fun vs H Q E => match vs with
  | [] => f H Q E
  | _ => False
def sp1 (f : V → Hp → VK → XK → Prop) : Sp := fun vs H Q E => match vs with
  | [x] => f x H Q E
  | _ => False
def sp2 (f : V → V → Hp → VK → XK → Prop) : Sp := fun vs H Q E => match vs with
  | [x, y] => f x y H Q E
  | _ => False
def sp3 (f : V → V → V → Hp → VK → XK → Prop) : Sp := fun vs H Q E => match vs with
  | [x, y, z] => f x y z H Q E
  | _ => False
def sp4 (f : V → V → V → V → Hp → VK → XK → Prop) : Sp := fun vs H Q E => match vs with
  | [x, y, z, u] => f x y z u H Q E
  | _ => False
section
variable {vs : List V} {H : Hp} {Q : VK} {E : XK}
theorem sp0.inv {f} (h : sp0 f vs H Q E) : vs = [] ∧ f H Q E := by
  unfold sp0 at h; split at h
  · exact ⟨rfl, h⟩
  · exact h.elim
theorem sp1.inv {f} (h : sp1 f vs H Q E) : ∃ x, vs = [x] ∧ f x H Q E := by
  unfold sp1 at h; split at h
  · exact ⟨_, rfl, h⟩
  · exact h.elim
theorem sp2.inv {f} (h : sp2 f vs H Q E) : ∃ x y, vs = [x, y] ∧ f x y H Q E := by
  unfold sp2 at h; split at h
  · exact ⟨_, _, rfl, h⟩
  · exact h.elim
theorem sp3.inv {f} (h : sp3 f vs H Q E) : ∃ x y z, vs = [x, y, z] ∧ f x y z H Q E := by
  unfold sp3 at h; split at h
  · exact ⟨_, _, _, rfl, h⟩
  · exact h.elim
theorem sp4.inv {f} (h : sp4 f vs H Q E) : ∃ x y z u, vs = [x, y, z, u] ∧ f x y z u H Q E := by
  unfold sp4 at h; split at h
  · exact ⟨_, _, _, _, rfl, h⟩
  · exact h.elim
theorem sp0.len {f} (h : sp0 f vs H Q E) : vs.length = 0 := by rw [(sp0.inv h).1]; rfl
theorem sp1.len {f} (h : sp1 f vs H Q E) : vs.length = 1 := by obtain ⟨_, rfl, _⟩ := sp1.inv h; rfl
theorem sp2.len {f} (h : sp2 f vs H Q E) : vs.length = 2 := by obtain ⟨_, _, rfl, _⟩ := sp2.inv h; rfl
theorem sp3.len {f} (h : sp3 f vs H Q E) : vs.length = 3 := by obtain ⟨_, _, _, rfl, _⟩ := sp3.inv h; rfl
theorem sp4.len {f} (h : sp4 f vs H Q E) : vs.length = 4 := by obtain ⟨_, _, _, _, rfl, _⟩ := sp4.inv h; rfl
end
def asI (x : V) (f : Int → Prop) : Prop := match x with
  | .int i => f i
  | _ => False
def asT (x : V) (f : List Nat → Prop) : Prop := match x with
  | .str y => f (cs y)
  | _ => False
def asB (x : V) (f : Bool → Prop) : Prop := match x with
  | .bl y => f y
  | _ => False
def asR (x : V) (f : Addr → Prop) : Prop := match x with
  | .ref y => f y
  | _ => False
theorem asI.inv {x : V} {f : Int → Prop} (h : asI x f) : ∃ i, x = .int i ∧ f i := by
  unfold asI at h; split at h
  · exact ⟨_, rfl, h⟩
  · exact h.elim
theorem asT.inv {x : V} {f : List Nat → Prop} (h : asT x f) : ∃ l, x = T l ∧ f l := by
  unfold asT at h; split at h
  · exact ⟨_, rfl, h⟩
  · exact h.elim
theorem asB.inv {x : V} {f : Bool → Prop} (h : asB x f) : ∃ i, x = .bl i ∧ f i := by
  unfold asB at h; split at h
  · exact ⟨_, rfl, h⟩
  · exact h.elim
theorem asR.inv {x : V} {f : Addr → Prop} (h : asR x f) : ∃ i, x = .ref i ∧ f i := by
  unfold asR at h; split at h
  · exact ⟨_, rfl, h⟩
  · exact h.elim
def asK (H : Hp) (x : V) (f : String → Prop) : Prop := match kindV H x with
  | some t => f t
  | none => False
theorem asK.inv {H : Hp} {x : V} {f : String → Prop} (h : asK H x f) : ∃ t, kindV H x = some t ∧ bKind t ∧ f t := by
  unfold asK at h; split at h
  · rename_i t ht
    exact ⟨t, ht, (kindV_ty (K := default) ht).2, h⟩
  · exact h.elim
theorem asK.of {H : Hp} {x : V} {f : String → Prop} {t : String} (e : kindV H x = some t) (h : f t) : asK H x f := by unfold asK; rw [e]; exact h
theorem at_get {ns : List Int} {k : Int} (h0 : 0 ≤ k) (h1 : k < ns.length) : atI (ns.map V.int) k = some (.int (ns.getD k.toNat 0)) := by
  obtain ⟨j, rfl⟩ : ∃ j : Nat, k = j := ⟨k.toNat, by omega⟩
  refine atI_nat ?_
  have l : j < ns.length := by omega
  simp [List.getD, l]
section
variable {X : Cx} (K : PySem.W.Frag)
theorem fc_isiK (h : X.K = K := by rfl) : CallR X (.builtin "isinstance") (gIsi K) := h ▸ fc_isi
theorem fc_lenK (h : X.K = K := by rfl) : CallR X (.builtin "len") (gLen K) := h ▸ fc_len
theorem fx_seqK (h : X.K = K := by rfl) : IxR X (gIx K) := h ▸ fx_seq
theorem fs_tupK (h : X.K = K := by rfl) : SlR X (rSlT K) := h ▸ sl_tup
theorem fi_tupK {tg l : Expr} {tl : TE} (hl : PE X l tl) (h : X.K = K := by rfl) : PI X tg l (iTup K tl) := h ▸ pi_tup hl
theorem fi_listK {tg l : Expr} {tl : TE} (hl : PE X l tl) (h : X.K = K := by rfl) : PI X tg l (iList K tl) := h ▸ pi_list hl
end
theorem ite00 {A B : Prop} (h : A) : if false = false then A else B := by
  rw [if_pos rfl]; exact h
theorem ite10 {A B : Prop} (h : B) : if true = false then A else B := by
  rw [if_neg (by decide)]; exact h
theorem kd_bl {H : Hp} {b : Bool} : kindV H (.bl b) = some "bool" := rfl
theorem kd_int {H : Hp} {i : Int} : kindV H (.int i) = some "int" := rfl
theorem kd_str {H : Hp} {s : Str} : kindV H (.str s) = some "str" := rfl
theorem kd_non {H : Hp} : kindV H .non = some "NoneType" := rfl
theorem cl_int : clsN "int" = true := by decide
theorem is_NoneType_int : isiT "NoneType" "int" = false := by decide
theorem is_bool_int : isiT "bool" "int" = true := by decide
theorem is_int_int : isiT "int" "int" = true := by decide
theorem is_str_int : isiT "str" "int" = false := by decide
theorem is_list_int : isiT "list" "int" = false := by decide
theorem is_tuple_int : isiT "tuple" "int" = false := by decide
theorem is_dict_int : isiT "dict" "int" = false := by decide
theorem cl_bool : clsN "bool" = true := by decide
theorem is_NoneType_bool : isiT "NoneType" "bool" = false := by decide
theorem is_bool_bool : isiT "bool" "bool" = true := by decide
theorem is_int_bool : isiT "int" "bool" = false := by decide
theorem is_str_bool : isiT "str" "bool" = false := by decide
theorem is_list_bool : isiT "list" "bool" = false := by decide
theorem is_tuple_bool : isiT "tuple" "bool" = false := by decide
theorem is_dict_bool : isiT "dict" "bool" = false := by decide
theorem cl_str : clsN "str" = true := by decide
theorem is_NoneType_str : isiT "NoneType" "str" = false := by decide
theorem is_bool_str : isiT "bool" "str" = false := by decide
theorem is_int_str : isiT "int" "str" = false := by decide
theorem is_str_str : isiT "str" "str" = true := by decide
theorem is_list_str : isiT "list" "str" = false := by decide
theorem is_tuple_str : isiT "tuple" "str" = false := by decide
theorem is_dict_str : isiT "dict" "str" = false := by decide
theorem cl_list : clsN "list" = true := by decide
theorem is_NoneType_list : isiT "NoneType" "list" = false := by decide
theorem is_bool_list : isiT "bool" "list" = false := by decide
theorem is_int_list : isiT "int" "list" = false := by decide
theorem is_str_list : isiT "str" "list" = false := by decide
theorem is_list_list : isiT "list" "list" = true := by decide
theorem is_tuple_list : isiT "tuple" "list" = false := by decide
theorem is_dict_list : isiT "dict" "list" = false := by decide
theorem cl_tuple : clsN "tuple" = true := by decide
theorem is_NoneType_tuple : isiT "NoneType" "tuple" = false := by decide
theorem is_bool_tuple : isiT "bool" "tuple" = false := by decide
theorem is_int_tuple : isiT "int" "tuple" = false := by decide
theorem is_str_tuple : isiT "str" "tuple" = false := by decide
theorem is_list_tuple : isiT "list" "tuple" = false := by decide
theorem is_tuple_tuple : isiT "tuple" "tuple" = true := by decide
theorem is_dict_tuple : isiT "dict" "tuple" = false := by decide
theorem cl_dict : clsN "dict" = true := by decide
theorem is_NoneType_dict : isiT "NoneType" "dict" = false := by decide
theorem is_bool_dict : isiT "bool" "dict" = false := by decide
theorem is_int_dict : isiT "int" "dict" = false := by decide
theorem is_str_dict : isiT "str" "dict" = false := by decide
theorem is_list_dict : isiT "list" "dict" = false := by decide
theorem is_tuple_dict : isiT "tuple" "dict" = false := by decide
theorem is_dict_dict : isiT "dict" "dict" = true := by decide
theorem ak_bl {H : Hp} {b : Bool} {f : String → Prop} : asK H (.bl b) f = f "bool" := rfl
theorem ak_int {H : Hp} {i : Int} {f : String → Prop} : asK H (.int i) f = f "int" := rfl
theorem ak_str {H : Hp} {i : Str} {f : String → Prop} : asK H (.str i) f = f "str" := rfl
theorem ak_non {H : Hp} {f : String → Prop} : asK H .non f = f "NoneType" := rfl
def noStar : Expr → Bool
  | .Starred _ _ => false
  | _ => true
theorem star_cons {e : Expr} {es : List Expr} {env : Env} (h : noStar e = true) : starEach (e :: es) env = (false, eval e env) :: starEach es env := by
  cases e <;> first | rfl | cases h
structure FA (X : Cx) (es : List Expr) (t : TA) : Prop where
  pa : PA X es t
theorem fa_nil {X : Cx} : FA X [] tNil := ⟨pa_nil⟩
theorem fa_cons {X : Cx} {e : Expr} {es : List Expr} {te : TE} {t : TA} (ha : PE X e te) (hr : FA X es t) (h : noStar e = true := by rfl) : FA X (e :: es) (tCons te t) := ⟨pa_cons ha hr.pa (star_cons h)⟩
theorem gc_self {H : Hp} {P : Hp → Prop} : (∃ G, Gc H G H ∧ P G) ↔ P H := by
  constructor
  · rintro ⟨G, g, p⟩
    have e : G = H := by
      funext b
      cases h : H b with
      | none => exact g.b.free h
      | some o => exact g.a b o h
    rw [← e]; exact p
  · exact fun p => ⟨H, Gc.refl, p⟩
theorem cx_K {CX : CXT} {P : Program} {w : World} {K : PySem.W.Frag} {mg : Str → Option Value} {base : Heap} {N : List Str} {qual : Str} {scope : Scope} {f : Addr} {cd : Value} {A : Around} {outer : List Env} {s : Shared} {H : Hp} {E : XK} :
    (cxOf CX P w K mg base N qual scope f cd A outer s H E).K = K := rfl
def isI : V → Bool
  | .int _ => true
  | _ => false
def isS : V → Bool
  | .str _ => true
  | _ => false
theorem kind_int {H : Hp} {x : V} {t : String} (h : kindV H x = some t) : (t == "int") = isI x := by
  unfold kindV at h
  split at h
  case h_5 => split at h <;> cases h <;> simp [isI]
  all_goals (cases h <;> simp [isI])
theorem same_self {H : Hp} : Same H H ↔ True := ⟨fun _ => trivial, fun _ => Same.refl H⟩
theorem noT_upd {H : Hp} {p : Addr} {o : HO} (hN : NoT H) (d : dTfree o = true) : NoT (upd H p o) := hN.upd d
theorem isI_int {i : Int} : isI (.int i) = true := rfl
theorem isI_bl {i : Bool} : isI (.bl i) = false := rfl
theorem isI_str {i : Str} : isI (.str i) = false := rfl
theorem isI_ref {i : Addr} : isI (.ref i) = false := rfl
theorem isI_non  : isI (.non) = false := rfl
theorem isS_int {i : Int} : isS (.int i) = false := rfl
theorem isS_bl {i : Bool} : isS (.bl i) = false := rfl
theorem isS_str {i : Str} : isS (.str i) = true := rfl
theorem isS_ref {i : Addr} : isS (.ref i) = false := rfl
theorem isS_non  : isS (.non) = false := rfl
theorem noT_only {H : Hp} (h : Only H) : NoT H := fun b o e => by
  rcases h b with z | ⟨ob, xs, z⟩
  · rw [e] at z; cases z
  · rw [e] at z; cases z; rfl
def gcE (H : Hp) (E : XK) : XK := fun C d H' => ∃ G, Gc H G H' ∧ E C d G
theorem Fun.okG {P : Program} {w : World} {K : PySem.W.Frag} {mg : Str → Option Value} {base : Heap} {x qual : Str} {st : Stmt} {f : Addr} {fd : FuncData} {N ps : List Str} {k : Nat} {sp : Sp} (F : Fun K x qual st f fd) (S : FnScope N ps (defScope st))
    (len : ∀ vs H Q E, sp vs H Q E → vs.length = ps.length)
    (hbody : ∀ (cdv : Value) (A : Around) (outer : List Env) (s : Shared) (H : Hp) (vs : List V) (Q : VK) (E : XK), Room k (A.deeper (envOfC qual (defScope st) s.heap.objs.size f cdv)) → sp vs H Q E →
      NoT H ∧ ∃ t, PSs (cxOf (XE P w) P w K mg base N qual (defScope st) f cdv A outer s H (gcE H E)) (defBody st) t ∧ t { nx := fun _ H' => ∃ G, Gc H G H' ∧ Q .non G, rt := fun v H' => ∃ G, Gc H G H' ∧ Q v G } (start N vs) H) : FnOk P w K mg base (XE P w) (k + 1) f fd ps sp := by
  have F' : FnOk P w K mg base (XE P w) (k + 1) f fd ps (fun vs H Q' E' => ∃ Q E, sp vs H Q E ∧ Q' = (fun v H' => ∃ G, Gc H G H' ∧ Q v G) ∧ E' = gcE H E) := by
    refine F.okX S (fun vs H Q' E' ⟨Q, E, h, _⟩ => len vs H Q E h) (fun cdv A outer s H vs Q' E' hr h => ?_)
    obtain ⟨Q, E, h, rfl, rfl⟩ := h
    exact (hbody cdv A outer s H vs Q E hr h).2
  refine ⟨len, fun A outer s H args us vs Q E hr e0 hb r hsp => ?_⟩
  have nT : NoT H := by
    obtain ⟨oc, od, kV, doc, pm, an, cdv, ct, osl, rfl, lk, hcd⟩ := F.ex
    exact (hbody cdv A outer s H vs Q E (hr.deeper _) hsp).1
  refine codeAny_mono (F'.run A outer s H args us vs _ _ hr e0 hb r ⟨Q, E, hsp, rfl, rfl⟩) fun res s' h => ?_
  cases res with
  | error e =>
    obtain ⟨ea, C, rs, H', h1, h2, h3, un, hok, hrs, fly, G, g, q⟩ := h
    exact ⟨ea, C, rs, G, h1, h2, h3, un.gc g, HOk.gc nT e0.hok hok g, fun b hb => ⟨(hrs b hb).1, g.b.free (hrs b hb).2⟩, fly, q⟩
  | ok fl =>
    cases fl with
    | ret u =>
      obtain ⟨v, H', h1, h2, un, hok, rv, G, g, q⟩ := h
      exact ⟨v, G, h1, h2, un.gc g, HOk.gc nT e0.hok hok g, rv, q⟩
    | next => exact h
    | brk => exact h
    | cont => exact h
section
variable {K : PySem.W.Frag} {C D : Addr} {b : Bool} {cl : ClassData}
theorem kitCls_of (o : PySem.W.clsIn K D = some cl) (t : PySem.W.typeIn K (.ref D) = some (.type "type")) (m : PySem.W.mroIn K C (.ref D) = some b) : PySem.W.kitCls K (.ref C) (.ref D) = some b := by
  unfold PySem.W.kitCls
  simp only [o, t, Option.isSome_some, beq_self_eq_true, Bool.and_self, if_true]
  exact m
theorem exmOne_of (o : PySem.W.clsIn K D = some cl) (t : PySem.W.typeIn K (.ref D) = some (.type "type")) (s : PySem.W.mroIn K D (.type "BaseException") = some true) (m : PySem.W.mroIn K C (.ref D) = some b) : PySem.W.exmOne K (.ref C) (.ref D) = some b := by
  unfold PySem.W.exmOne
  have e : PySem.W.subIn K (.ref D) (.type "BaseException") = some true := s
  rw [e, if_pos (by rfl)]
  exact kitCls_of o t m
theorem kitOne_of (o : PySem.W.clsIn K D = some cl) (t : PySem.W.typeIn K (.ref D) = some (.type "type")) (s : PySem.W.mroIn K C (.ref C) = some true) (m : PySem.W.mroIn K C (.ref D) = some b) : PySem.W.kitOne K (.ref C) (.ref D) = some b := by
  unfold PySem.W.kitOne
  by_cases e : ((Value.ref C == Value.ref D) = true)
  · rw [if_pos e]
    have e' : C = D := Value.ref.inj (beq_iff_eq.mp e)
    subst e'
    rw [s] at m; exact m
  · rw [if_neg e]; exact kitCls_of o t m
theorem kitMeta_VE : PySem.W.kitMeta "ValueError" = true := by kernel_rfl
theorem kitOne_VE (m : PySem.W.mroIn K C (.type "ValueError") = some b) : PySem.W.kitOne K (.ref C) (.type "ValueError") = some b := by
  unfold PySem.W.kitOne
  rw [if_neg (by intro z; cases (beq_iff_eq.mp z))]
  unfold PySem.W.kitCls
  simp only [kitMeta_VE, if_true]
  exact m
end
theorem walk_ofX {l : PySem.W.OpenLaw} {n k : Nat} {q : Program} {loose : List Str} {XP : (Str → Option Value) → Heap → Prop} {YP : World → Heap → Prop} {d : DefRec} {K : Params → PySem.W.Frag} {sp : PySem.W.Frag → Sp} {x : Str}
    (hn : l.most = some n) (hn2 : n ≤ sizeLine) (hdf : d.params.defaults = []) (hr : Room k callerA)
    (hY : ∀ (w : World) (h : Heap), YP w h → (K w.params).In h)
    (F : ∀ (w : World) (mg : Str → Option Value) (fa : Addr) (h : Heap), (K w.params).In h → h.Ns mainGlobals mg → mg d.name = some (.ref fa) →
      ∃ fd : FuncData, (∀ (s : Shared) (u : Value), BindsTo s fd ⟨[u], []⟩ [(x, u)]) ∧
        ∀ base : Heap, (K w.params).In base → base.Ns mainGlobals mg → FnOk l.prog w (K w.params) mg base (XE l.prog w) k fa fd [x] (sp (K w.params)))
    (hsp : ∀ (K : PySem.W.Frag) (H : Hp) (a : Addr) (ns : List Int), ns.length ≤ n → Only H → SqL K H a (ns.map V.int) → sp K [.ref a] H (fun v _ => v = .bl true) fun _ _ _ => False) :
    PySem.W.WalkO q loose XP YP l.row.toRowW d [] (fun f vs => PySem.call f vs) :=
  walk_of (K := K) (CX := fun w => XE l.prog w) (sp := fun w => sp (K w.params)) hn hn2 hdf hr hY F (fun w H a ns h1 h2 h3 => hsp (K w.params) H a ns h1 h2 h3) fun w H s e s' ⟨_, _, _, _, _, _, _, _, _, _, _, z⟩ => z
end L2
set_option Elab.async false
set_option linter.all false
set_option maxRecDepth 100000
namespace L2
open PySem PySem.Spec PyProof.Rows
section
variable {prog : Program} {w : World} {A : Around} {R : Result → Shared → Prop} {s : Shared}
theorem compLoop_any {elt target iter : Expr} {ifs : List Expr} {scope : Scope} {pos : Pos} {it acc : Value} {env : Env} (I : Nat → Shared → Prop)
    (turn : ∀ n s, I n s → wpAny (model prog w) A (pyNext it) (fun r s₁ => match r with
      | none => R (.ok .next) s₁
      | some v => wpAny (model prog w) A (letOwnedTupleGo target it v) (fun _ s₁' => wpAny (model prog w) A (assign target env v) (fun _ s₂ =>
          wpAny (model prog w) A (forIn ifs true fun c r => if r = true then do let ok ← isTrue c env (eval c env); pure (ForInStep.yield ok) else pure (ForInStep.yield r)) (fun ok s₃ =>
            if ok = true then wpAny (model prog w) A (eval elt env) (fun x s₄ =>
              wpAny (model prog w) A (call (.builtin "list.append") [acc, x]) (fun _ s₅ => ∃ m, m < n ∧ I m s₅) (notedBy (model prog w) A env fun e s' => R (.error e) s') s₄) (notedBy (model prog w) A env fun e s' => R (.error e) s') s₃
            else ∃ m, m < n ∧ I m s₃) (notedBy (model prog w) A env fun e s' => R (.error e) s') s₂) (notedBy (model prog w) A env fun e s' => R (.error e) s') s₁') (notedBy (model prog w) A env fun e s' => R (.error e) s') s₁) (notedBy (model prog w) A env fun e s' => R (.error e) s') s)
    (n : Nat) (h : I n s) :
    codeAny (model prog w) A (.compLoop (.ListComp elt [⟨target, iter, ifs, 0⟩] scope pos) 0 it acc env) R s := by
  refine codeAny_loop rfl I (fun n s hI => ?_) n h
  show wpAny _ A ((compTurn (.ListComp elt [⟨target, iter, ifs, 0⟩] scope pos) 0 it acc env).onRaise (fun x => do noteFrame x env; theTreesLotGoes x)) _ _ s
  refine wpAny_noted ?_
  rw [compTurn_list]
  refine wpAny_bind (wpAny_standAt (wpAny_bind (wpAny_mono (turn n s hI) (fun r s₁ h₁ => ?_) fun _ _ h' => h')))
  cases r with
  | none => exact wpAny_pure h₁
  | some v =>
    refine wpAny_bind (wpAny_mono h₁ (fun _ s₁' h₁' => ?_) fun _ _ h' => h')
    refine wpAny_bind (wpAny_mono h₁' (fun _ s₂ h₂ => wpAny_bind (wpAny_mono h₂ (fun ok s₃ h₃ => ?_) fun _ _ h' => h')) fun _ _ h' => h')
    cases ok with
    | false => exact wpAny_pure ⟨rfl, h₃⟩
    | true =>
      exact wpAny_bind (wpAny_bind (wpAny_mono h₃ (fun x s₄ h₄ => wpAny_bind (wpAny_mono h₄ (fun _ s₅ h₅ => wpAny_pure (wpAny_pure ⟨rfl, h₅⟩)) fun _ _ h' => h')) fun _ _ h' => h'))
end
def compCx (X : Cx) (N : List Str) (scope : Scope) (cl : List (Str × Addr)) (C : Addr) (s₂ : Shared) (H₂ : Hp) (ex : List Addr) (pn : List (Addr × Obj)) : Cx :=
  { X with N := N, s₀ := s₂, H₀ := H₂, env := compEnvC scope cl C X.env, outer := X.stack, stack := X.stack, ex := ex, fn := fun _ => false, pn := pn, xe := fun _ _ => False }
structure CompScope (X : Cx) (scope : Scope) (cl : List (Str × Addr)) (x : Str) (fr : List Str) : Prop where
  clos : closureFor scope X.env = pure cl
  nocell : ∀ y ∈ scope.names, y.2 ≠ .cell
  kind : scope.kind = .function
  names : ∀ y ∈ scope.names, y.2 = .local → scope.names.lookup y.1 = some .local
  own : scope.names.lookup x = some .local
  keys : ∀ y ∈ cl, y.1 ∈ fr
  cells : fr.map (fun y => cl.lookup y) = fr.map (fun y => X.env.cells.lookup y)
  kinds : ∀ y ∈ fr, X.env.kindOf y = some .cell ∨ X.env.kindOf y = some .free
  kin : ∀ y ∈ fr, (relabel scope X.env).names.lookup y = some .cell ∨ (relabel scope X.env).names.lookup y = some .free
  only : ∀ y, ((relabel scope X.env).names.lookup y = some .cell ∨ (relabel scope X.env).names.lookup y = some .free) → y ∈ fr
theorem lookup_mem {α : Type} {l : List (Str × α)} {y : Str} {c : α} (h : l.lookup y = some c) : (y, c) ∈ l := PySem.mem_of_lookup h
theorem CompScope.cell {X : Cx} {scope : Scope} {cl : List (Str × Addr)} {x : Str} {fr : List Str} (S : CompScope X scope cl x fr) {y : Str} (h : y ∈ fr) : cl.lookup y = X.env.cells.lookup y := by
  have e := S.cells
  obtain ⟨i, hi, rfl⟩ := List.getElem_of_mem h
  have := congrArg (fun l => l[i]?) e
  simpa [hi] using this
theorem CompScope.sub {X : Cx} {scope : Scope} {cl : List (Str × Addr)} {x : Str} {fr : List Str} (S : CompScope X scope cl x fr) {y : Str} {c : Addr} (h : cl.lookup y = some c) : X.env.cells.lookup y = some c := by
  rw [← S.cell (S.keys _ (lookup_mem h))]; exact h
def PTs (X : Cx) (ifs : List Expr) (t : TT) : Prop :=
  ∀ (pins : List (Addr × Obj)) (s : Shared) (σ : St) (H : Hp) (Q : Bool → Hp → Prop), Inv X pins σ H s → t σ H Q →
    wpAny (model X.prog X.w) X.A (forIn ifs true fun c r => if r = true then do let ok ← isTrue c X.env (eval c X.env); pure (ForInStep.yield ok) else pure (ForInStep.yield r)) (TP X pins σ Q) X.xe s
theorem pts_nil {X : Cx} : PTs X [] (fun _ H Q => Q true H) := fun pins s σ H Q I h => wpAny_tests_nil ⟨H, I, h⟩
theorem pts_one {X : Cx} {c : Expr} {t : TT} (h : PT X c t) : PTs X [c] t := fun pins s σ H Q I hw => wpAny_tests_one (h pins s σ H Q I hw)
def tComp (wi : TI) (ks : List Nat) (tt : TT) (te : TE) : TE := fun σ H Q => wi σ H fun J H1 => ∀ D, H1 D = none → ∃ W : Nat → Nat → List V → Hp → Prop, (∃ m, W 0 m [] (upd H1 D (.lst []))) ∧
  ∀ i m ys H2, W i m ys H2 → H2 D = some (.lst ys) ∧ ((J.stop i H2 ∧ Q (.ref D) H2) ∨ (J.go i H2 ∧ ∀ x H3, J.yld i H2 x H3 →
    tt (some x :: ks.map fun k => (σ[k]?).join) H3 fun b H4 => if b = true then te (some x :: ks.map fun k => (σ[k]?).join) H4 fun y H5 => H5 D = some (.lst ys) ∧ ys.length < sizeLine ∧ ∃ m', m' < m ∧ W (i + 1) m' (ys ++ [y]) (upd H5 D (.lst (ys ++ [y])))
      else ∃ m', m' < m ∧ W (i + 1) m' ys H4))
theorem comp_run {X : Cx} {elt iter : Expr} {x : Str} {px pos : Pos} {ifs : List Expr} {scope : Scope} {cl : List (Str × Addr)} {fr : List Str} {ks : List Nat} {wi : TI} {tt : TT} {te : TE} (hc : X.calm = true) (S : CompScope X scope cl x fr)
    (hks : ks.map (fun k => X.N[k]?) = fr.map some) (hnd : (x :: fr).Nodup) (hi : PI X (.Name x px) iter wi)
    (ht : ∀ C s₂ H₂ ex pn, PTs (compCx X (x :: fr) scope cl C s₂ H₂ ex pn) ifs tt) (he : ∀ C s₂ H₂ ex pn, PE (compCx X (x :: fr) scope cl C s₂ H₂ ex pn) elt te)
    (hs : ∀ x, foldedSetIterable iter X.env x = pure x := by intro _; rfl)
    {pins : List (Addr × Obj)} {s : Shared} {σ : St} {H : Hp} {Q : VK} (I : Inv X pins σ H s) (h : tComp wi ks tt te σ H Q) (use : Option (Value → Sem Unit)) (Qp : Value → Shared → Prop)
    (hend : ∀ (D C : Addr) (H' : Hp) (s' : Shared) (mC : Str → Option Value) (f : Flow), Inv X pins σ H' s' → FpOk X pins H' C → s'.heap.Ns C mC → Q (.ref D) H' → compPost (model X.prog X.w) X.A X.xe use Qp (.ref D) C (.ok f) s') :
    wpAny (model X.prog X.w) X.A (comprehension (.ListComp elt [⟨.Name x px, iter, ifs, 0⟩] scope pos) scope X.env (firstIterPos [⟨.Name x px, iter, ifs, 0⟩] pos) (newList []) false (firstIter [⟨.Name x px, iter, ifs, 0⟩] X.env) use) Qp X.xe s := by
  refine wpAny_comprehension_free (use := use) rfl hs S.clos S.kind S.names (thn (hi pins s σ H _ I h) fun v s1 h1 => thn h1 fun itv s2 h2 => ?_)
  obtain ⟨it, fp, tn, J, H2, e, I2, T, st2, f2, hW⟩ := h2
  subst e
  refine wpAny_newObj_type (wpAny_newFunctionEnv S.nocell (by intro y hy; simp at hy) (fun h₁ hns₁ hsb₁ => ?_) S.kind)
  dsimp only at hns₁ hsb₁ ⊢
  have hD0 : H2 s2.heap.objs.size = none := I2.hok.fresh (Nat.le_refl _)
  obtain ⟨W, ⟨m0, w0⟩, turn⟩ := hW s2.heap.objs.size hD0
  generalize hs3 : s2.heap.push { cls := .type "list", dict := none, data := .seq ([] : List Value).toArray } = g3 at hns₁ hsb₁ ⊢
  have hsz3 : g3.objs.size = s2.heap.objs.size + 1 := by rw [← hs3, Heap.size_push]
  have up3 : ∀ b o, s2.heap.get? b = some o → g3.get? b = some o := fun b o e => by rw [← hs3]; exact Heap.get?_push_of_some _ e
  have gD : g3.get? s2.heap.objs.size = some { cls := .type "list", dict := none, data := .seq ([] : List Value).toArray } := by rw [← hs3]; exact Heap.get?_push_size _ rfl
  have I3 : Inv X pins σ (upd H2 s2.heap.objs.size (.lst [])) { s2 with heap := g3 } := I2.laid (t' := s2.toks) up3 (Nat.le_refl _) ⟨by simp, [], 0, .nil, gD⟩
  have keep4 : ∀ b o, g3.get? b = some o → h₁.get? b = some o := fun b o e => (hsb₁.2 b (Nat.ne_of_lt (Heap.lt_size e))).trans (Heap.get?_push_of_some _ e)
  have hCn : (upd H2 s2.heap.objs.size (.lst [])) g3.objs.size = none := I3.hok.fresh (Nat.le_refl _)
  have fpD : ∀ b ∈ fp, b ≠ s2.heap.objs.size := fun b hb z => by
    obtain ⟨o, e, _⟩ := T.obj 0 _ st2 b hb
    exact absurd (Heap.lt_size e) (by rw [z]; exact Nat.lt_irrefl _)
  have fpC : ∀ b ∈ fp, b ≠ g3.objs.size := fun b hb z => by
    obtain ⟨o, e, _⟩ := T.obj 0 _ st2 b hb
    exact absurd (Heap.lt_size (up3 b o e)) (by rw [z]; exact Nat.lt_irrefl _)
  have fpN : ∀ b ∈ fp, (upd H2 s2.heap.objs.size (.lst [])) b = none := fun b hb => by rw [upd_ne (fpD b hb)]; exact (f2 b hb).1
  have Ok : (compCx X (x :: fr) scope cl g3.objs.size { s2 with heap := g3 } (upd H2 s2.heap.objs.size (.lst [])) fp (X.pn ++ pins)).Ok := by
    refine ⟨I.ok.mod, S.kind, I.ok.glob, I.ok.blt, Nat.le_refl _, fun y z c e1 e2 => I.ok.inj y z c (S.sub e1) (S.sub e2), fun y hy => ?_, (fun y c z => nomatch z), I.ok.hd, I.ok.frames, .inl rfl, fun b hb => ⟨fpC b hb, fun y c e => (f2 b hb).2.2.2.2.1 y c (S.sub e)⟩, I3.bs, Nat.le_trans I.ok.bsz I3.sz, fun b o e hb => ?_, fun b hb z => ?_, I3.stack, I3.stkFree⟩
    · have hy' : y ∈ fr := S.only y hy
      obtain ⟨c, e⟩ := I.ok.has y (S.kinds y hy')
      exact ⟨c, (S.cell hy').trans e⟩
    · rcases (f2 b hb).2.2.2.1 with q | q
      · exact I.ok.noex b o e q
      · exact absurd (Heap.lt_size e) (Nat.not_lt.mpr (Nat.le_trans I.ok.bsz q))
    · rcases List.mem_cons.mp (I3.stkSub b z) with q | q
      · exact (f2 b hb).2.1 q
      · exact (f2 b hb).2.2.1 q
  have I4 : Inv (compCx X (x :: fr) scope cl g3.objs.size { s2 with heap := g3 } (upd H2 s2.heap.objs.size (.lst [])) fp (X.pn ++ pins)) [] (none :: ks.map fun k => (σ[k]?).join) (upd H2 s2.heap.objs.size (.lst [])) { s2 with heap := h₁, toks := s2.toks + ([] : List (Str × Value)).length } := by
    refine ⟨Ok, rfl, I3.bare, Un.kept keep4, ⟨_, hns₁, fun i y v e1 e2 e3 => ?_⟩, fun y c e => ?_, hCn, fun y c e => I3.freeC y c (S.sub e), fun p hp => ?_, I3.hok.kept keep4, ?_⟩
    · cases i with
      | zero => simp at e2
      | succ i =>
        have e1' : fr[i]? = some y := by simpa [compCx] using e1
        have hy : y ∈ fr := List.mem_of_getElem? e1'
        have ek : (ks.map (fun k => X.N[k]?))[i]? = (fr.map some)[i]? := by rw [hks]
        rw [List.getElem?_map, List.getElem?_map, e1'] at ek
        have e2' : (ks.map fun k => (σ[k]?).join)[i]? = some (some v) := by simpa using e2
        rw [List.getElem?_map] at e2'
        cases hk : ks[i]? with
        | none => rw [hk] at ek; cases ek
        | some k =>
          rw [hk] at ek e2'
          have ek' : X.N[k]? = some y := by simpa using ek
          have e2'' : (σ[k]?).join = some v := by simpa using e2'
          have es : σ[k]? = some (some v) := by
            cases q : σ[k]? with
            | none => rw [q] at e2''; cases e2''
            | some z => rw [q] at e2''; rw [show z = some v from e2'']
          obtain ⟨m, hn, hl⟩ := I3.loc
          have hkd := S.kinds y hy
          obtain ⟨u, r, lk⟩ := hl k y v ek' es (by rcases hkd with q | q; exact .inr (.inl q); exact .inr (.inr q))
          refine ⟨u, r, .inr ⟨S.kin y hy, ?_⟩⟩
          rcases lk with ⟨q, _⟩ | ⟨_, c, ec, hcell⟩
          · rcases hkd with z | z <;> (rw [q] at z; cases z)
          · obtain ⟨o, ho, hd⟩ := hcell
            exact ⟨c, (S.cell hy).trans ec, o, keep4 _ _ ho, hd⟩
    · obtain ⟨v, o, ho, hd⟩ := I3.cell y c (S.sub e)
      exact ⟨v, o, keep4 _ _ ho, hd⟩
    · have hp' : p ∈ X.pn ++ pins := by simpa [compCx] using hp
      obtain ⟨a1, a2, a3, a4, a5⟩ := I3.pin p hp'
      refine ⟨keep4 _ _ a1, a2, Nat.ne_of_lt (Heap.lt_size a1), fun z => ?_, a5⟩
      rcases List.mem_cons.mp (I3.stkSub p.1 z) with q | q
      · exact a3 q
      · exact a4 q
    · show (none :: ks.map _).length = (x :: fr).length
      have := congrArg List.length hks
      simp at this
      simp [this]
  have st4 : tn 0 h₁ := T.keep 0 _ _ st2 fun b hb o e => keep4 _ _ (up3 _ _ e)
  have stat : ∀ {H' : Hp}, (∀ b ∈ fp, H' b = none) → ∀ b ∈ fp, FpOk (compCx X (x :: fr) scope cl g3.objs.size { s2 with heap := g3 } (upd H2 s2.heap.objs.size (.lst [])) fp (X.pn ++ pins)) [] H' b := fun hn b hb =>
    ⟨hn b hb, fpC b hb, Ok.exfs b hb, .inl hb, fun y c e => (f2 b hb).2.2.2.2.1 y c (S.sub e), fun p hp => (f2 b hb).2.2.2.2.2 p (by simpa [compCx] using hp)⟩
  have loop : codeAny (model X.prog X.w) X.A (.compLoop (.ListComp elt [⟨.Name x px, iter, ifs, 0⟩] scope pos) 0 (.ref it) (.ref s2.heap.objs.size) (compEnvC scope cl g3.objs.size X.env))
      (compPost (model X.prog X.w) X.A X.xe use Qp (.ref s2.heap.objs.size) g3.objs.size) { s2 with heap := h₁, toks := s2.toks + ([] : List (Str × Value)).length } := by
    refine compLoop_any (fun n s' => ∃ i ys σ' H', Inv (compCx X (x :: fr) scope cl g3.objs.size { s2 with heap := g3 } (upd H2 s2.heap.objs.size (.lst [])) fp (X.pn ++ pins)) [] σ' H' s' ∧ (∃ z, σ' = z :: ks.map fun k => (σ[k]?).join) ∧ tn i s'.heap ∧ (∀ b ∈ fp, H' b = none) ∧ W i n ys H') ?_ m0
      ⟨0, [], _, _, I4, ⟨none, rfl⟩, st4, fpN, w0⟩
    rintro n s' ⟨i, ys, σ', H', I5, ⟨z, rfl⟩, st5, fr5, w5⟩
    obtain ⟨hD, hor⟩ := turn i n ys H' w5
    rcases hor with ⟨stop, qn⟩ | ⟨go, step⟩
    · refine wpAny_mono (T.done (compCx X (x :: fr) scope cl g3.objs.size { s2 with heap := g3 } (upd H2 s2.heap.objs.size (.lst [])) fp (X.pn ++ pins)) rfl rfl rfl hc i [] s' _ H' (fun _ _ => False) I5 (stat fr5) st5 stop) (fun r s6 ⟨hr, I6⟩ => ?_) (fun _ _ f => f.elim)
      subst hr
      obtain ⟨mC, hnC, _⟩ := I6.loc
      have tr : ∀ b o, b ≠ g3.objs.size → s6.heap.get? b = some o → s6.heap.get? b = some o := fun b o hb e => e
      have U := I6.base
      have neC : ∀ b o, g3.get? b = some o → b ≠ g3.objs.size := fun b o e => Nat.ne_of_lt (Heap.lt_size e)
      have U' : Un (frs X.stack) fp (upd H2 s2.heap.objs.size (.lst [])) H' g3 s6.heap := ⟨fun b o q n hb hx => tr b o (neC b o q) (U.keep b o q n hb hx), fun b o q n hb hx => let ⟨sl, e⟩ := U.slot b o q n hb hx; ⟨sl, tr _ _ (neC b o q) e⟩, U.free, fun b o q hx => let ⟨o', e⟩ := U.there b o q hx; ⟨o', tr _ _ (neC b o q) e⟩, U.tups, U.frzs, U.tbls⟩
      have ok' : HOk X.prog X.w H' s6.heap := fun a o e => (I6.hok a o e).stay (fun b u hb q => tr b u (fun z => by
          have fC : H' g3.objs.size = none := I6.free
          rcases hb with r | r
          · rw [← z, r, e] at fC; cases fC
          · rw [← z, r] at fC; cases fC) q) (fun _ q => q) fun _ _ q => q
      have J6 : Inv X pins σ H' s6 := I3.call' (s' := s6) (ch := fp) I6.os U' ok' I6.bare fun b hb => ⟨(f2 b hb).2.2.2.1, (f2 b hb).2.1, (f2 b hb).2.2.2.2.1, (f2 b hb).2.2.2.2.2⟩
      exact hend s2.heap.objs.size g3.objs.size H' s6 mC _ J6 (I3.fpOk (Nat.le_refl _) I6.free) hnC qn
    · refine wpAny_mono (T.item (compCx X (x :: fr) scope cl g3.objs.size { s2 with heap := g3 } (upd H2 s2.heap.objs.size (.lst [])) fp (X.pn ++ pins)) rfl rfl rfl hc i [] s' _ H' (fun _ _ => False) I5 (stat fr5) st5 go) (fun r s6 ⟨u, hr, h6⟩ => ?_) (fun _ _ f => f.elim)
      subst hr
      refine wpAny_mono h6 (fun _ s7 ⟨xv, H7, I7, r7, y7, st7, fr7⟩ => ?_) (fun _ _ f => f.elim)
      have I7' := I7.pinned (stat fr7) (T.obj _ _ st7)
      have own : Loc (compEnvC scope cl g3.objs.size X.env).scope x := .inl (lookup_relabel_local S.own)
      refine wpAny_assign_Name (store_ok (i := 0) I7' hnd rfl own r7 (fun s8 I8 => ?_) (.inr (lookup_relabel_local S.own)))
      have pinsTo : ∀ {σ9 : St} {H9 : Hp} {s9 : Shared}, Inv (compCx X (x :: fr) scope cl g3.objs.size { s2 with heap := g3 } (upd H2 s2.heap.objs.size (.lst [])) fp (X.pn ++ pins)) ([] ++ pinsAt fp s7.heap) σ9 H9 s9 → tn (i + 1) s9.heap ∧ ∀ b ∈ fp, H9 b = none := fun {σ9 H9 s9} I9 =>
        ⟨T.keep _ _ _ st7 fun b hb o e => (I9.pin (b, o) (List.mem_append_right _ (List.mem_append_right _ (mem_pinsAt hb e)))).1, fun b hb => by
          obtain ⟨o, e, d⟩ := T.obj _ _ st7 b hb
          exact (I9.pin (b, o) (List.mem_append_right _ (List.mem_append_right _ (mem_pinsAt hb e)))).2.1⟩
      refine wpAny_mono (ht _ _ _ _ _ _ s8 _ H7 _ I8 (step xv H7 y7)) (fun ok s9 ⟨H9, I9, q9⟩ => ?_) (fun _ _ f => f.elim)
      cases ok with
      | false =>
        rw [if_neg Bool.false_ne_true] at q9 ⊢
        obtain ⟨m', hm, w9⟩ := q9
        obtain ⟨t9, f9⟩ := pinsTo I9
        exact ⟨m', hm, i + 1, ys, _, H9, I9.unpinned, ⟨_, rfl⟩, t9, f9, w9⟩
      | true =>
        rw [if_pos rfl] at q9 ⊢
        refine wpAny_mono (he _ _ _ _ _ _ s9 _ H9 _ I9 q9) (fun yv s10 ⟨y, H10, I10, r10, hD10, hlen, m', hm, w10⟩ => ?_) (fun _ _ f => f.elim)
        refine wpAny_mono (mt_append (X := compCx X (x :: fr) scope cl g3.objs.size { s2 with heap := g3 } (upd H2 s2.heap.objs.size (.lst [])) fp (X.pn ++ pins)) _ s10 _ H10 (.ref s2.heap.objs.size) [y] (.ref s2.heap.objs.size) [yv]
          (fun _ H' => H' = upd H10 s2.heap.objs.size (.lst (ys ++ [y]))) I10 rfl (.cons r10 .nil) ⟨_, ys, y, rfl, rfl, hD10, hlen, rfl⟩) (fun _ s11 ⟨_, H11, I11, _, e11⟩ => ?_) (fun _ _ f => f.elim)
        subst e11
        obtain ⟨t11, f11⟩ := pinsTo I11
        exact ⟨m', hm, i + 1, ys ++ [y], _, _, I11.unpinned, ⟨_, rfl⟩, t11, f11, w10⟩
  exact codeAny_compStart_list loop (T.self X.A 0 _ _ _ st4 loop)
theorem pe_comp {X : Cx} {elt iter : Expr} {x : Str} {px pos : Pos} {ifs : List Expr} {scope : Scope} {cl : List (Str × Addr)} {fr : List Str} {ks : List Nat} {wi : TI} {tt : TT} {te : TE} (hc : X.calm = true) (S : CompScope X scope cl x fr)
    (hks : ks.map (fun k => X.N[k]?) = fr.map some) (hnd : (x :: fr).Nodup) (hi : PI X (.Name x px) iter wi)
    (ht : ∀ C s₂ H₂ ex pn, PTs (compCx X (x :: fr) scope cl C s₂ H₂ ex pn) ifs tt) (he : ∀ C s₂ H₂ ex pn, PE (compCx X (x :: fr) scope cl C s₂ H₂ ex pn) elt te)
    (hs : ∀ x, foldedSetIterable iter X.env x = pure x := by intro _; rfl) : PE X (.ListComp elt [⟨.Name x px, iter, ifs, 0⟩] scope pos) (tComp wi ks tt te) := by
  intro pins s σ H Q I h
  rw [eval_ListComp]
  refine comp_run hc S hks hnd hi ht he hs I h none _ fun D C H' s' mC f J fp hn q => ⟨mC, hn, fun h' sb => ?_⟩
  obtain ⟨f0, f1, f2, f3, f4, f5⟩ := fp
  exact ⟨.ref D, H', J.turned (t' := s'.toks) (fun b o hb e => (sb.2 b hb).trans e) f0 f1 f3 f4 f5, rfl, q⟩
theorem ps_setC {X : Cx} {i0 : Nat} {x0 : Str} {px0 pos0 : Pos} {elt iter : Expr} {x : Str} {px pos : Pos} {ifs : List Expr} {scope : Scope} {cl : List (Str × Addr)} {fr : List Str} {ks : List Nat} {wi : TI} {tt : TT} {te : TE} (hN : X.N.Nodup) (hi0 : X.N[i0]? = some x0) (hx0 : Loc X.env.scope x0) (hc : X.calm = true) (S : CompScope X scope cl x fr)
    (hks : ks.map (fun k => X.N[k]?) = fr.map some) (hnd : (x :: fr).Nodup) (hi : PI X (.Name x px) iter wi)
    (ht : ∀ C s₂ H₂ ex pn, PTs (compCx X (x :: fr) scope cl C s₂ H₂ ex pn) ifs tt) (he : ∀ C s₂ H₂ ex pn, PE (compCx X (x :: fr) scope cl C s₂ H₂ ex pn) elt te)
    (hs : ∀ x, foldedSetIterable iter X.env x = pure x := by intro _; rfl)
    (hsw : swapsWith (.ListComp elt [⟨.Name x px, iter, ifs, 0⟩] scope pos) (some (.Name x0 px0)) pos0.line X.env = pure true := by rfl) (hf : X.fn x0 = true ∨ X.env.scope.names.lookup x0 = some .local := by first | exact .inl rfl | exact .inr rfl | assumption) :
    PS X (.Assign [.Name x0 px0] (.ListComp elt [⟨.Name x px, iter, ifs, 0⟩] scope pos) pos0) (tAsg (tComp wi ks tt te) (gName i0)) := by
  intro pins s σ H D I h
  rw [exec_Assign_Name_used _ _ _ _ hsw]
  refine wpAny_bind (wpAny_standAt (wpAny_bind (wpAny_bind ?_)))
  refine comp_run hc S hks hnd hi ht he hs I h (some (assign (.Name x0 px0) X.env)) _ fun D' C H' s' mC f J fp hn q => ?_
  obtain ⟨f0, f1, f2, f3, f4, f5⟩ := fp
  refine wpAny_assign_Name (store_ok2 J hN hi0 hx0 (v := .ref D') rfl (fun s7 I7 ⟨a, sb, ha⟩ => ?_) hf)
  have hCa : C ≠ a := by
    rcases ha with e | e
    · rw [e]; exact f1
    · exact fun z => f4 _ _ e z.symm
  refine ⟨mC, hn.sameBut sb hCa, fun h' sb2 => ?_⟩
  have J2 := I7.turned (t' := s7.toks) (fun b o hb e => (sb2.2 b hb).trans e) f0 f1 f3 f4 f5
  exact wpAny_pure (wpAny_pure ⟨_, H', J2, q⟩)
end L2
set_option Elab.async false
set_option maxHeartbeats 4000000
namespace MT
def dg (n : Nat) : List Nat := (Nat.toDigits 10 n).map Char.toNat
theorem dc {n : Nat} (h : n < 10) : (Nat.digitChar n).toNat = 48 + n := by
  have hc : n = 0 ∨ n = 1 ∨ n = 2 ∨ n = 3 ∨ n = 4 ∨ n = 5 ∨ n = 6 ∨ n = 7 ∨ n = 8 ∨ n = 9 := by omega
  rcases hc with h | h | h | h | h | h | h | h | h | h <;> subst h <;> decide
def isD (c : Nat) : Bool := decide (48 ≤ c) && decide (c ≤ 57)
def vl (t : List Nat) : Nat := t.foldl (fun n c => 10 * n + (c - 48)) 0
def nin (t : List Nat) : Nat := t.foldl (fun n c => if isD c then 10 * n + (c - 48) else n) 0
def NT (n : Int) : List Nat := if n < 0 then 45 :: dg (-n).toNat else dg n.toNat
def fg (t : List Nat) : List Nat := if t.take 1 = [45] then t.drop 1 else t
def good (t : List Nat) : Prop := fg t ≠ [] ∧ (∀ c ∈ fg t, isD c = true) ∧ ((fg t).head? = some 48 → t = [48])
end MT
set_option Elab.async false
set_option linter.all false
set_option maxRecDepth 100000
namespace L2
open PySem PySem.Spec PyProof.Rows Builtin Builtin.Str
section
variable {X : Cx} {e a b c : Expr} {pos : Pos}
def gIn (neg : Bool) : R2
  | .str i, .str j, H, Q => (match cs i with
    | [c] => Q (.bl (neg ^^ decide (c ∈ cs j))) H
    | _ => False)
  | _, _, _, _ => False
def gZf : V → List V → Hp → VK → Prop
  | .str x, [.int i], H, Q => ((cs x).head? ≠ some 43 ∧ (cs x).head? ≠ some 45) ∧ (0 ≤ i ∧ i ≤ 1000) ∧ Q (T (List.replicate (i.toNat - (cs x).length) 48 ++ cs x)) H
  | _, _, _, _ => False
def gIdx : V → List V → Hp → VK → Prop
  | .str x, [.str y], H, Q => (match cs y with
    | [c] => c ∈ cs x ∧ ∀ i : Nat, (cs x)[i]? = some c → Q (.int i) H
    | _ => False)
  | _, _, _, _ => False
theorem gIdx.inv {x : V} {xs : List V} {H : Hp} {Q : VK} (h : gIdx x xs H Q) : ∃ x0 y c, x = .str x0 ∧ xs = [.str y] ∧ cs y = [c] ∧ c ∈ cs x0 ∧ ∀ i : Nat, (cs x0)[i]? = some c → Q (.int i) H := by
  unfold gIdx at h
  split at h
  · split at h
    · exact ⟨_, _, _, rfl, rfl, by assumption, h.1, h.2⟩
    · exact h.elim
  · exact h.elim
def gStr : List V → Hp → VK → Prop
  | [.int i], H, Q => i.natAbs.log2 < 1920 ∧ Q (T (MT.NT i)) H
  | _, _, _ => False
theorem codes_nat (n : Nat) : (Str.ofString (toString n)).cps.toList = MT.dg n := by
  rw [Str.ofString_eq_toList]
  show (toString n).toList.map Char.toNat = MT.dg n
  unfold MT.dg
  rw [Nat.toString_eq_ofList_toDigits, String.toList_ofList]
theorem codes_int (i : Int) : (Str.ofString (toString i)).cps.toList = MT.NT i := by
  unfold MT.NT
  cases i with
  | ofNat n =>
    have e : toString (Int.ofNat n) = toString n := rfl
    rw [e, codes_nat, if_neg (by simp)]
    rfl
  | negSucc n =>
    have e : toString (Int.negSucc n) = "-" ++ toString (n + 1) := rfl
    rw [e, Str.ofString_eq_toList]
    show ("-" ++ toString (n + 1)).toList.map Char.toNat = _
    rw [String.toList_append, List.map_append, if_pos (Int.negSucc_lt_zero n)]
    have := codes_nat (n + 1)
    rw [Str.ofString_eq_toList] at this
    have e2 : (toString (n + 1)).toList.map Char.toNat = MT.dg (n + 1) := this
    rw [e2]
    have e3 : (-(Int.negSucc n)).toNat = n + 1 := rfl
    rw [e3]; rfl
theorem str_int (i : Int) : V.str (toString i) = T (MT.NT i) := by
  show V.str (Str.ofString (toString i)) = _
  rw [T_cs]
  show T (Str.ofString (toString i)).cps.toList = _
  rw [codes_int]
theorem fc_str : CallR X (.type "str") gStr := call_str_int.imp fun xs H Q h => by
  unfold gStr at h; split at h
  · refine ⟨_, rfl, h.1, ?_⟩
    have e := str_int
    rw [e]; exact h.2
  · exact h.elim
def gInt2 : List V → Hp → VK → Prop
  | [.int i], H, Q => Q (.int i) H
  | [.bl k], H, Q => Q (.int (if k then 1 else 0)) H
  | [.str x], H, Q => ((cs x) ≠ [] ∧ (∀ c ∈ cs x, MT.isD c = true) ∧ (cs x).length ≤ 640) ∧ Q (.int (MT.vl (cs x))) H
  | _, _, _ => False
theorem call_int_text : CallR X (.type "int") (fun xs H Q => ∃ x, xs = [.str x] ∧ ((cs x) ≠ [] ∧ (∀ c ∈ cs x, MT.isD c = true) ∧ (cs x).length ≤ 640) ∧ Q (.int (MT.vl (cs x))) H) := by
  intro pins s σ H xs us Q I r h
  obtain ⟨x, rfl, ⟨h0, hd, hl⟩, q⟩ := h
  obtain ⟨u, rfl, t, rfl⟩ := vals1 r
  have hl' : x.length ≤ 640 := by simpa [cs, Str.length] using hl
  have e : PySem.NumText.digitsVal x.cps.toList = MT.vl (cs x) := by
    unfold PySem.NumText.digitsVal MT.vl cs
    congr 1
    funext a c; omega
  have hn : intText? x = some ((MT.vl (cs x) : Nat) : Int) := by
    rw [PySem.intText_digits (fun c hc => by have := hd c hc; simpa [MT.isD] using this) h0 (by omega), e]
  exact PySem.W.KIN.call_text hn hl' ⟨.int _, H, I.tok _, ⟨_, rfl⟩, q⟩
theorem fc_int2 : CallR X (.type "int") gInt2 := (call_int1.or call_int_text).imp fun xs H Q h => by
  unfold gInt2 at h; split at h
  · exact .inl (.inl ⟨_, rfl, h⟩)
  · exact .inl (.inr ⟨_, rfl, h⟩)
  · exact .inr ⟨_, rfl, h.1, h.2⟩
  · exact h.elim
end
end L2
set_option Elab.async false
set_option linter.all false
set_option maxRecDepth 100000
namespace L2
open PySem PySem.Spec PyProof.Rows
section
variable {X : Cx}
theorem bools_of : ∀ {bs : List Bool} {us : List Value}, Vals (bs.map V.bl) us → LSm.BoolsAre us bs
  | [], _, .nil => .nil
  | b :: r, _, .cons e t => by
    cases (show _ = Value.bool b from e)
    exact .cons b (bools_of t)
def gAll (K : PySem.W.Frag) : List V → Hp → VK → Prop
  | [.ref p], H, Q => ∃ bs : List Bool, SqL K H p (bs.map V.bl) ∧ Q (.bl (bs.all id)) H
  | _, _, _ => False
theorem fc_allK (K : PySem.W.Frag) (hc : X.calm = true) (hK : X.K = K := by rfl) : CallR X (.builtin "all") (gAll K) := by
  subst hK
  intro pins s σ H xs us Q I r h
  unfold gAll at h
  split at h
  · rename_i p
    obtain ⟨bs, hq, q⟩ := h
    obtain ⟨u, rfl, rx⟩ := vals1 r
    cases (show u = Value.ref p from rx)
    obtain ⟨its, rv, pl, hz⟩ := I.list hq
    have hne : p ≠ s.heap.objs.size := Nat.ne_of_lt (by obtain ⟨_, e, _⟩ := pl.isList; exact Heap.lt_size e)
    have hb : LSm.BoolsAre its bs := bools_of rv
    refine call_all_walk (wpAny_pyIter_list pl.isList ?_)
    refine ⟨s.heap.objs.size, [s.heap.objs.size, p], [s.heap.objs.size], its.toArray.size, _, _, fun i => (bs[i]?).getD true, rfl, Walks.list (A := X.A.in1) (I.ok.hd hc) _ p hne its.toArray,
      ⟨⟨_, Heap.get?_push_size _ rfl, rfl, rfl⟩, pl.isList.push _⟩, fun i v s' Q' E' hP hQ => ?_, fun h' tk hk => ?_⟩
    · obtain ⟨b, e, rfl⟩ := hb.get i v (by simpa using hP)
      simp only [e, Option.getD_some] at hQ
      exact wpAny_truthy_bool hQ
    · have e : ((List.range its.toArray.size).all fun i => (bs[i]?).getD true) = bs.all id := by
        rw [List.size_toArray, hb.length]; exact LSm.range_all bs
      rw [e]
      exact ⟨.bl (bs.all id), H, I.kept (LSm.kept_iter hk), rfl, q⟩
  · exact h.elim
end
end L2
set_option Elab.async false
set_option linter.all false
set_option maxRecDepth 100000
namespace L2
open PySem PySem.Spec PyProof.Rows Builtin Builtin.Str
def S (l : List Nat) : Str := ⟨⟨l⟩⟩
section
variable {X : Cx}
end
end L2
namespace PySem
open Sem (wp)
open Builtin Builtin.Str Builtin.Int
set_option maxRecDepth 100000
namespace F
end F
section
variable {prog : Program} {w : World} {A : Around} {E : Value → Shared → Prop} {s : Shared} {I : Addr} {fp wr : List Addr} {G : Array GenState → Array GenState → Prop} {n : Nat} {P : Nat → Value → Prop} {St : Nat → Shared → Prop}
end
end PySem
set_option Elab.async false
set_option linter.all false
set_option maxRecDepth 100000
namespace L2
open PySem PySem.Spec PyProof.Rows Builtin Builtin.Str
section
variable {X : Cx} {o e : Expr} {to te : TE} {apos cpos p pos : Pos}
end
end L2
set_option Elab.async false
set_option linter.all false
set_option maxRecDepth 100000
namespace L2
open PySem PySem.Spec PyProof.Rows Builtin Builtin.Str
section
variable {X : Cx}
end
theorem SqL.same {K : PySem.W.Frag} {H H' : Hp} {a : Addr} {xs : List V} (s : Same H H') (h : SqL K H a xs) : SqL K H' a xs := by
  rcases h with (h | ⟨o, h⟩) | h
  · exact .inl (.inl (s _ _ h))
  · exact .inl (.inr ⟨o, s _ _ h⟩)
  · exact .inr h
theorem passF {P : Program} {w : World} {X : Cx} : Passes' (XE P w) X (fun _ _ _ _ => False) := fun _ _ _ _ _ _ _ ⟨_, _, _, _, _, _, _, _, _, _, _, q⟩ => q.elim
def isCF : Option NameKind → Bool
  | some .cell => true
  | some .free => true
  | _ => false
theorem isCF_iff {k : Option NameKind} : isCF k = true ↔ (k = some .cell ∨ k = some .free) := by
  cases k with
  | none => simp [isCF]
  | some k => cases k <;> simp [isCF]
theorem keys_of {cl : List (Str × Addr)} {fr : List Str} (h : (cl.map (·.1)).all (fun y => fr.elem y) = true) : ∀ y ∈ cl, y.1 ∈ fr := fun y hy => by
  have := List.all_eq_true.mp h y.1 (List.mem_map_of_mem hy)
  simpa using this
theorem kinds_of {fr : List Str} {k : Str → Option NameKind} (h : fr.all (fun y => isCF (k y)) = true) : ∀ y ∈ fr, k y = some .cell ∨ k y = some .free := fun y hy => isCF_iff.mp (List.all_eq_true.mp h y hy)
theorem only_of {names : List (Str × NameKind)} {fr : List Str} (h : names.all (fun p => !isCF (some p.2) || fr.elem p.1) = true) : ∀ y, (names.lookup y = some .cell ∨ names.lookup y = some .free) → y ∈ fr := fun y hy => by
  have hy' := isCF_iff.mpr hy
  cases e : names.lookup y with
  | none => rw [e] at hy'; cases hy'
  | some k =>
    rw [e] at hy'
    have := List.all_eq_true.mp h (y, k) (PySem.mem_of_lookup e)
    simpa [hy'] using this
end L2
set_option Elab.async false
set_option linter.all false
set_option maxRecDepth 100000
namespace L2
open PySem PySem.Spec PyProof.Rows Builtin Builtin.Str
section
variable {X : Cx} {pos : Pos}
theorem big_of {pins : List (Addr × Obj)} {σ : St} {H : Hp} {s : Shared} (I : Inv X pins σ H s) : sysModules < s.heap.objs.size :=
  Nat.lt_trans (by decide) (show mainGlobals < s.heap.objs.size from (I.mod.glob.keeps I.bk).lt)
def fDnew : TE := fun _ H Q => ∀ p, H p = none → Q (.ref p) (upd H p (.dK []))
theorem fe_dnew : PE X (.Dict [] [] pos) fDnew := by
  intro pins s σ H Q I h
  have new : ObjOk X.prog X.w (upd H s.heap.objs.size (.dK [])) (s.heap.push { cls := .type "dict", data := .dict #[] }) s.heap.objs.size (.dK []) :=
    ⟨Nat.zero_le _, beq_eq_false_iff_ne.mpr (Ne.symm (Nat.ne_of_lt (big_of I))), [], .nil, Heap.DictOf.new s.heap⟩
  exact wpAny_Dict_empty ⟨.ref s.heap.objs.size, _, I.laid (t' := s.toks) (fun _ _ q => Heap.get?_push_of_some _ q) (Nat.le_refl _) new, rfl, h _ (I.hok.fresh (Nat.le_refl _))⟩
theorem fold_app : ∀ (l : List (Array Nat)) (acc : Array Nat), (l.foldl (· ++ ·) acc).toList = acc.toList ++ (l.map Array.toList).flatten
  | [], acc => by simp
  | a :: r, acc => by rw [List.foldl_cons, fold_app r]; simp
theorem mul_eq (x : Str) (n : Int) : V.str (Txt.mul x n) = T ((List.replicate n.toNat (cs x)).flatten) := by
  unfold Txt.mul
  split
  · rename_i h
    have e : n.toNat = 0 := by omega
    rw [e]; rfl
  · rename_i h
    split
    · rename_i h2
      rcases Bool.or_eq_true_iff.mp h2 with h3 | h3
      · have e : n.toNat = 1 := by have := eq_of_beq h3; omega
        rw [e, T_cs]; simp
      · have e : cs x = [] := by
          have := eq_of_beq h3
          simpa [cs, Str.length] using this
        rw [T_cs, e]; simp
    · rw [T_cs]
      congr 1
      show ((List.replicate n.toNat x.cps).foldl (· ++ ·) #[]).toList = _
      rw [fold_app, List.map_replicate]; rfl
end
end L2
set_option Elab.async false
set_option linter.all false
set_option maxRecDepth 100000
namespace L2
open PySem PySem.Spec PyProof.Rows Builtin Builtin.Str
section
variable {X : Cx}
structure EnumC (C : Hp → Prop) (J : It) (vs : List V) : Prop where
  go : ∀ i H, C H → i < vs.length → J.go i H
  yld : ∀ i H x H', C H → i < vs.length → J.yld i H x H' → H' = H ∧ vs[i]? = some x
  stop : ∀ H, C H → J.stop vs.length H
theorem comp_enumC {J : It} {vs : List V} {σ' : St} {H1 : Hp} {Q : VK} {tt : TT} {te : TE} (C : Hp → Prop) (E : EnumC C J vs) (p : V → Bool) (f : V → V) (hlen : vs.length ≤ sizeLine)
    (hp : ∀ x ∈ vs, ∀ H (R : Bool → Hp → Prop), C H → R (p x) H → tt (some x :: σ') H R) (hf : ∀ x ∈ vs, p x = true → ∀ H (R : VK), C H → R (f x) H → te (some x :: σ') H R)
    (D : Addr) (hD : H1 D = none) (hC : ∀ ys, C (upd H1 D (.lst ys))) (q : Q (.ref D) (upd H1 D (.lst ((vs.filter p).map f)))) :
    ∃ W : Nat → Nat → List V → Hp → Prop, (∃ m, W 0 m [] (upd H1 D (.lst []))) ∧
      ∀ i m ys H2, W i m ys H2 → H2 D = some (.lst ys) ∧ ((J.stop i H2 ∧ Q (.ref D) H2) ∨ (J.go i H2 ∧ ∀ x H3, J.yld i H2 x H3 →
        tt (some x :: σ') H3 fun b H4 => if b = true then te (some x :: σ') H4 fun y H5 => H5 D = some (.lst ys) ∧ ys.length < sizeLine ∧ ∃ m', m' < m ∧ W (i + 1) m' (ys ++ [y]) (upd H5 D (.lst (ys ++ [y])))
          else ∃ m', m' < m ∧ W (i + 1) m' ys H4)) := by
  refine ⟨fun i m ys H2 => m = vs.length - i ∧ i ≤ vs.length ∧ ys = ((vs.take i).filter p).map f ∧ H2 = upd H1 D (.lst ys), ⟨vs.length, by simp, Nat.zero_le _, by simp, rfl⟩, ?_⟩
  rintro i m ys H2 ⟨rfl, hi, hys, rfl⟩
  refine ⟨upd_same, ?_⟩
  by_cases hlt : i < vs.length
  · refine .inr ⟨E.go i _ (hC _) hlt, fun x H3 y => ?_⟩
    obtain ⟨e, hx⟩ := E.yld i _ x H3 (hC _) hlt y
    subst e
    have hm : x ∈ vs := List.mem_of_getElem? hx
    have htk : vs.take (i + 1) = vs.take i ++ [x] := by
      rw [List.take_succ, hx]; rfl
    have hyl : ys.length ≤ i := by
      rw [hys, List.length_map]
      exact Nat.le_trans (List.length_filter_le _ _) (by simp [List.length_take]; omega)
    refine hp x hm _ _ (hC _) ?_
    cases hb : p x with
    | true =>
      rw [if_pos rfl]
      refine hf x hm hb _ _ (hC _) ⟨upd_same, by omega, vs.length - (i + 1), by omega, rfl, hlt, ?_, ?_⟩
      · rw [htk, List.filter_append, List.map_append, ← hys]
        simp [hb]
      · funext z
        by_cases hz : z = D
        · subst hz; rw [upd_same, upd_same]
        · rw [upd_ne hz, upd_ne hz, upd_ne hz]
    | false =>
      rw [if_neg Bool.false_ne_true]
      refine ⟨vs.length - (i + 1), by omega, rfl, hlt, ?_, rfl⟩
      rw [htk, List.filter_append, List.map_append, ← hys]
      simp [hb]
  · have e : i = vs.length := by omega
    subst e
    refine .inl ⟨E.stop _ (hC _), ?_⟩
    rw [List.take_length] at hys
    rw [hys]; exact q
theorem enum_lst {K : PySem.W.Frag} {C : Hp → Prop} {a : Addr} {vs : List V} (h : ∀ H, C H → SqL K H a vs) : EnumC C (Itl K a) vs :=
  ⟨fun i H c hi => ⟨vs, vs[i], h H c, List.getElem?_eq_getElem hi⟩, fun i H x H' c _ y => ⟨y.1, y.2 vs (h H c)⟩, fun H c => ⟨vs, h H c, Nat.le_refl _⟩⟩
theorem comp_lst {K : PySem.W.Frag} {tl : TE} {ks : List Nat} {σ : St} {H H1 : Hp} {Q : VK} {tt : TT} {te : TE} (a : Addr) (vs : List V) (C : Hp → Prop) (hC : ∀ D ys, H1 D = none → C (upd H1 D (.lst ys))) (hT : ∀ H, C H → SqL K H a vs) (p : V → Bool) (f : V → V)
    (hl : ∀ R : VK, R (.ref a) H1 → tl σ H R) (h1 : SqL K H1 a vs) (hz : vs.length ≤ sizeLine)
    (hp : ∀ x ∈ vs, ∀ H (R : Bool → Hp → Prop), C H → R (p x) H → tt (some x :: ks.map fun k => (σ[k]?).join) H R) (hf : ∀ x ∈ vs, p x = true → ∀ H (R : VK), C H → R (f x) H → te (some x :: ks.map fun k => (σ[k]?).join) H R)
    (q : ∀ D, H1 D = none → Q (.ref D) (upd H1 D (.lst ((vs.filter p).map f)))) : tComp (iList K tl) ks tt te σ H Q :=
  hl _ ⟨a, rfl, ⟨vs, h1⟩, fun D hD => comp_enumC C (enum_lst hT) p f hz hp hf D hD (fun ys => hC D ys hD) (q D hD)⟩
end
end L2
set_option Elab.async false
set_option linter.all false
set_option maxRecDepth 100000
namespace L2
open PySem PySem.Spec PyProof.Rows
section
variable {X : Cx} {K : PySem.W.Frag} {pos : Pos}
theorem fg_tupK (K : PySem.W.Frag) {es : List Expr} {k : Nat} {t : TGs} {n : Nat} (hc : X.calm = true) (h : PGs X es t) (hK : X.K = K := by rfl)
    (hn : (assignEach es X.env).length = n := by rfl) (hst : (assignEach es X.env).findIdx? (·.1) = none := by rfl) : PG X (.Tuple es k pos) (gTup K n t) := by
  subst hK; exact pg_tup hc h hn hst
end
section
variable {X : Cx} {T name id : String} {r : V → List V → Hp → VK → Prop} {o e : Expr} {es : List Expr} {to : TE} {t : TA} {apos cpos : Pos}
theorem pe_bmK (K : PySem.W.Frag) (pa : PlainAttrs T) (slot : Slot T name id) (hty : typeOf (.builtin id) = pure (.type "method_descriptor")) (hm : MtR X id r) (ho : PE X o to) (ha : PA X (e :: es) t) (hK : X.K = K := by rfl)
    (hbase : attributeBase o name X.env (eval o X.env) = eval o X.env := by rfl)
    (hfew : ((backTo cpos (starEach (e :: es) X.env)).all (fun x => !x.1) && (backToKw cpos (keywordEach [] X.env)).all (fun x => x.1.isSome)
      && decide ((e :: es).length + ([] : List Keyword).length + (if ([] : List Keyword).isEmpty then 0 else 1) < 30)) = true := by rfl)
    (hline : (apos.endLine == cpos.line) = true := by rfl) (hs : starEach (e :: es) X.env = (false, eval e X.env) :: starEach es X.env := by rfl) (hplain : (backTo cpos (starEach es X.env)).any (·.1) = false := by rfl) :
    PE X (.Call (.Attribute o name apos) (e :: es) [] cpos) (tBM K T r to t) := by
  subst hK; exact pe_bm pa slot hty hm ho ha hbase hfew hline hs hplain
end
section
variable {K : PySem.W.Frag} {tl : TE} {ks : List Nat} {σ : St} {H : Hp} {Q : VK} {tt : TT} {te : TE}
end
end L2
set_option Elab.async false
set_option linter.all false
set_option maxRecDepth 100000
namespace L2
end L2
set_option Elab.async false
set_option linter.all false
set_option maxRecDepth 100000
namespace L2
open PySem PySem.Spec PyProof.Rows Builtin Builtin.Str
def spN (c : Nat) : List Nat → List (List Nat)
  | [] => [[]]
  | a :: r => if a = c then [] :: spN c r else match spN c r with
    | h :: t => (a :: h) :: t
    | [] => [[a]]
section
variable {X : Cx} {e a b c : Expr} {pos : Pos}
def gSpl : V → List V → Hp → VK → Prop
  | .str x, [.str y], H, Q => (∃ c, cs y = [c] ∧ (cs x).length + 2 ≤ sizeLine ∧ ∀ p, H p = none → Q (.ref p) (upd H p (.lst ((spN c (cs x)).map T))))
  | _, _, _, _ => False
def gCat : R2
  | .ref l, .ref b, H, Q => ∃ xs zs, H l = some (.lst xs) ∧ H b = some (.lst zs) ∧ xs.length + zs.length ≤ sizeLine ∧ ∀ p, H p = none → Q (.ref p) (upd H p (.lst (xs ++ zs)))
  | _, _, _, _ => False
theorem fo_cat : OpR X (binaryOp .Add) gCat := op_cat.imp fun x y H Q h => by
  unfold gCat at h; split at h
  · obtain ⟨xs, zs, h1, h2, h3, q⟩ := h
    exact ⟨_, _, xs, zs, rfl, rfl, h1, h2, h3, q⟩
  · exact h.elim
theorem fs_listK (K : PySem.W.Frag) (h : X.K = K := by rfl) : SlR X (rSlL K) := h ▸ sl_list
def gList (K : PySem.W.Frag) : List V → Hp → VK → Prop
  | [.ref p], H, Q => ∃ ys, (SqL K H p ys ∨ SqT K H p ys) ∧ ∀ l, H l = none → Q (.ref l) (upd H l (.lst ys))
  | _, _, _ => False
theorem fc_list (K : PySem.W.Frag) (hK : X.K = K := by rfl) : CallR X (.type "list") (gList K) := by
  subst hK
  refine call_list_of.imp fun xs H Q h => ?_
  unfold gList at h; split at h
  · obtain ⟨ys, h1, q⟩ := h
    exact ⟨_, ys, rfl, h1, q⟩
  · exact h.elim
def gTuple (K : PySem.W.Frag) : List V → Hp → VK → Prop
  | [.ref p], H, Q => ∃ ys, (SqL K H p ys ∧ ∀ l, H l = none → Q (.ref l) (upd H l (.tup ys))) ∨ (SqT K H p ys ∧ Q (.ref p) H)
  | _, _, _ => False
theorem fc_tuple (K : PySem.W.Frag) (hK : X.K = K := by rfl) : CallR X (.type "tuple") (gTuple K) := by
  subst hK
  refine call_tuple_of.imp fun xs H Q h => ?_
  unfold gTuple at h; split at h
  · obtain ⟨ys, h1⟩ := h
    exact ⟨_, ys, rfl, h1⟩
  · exact h.elim
inductive EqH (K : PySem.W.Frag) (H : Hp) : Nat → V → V → Bool → Prop
  | flat {n x y} : flatV x = true → flatV y = true → EqH K H n x y (eqV x y)
  | same {n p} : EqH K H n (.ref p) (.ref p) true
  | lst {n p q xs ys} {e : Nat → Bool} : p ≠ q → SqL K H p xs → SqL K H q ys → xs.length = ys.length → (∀ j x y, xs[j]? = some x → ys[j]? = some y → EqH K H n x y (e j)) → EqH K H (n + 1) (.ref p) (.ref q) ((List.range xs.length).all e)
  | len {n p q xs ys} : p ≠ q → SqL K H p xs → SqL K H q ys → xs.length ≠ ys.length → EqH K H (n + 1) (.ref p) (.ref q) false
  | tup {n p q xs ys} {e : Nat → Bool} : p ≠ q → SqT K H p xs → SqT K H q ys → (∀ j x y, xs[j]? = some x → ys[j]? = some y → EqH K H n x y (e j)) → EqH K H (n + 1) (.ref p) (.ref q) ((List.range (min xs.length ys.length)).all e && xs.length == ys.length)
  | lt {n p q xs ys} : SqL K H p xs → SqT K H q ys → EqH K H (n + 1) (.ref p) (.ref q) false
  | tl {n p q xs ys} : SqT K H p xs → SqL K H q ys → EqH K H (n + 1) (.ref p) (.ref q) false
theorem at_items {P : Value → Value → Bool → Prop} {xs ys : List V} {its its' : List Value} {e : Nat → Bool} (r : Vals xs its) (r' : Vals ys its') (h : ∀ j x y u v, xs[j]? = some x → ys[j]? = some y → RelV x u → RelV y v → P u v (e j)) :
    ∀ j (h1 : j < its.toArray.size) (h2 : j < its'.toArray.size), P its.toArray[j] its'.toArray[j] (e j) := fun j g1 g2 => by
  have h1 : xs.length = its.length := r.length
  have h2 : ys.length = its'.length := r'.length
  have g1' : j < its.length := by simpa using g1
  have g2' : j < its'.length := by simpa using g2
  have l1 : j < xs.length := by omega
  have l2 : j < ys.length := by omega
  obtain ⟨w1, e1, r1⟩ := r.get (List.getElem?_eq_getElem l1)
  obtain ⟨w2, e2, r2⟩ := r'.get (List.getElem?_eq_getElem l2)
  have z1 : its.toArray[j] = w1 := by
    have : its[j]? = some its[j] := List.getElem?_eq_getElem g1'
    rw [this] at e1; simpa using Option.some.inj e1
  have z2 : its'.toArray[j] = w2 := by
    have : its'[j]? = some its'[j] := List.getElem?_eq_getElem g2'
    rw [this] at e2; simpa using Option.some.inj e2
  rw [z1, z2]
  exact h j _ _ _ _ (List.getElem?_eq_getElem l1) (List.getElem?_eq_getElem l2) r1 r2
theorem EqH.at {K : PySem.W.Frag} {H : Hp} {n : Nat} {x y : V} {b : Bool} (h : EqH K H n x y b) : ∀ {X : Cx} {pins : List (Addr × Obj)} {σ : St} {s : Shared} {A : Around} {u v : Value}, X.K = K → Inv X pins σ H s → A.units + n < cLine → RelV x u → RelV y v → SeqAt.EqAt A s u v b := by
  induction h with
  | flat fx fy =>
    intro X pins σ s A u v hK I hu rx ry
    exact eqAt_V rx ry fx fy
  | same =>
    intro X pins σ s A u v hK I hu rx ry
    cases rx; cases ry
    exact SeqAt.EqAt.same _
  | @lst n p q xs ys e hpq hx hy hl _ ih =>
    intro X pins σ s A u v hK I hu rx ry
    cases rx; cases ry
    subst hK
    obtain ⟨its, r, pl, hz⟩ := I.list hx
    obtain ⟨its', r', pl', hz'⟩ := I.list hy
    have h1 : xs.length = its.length := r.length
    have h2 : ys.length = its'.length := r'.length
    have := SeqAt.RcAt.lists (A := A) (e := e) pl.isList pl'.isList (by simp; omega) (by omega) (at_items r r' fun j x y u v g1 g2 r1 r2 => ih j x y g1 g2 rfl I (by show A.units + 1 + n < cLine; omega) r1 r2)
    rw [List.size_toArray, ← h1] at this
    exact .of_refs hpq this
  | @len n p q xs ys hpq hx hy hl =>
    intro X pins σ s A u v hK I hu rx ry
    cases rx; cases ry
    subst hK
    obtain ⟨its, r, pl, hz⟩ := I.list hx
    obtain ⟨its', r', pl', hz'⟩ := I.list hy
    have h1 : xs.length = its.length := r.length
    have h2 : ys.length = its'.length := r'.length
    exact .of_refs hpq (SeqAt.RcAt.lists_lengths pl.isList pl'.isList (by simp; omega) (by omega))
  | @tup n p q xs ys e hpq hx hy _ ih =>
    intro X pins σ s A u v hK I hu rx ry
    cases rx; cases ry
    subst hK
    obtain ⟨its, r, pl, hz⟩ := I.tuple hx
    obtain ⟨its', r', pl', hz'⟩ := I.tuple hy
    have h1 : xs.length = its.length := r.length
    have h2 : ys.length = its'.length := r'.length
    have := SeqAt.RcAt.tuples (A := A) (e := e) pl pl' (by omega) (at_items r r' fun j x y u v g1 g2 r1 r2 => ih j x y g1 g2 rfl I (by show A.units + 1 + n < cLine; omega) r1 r2)
    rw [List.size_toArray, List.size_toArray, ← h1, ← h2] at this
    exact .of_refs hpq this
  | lt hx hy =>
    intro X pins σ s A u v hK I hu rx ry
    cases rx; cases ry
    subst hK
    obtain ⟨its, r, pl, hz⟩ := I.list hx
    obtain ⟨its', r', pl', hz'⟩ := I.tuple hy
    exact SeqAt.EqAt.list_tuple pl.isList pl' (by omega)
  | tl hx hy =>
    intro X pins σ s A u v hK I hu rx ry
    cases rx; cases ry
    subst hK
    obtain ⟨its, r, pl, hz⟩ := I.tuple hx
    obtain ⟨its', r', pl', hz'⟩ := I.list hy
    exact SeqAt.EqAt.tuple_list pl pl'.isList (by omega)
inductive EqR (K : PySem.W.Frag) (H : Hp) (p q : Addr) : Bool → Prop
  | lst {xs ys} {e : Nat → Bool} : SqL K H p xs → SqL K H q ys → xs.length = ys.length → (∀ j x y, xs[j]? = some x → ys[j]? = some y → EqH K H 50 x y (e j)) → EqR K H p q ((List.range xs.length).all e)
  | len {xs ys} : SqL K H p xs → SqL K H q ys → xs.length ≠ ys.length → EqR K H p q false
  | tup {xs ys} {e : Nat → Bool} : SqT K H p xs → SqT K H q ys → (∀ j x y, xs[j]? = some x → ys[j]? = some y → EqH K H 50 x y (e j)) → EqR K H p q ((List.range (min xs.length ys.length)).all e && xs.length == ys.length)
def gEqA (K : PySem.W.Frag) (neg : Bool) : R2
  | .ref p, .ref q, H, Q => ∃ b, EqR K H p q b ∧ Q (.bl (neg ^^ b)) H
  | _, _, _, _ => False
theorem fo_eqA (K : PySem.W.Frag) (hu : X.A.units + 100 < cLine) (hK : X.K = K := by rfl) : OpR X (compareOp .Eq) (gEqA K false) := by
  subst hK
  intro pins s σ H x y v u Q I rx ry h
  unfold gEqA at h
  split at h
  · rename_i p q
    obtain ⟨b, hb, q⟩ := h
    cases rx; cases ry
    cases hb with
    | @lst xs ys e hx hy hl he =>
      obtain ⟨its, r, pl, hz⟩ := I.list hx
      obtain ⟨its', r', pl', hz'⟩ := I.list hy
      have h1 : xs.length = its.length := r.length
      have h2 : ys.length = its'.length := r'.length
      refine SeqAt.eq_listAt (e := e) pl.isList pl'.isList (by simp; omega) (by omega) (at_items r r' fun j x y u v g1 g2 r1 r2 => (he j x y g1 g2).at rfl I (by show X.A.units + 1 + 50 < cLine; omega) r1 r2) ⟨.bl _, H, I, rfl, ?_⟩
      rw [List.size_toArray, ← h1]; simpa using q
    | @len xs ys hx hy hl =>
      obtain ⟨its, r, pl, hz⟩ := I.list hx
      obtain ⟨its', r', pl', hz'⟩ := I.list hy
      have h1 : xs.length = its.length := r.length
      have h2 : ys.length = its'.length := r'.length
      exact SeqAt.eq_list_lengthsAt pl.isList pl'.isList (by simp; omega) (by omega) ⟨.bl false, H, I, rfl, by simpa using q⟩
    | @tup xs ys e hx hy he =>
      obtain ⟨its, r, pl, hz⟩ := I.tuple hx
      obtain ⟨its', r', pl', hz'⟩ := I.tuple hy
      have h1 : xs.length = its.length := r.length
      have h2 : ys.length = its'.length := r'.length
      refine SeqAt.eq_tupleAt (e := e) pl pl' (by omega) (at_items r r' fun j x y u v g1 g2 r1 r2 => (he j x y g1 g2).at rfl I (by show X.A.units + 1 + 50 < cLine; omega) r1 r2) ⟨.bl _, H, I, rfl, ?_⟩
      rw [List.size_toArray, List.size_toArray, ← h1, ← h2]; simpa using q
  · exact h.elim
theorem fo_neA (K : PySem.W.Frag) (hu : X.A.units + 100 < cLine) (hK : X.K = K := by rfl) : OpR X (compareOp .NotEq) (gEqA K true) := by
  subst hK
  intro pins s σ H x y v u Q I rx ry h
  unfold gEqA at h
  split at h
  · rename_i p q
    obtain ⟨b, hb, q⟩ := h
    cases rx; cases ry
    cases hb with
    | @lst xs ys e hx hy hl he =>
      obtain ⟨its, r, pl, hz⟩ := I.list hx
      obtain ⟨its', r', pl', hz'⟩ := I.list hy
      have h1 : xs.length = its.length := r.length
      have h2 : ys.length = its'.length := r'.length
      refine SeqAt.RcNeAt.lists (e := e) pl.isList pl'.isList (by simp; omega) (by omega) (at_items r r' fun j x y u v g1 g2 r1 r2 => (he j x y g1 g2).at rfl I (by show X.A.units + 1 + 50 < cLine; omega) r1 r2) X.prog X.w X.xe _ ⟨.bl _, H, I, rfl, ?_⟩
      rw [List.size_toArray, ← h1]; simpa using q
    | @len xs ys hx hy hl =>
      obtain ⟨its, r, pl, hz⟩ := I.list hx
      obtain ⟨its', r', pl', hz'⟩ := I.list hy
      have h1 : xs.length = its.length := r.length
      have h2 : ys.length = its'.length := r'.length
      exact SeqAt.RcNeAt.lists_lengths pl.isList pl'.isList (by simp; omega) (by omega) X.prog X.w X.xe _ ⟨.bl true, H, I, rfl, by simpa using q⟩
    | @tup xs ys e hx hy he =>
      obtain ⟨its, r, pl, hz⟩ := I.tuple hx
      obtain ⟨its', r', pl', hz'⟩ := I.tuple hy
      have h1 : xs.length = its.length := r.length
      have h2 : ys.length = its'.length := r'.length
      refine SeqAt.RcNeAt.tuples (e := e) pl pl' (by omega) (at_items r r' fun j x y u v g1 g2 r1 r2 => (he j x y g1 g2).at rfl I (by show X.A.units + 1 + 50 < cLine; omega) r1 r2) X.prog X.w X.xe _ ⟨.bl _, H, I, rfl, ?_⟩
      rw [List.size_toArray, List.size_toArray, ← h1, ← h2]; simpa using q
  · exact h.elim
theorem EqR.flatL {K : PySem.W.Frag} {H : Hp} {p q : Addr} {xs : List V} (hx : SqL K H p xs) (hy : SqL K H q xs) (f : xs.all flatV = true) : EqR K H p q true := by
  have h := EqR.lst (K := K) (H := H) (e := fun j => eqV (xs.getD j .non) (xs.getD j .non)) hx hy rfl fun j x y gx gy => by
    have e1 : xs.getD j .non = x := by simp [List.getD, gx]
    rw [e1]
    rw [gx] at gy
    cases gy
    exact .flat (List.all_eq_true.mp f _ (List.mem_of_getElem? gx)) (List.all_eq_true.mp f _ (List.mem_of_getElem? gx))
  have e : (List.range xs.length).all (fun j => eqV (xs.getD j .non) (xs.getD j .non)) = true := by
    rw [List.all_eq_true]
    intro j hj
    have hf : flatV (xs.getD j .non) = true := by
      have hj' : j < xs.length := by simpa using hj
      have : xs.getD j .non ∈ xs := by
        have e1 : xs.getD j .non = xs[j] := by simp [List.getD, hj']
        rw [e1]; exact List.getElem_mem hj'
      exact List.all_eq_true.mp f _ this
    generalize xs.getD j .non = z at hf
    cases z <;> simp [eqV] at hf ⊢ <;> simp [flatV] at hf
  rw [e] at h; exact h
end
end L2
set_option Elab.async false
set_option linter.all false
set_option maxRecDepth 100000
namespace PySem
open Sem (wp)
open Builtin
end PySem
namespace L2
open PySem PySem.Spec PyProof.Rows Builtin Builtin.Str
section
variable {X : Cx} {e a b c : Expr} {pos : Pos}
def gEqQ (K : PySem.W.Frag) (neg : Bool) : R2 := fun x y H Q => match eqS x y with
  | some k => Q (.bl (neg ^^ k)) H
  | none => gEqA K neg x y H Q
theorem fo_eqQ (K : PySem.W.Frag) (hu : X.A.units + 100 < cLine) (hK : X.K = K := by rfl) : OpR X (compareOp .Eq) (gEqQ K false) := ((op_eqU (by omega)).or (fo_eqA K hu hK)).imp fun x y H Q h => by
  unfold gEqQ at h
  split at h
  · rename_i k hk
    obtain ⟨h1, h2⟩ := eqS_scal hk
    exact .inl (.inl ⟨h1, by rw [h2]; simpa using h⟩)
  · exact .inr h
theorem fo_neQ (K : PySem.W.Frag) (hu : X.A.units + 100 < cLine) (hK : X.K = K := by rfl) : OpR X (compareOp .NotEq) (gEqQ K true) := ((op_neU (by omega)).or (fo_neA K hu hK)).imp fun x y H Q h => by
  unfold gEqQ at h
  split at h
  · rename_i k hk
    obtain ⟨h1, h2⟩ := eqS_scal hk
    exact .inl (.inl ⟨h1, by rw [h2]; simpa using h⟩)
  · exact .inr h
variable {K : PySem.W.Frag} {neg : Bool} {H : Hp} {Q : VK}
theorem eqQ_int {i j : Int} : gEqQ K neg (.int i) (.int j) H Q = Q (.bl (neg ^^ decide (i = j))) H := rfl
theorem eqQ_bl {i j : Bool} : gEqQ K neg (.bl i) (.bl j) H Q = Q (.bl (neg ^^ decide (i = j))) H := rfl
theorem eqQ_str {i j : Str} : gEqQ K neg (.str i) (.str j) H Q = Q (.bl (neg ^^ decide (i.cps.toList = j.cps.toList))) H := rfl
theorem eqQ_ref {p q : Addr} : gEqQ K neg (.ref p) (.ref q) H Q = ∃ b, EqR K H p q b ∧ Q (.bl (neg ^^ b)) H := rfl
theorem eqQ_nn : gEqQ K neg .non .non H Q = Q (.bl (neg ^^ true)) H := rfl
theorem eqQ_ni {i : Int} : gEqQ K neg .non (.int i) H Q = Q (.bl (neg ^^ false)) H := rfl
theorem eqQ_in {i : Int} : gEqQ K neg (.int i) .non H Q = Q (.bl (neg ^^ false)) H := rfl
theorem eqQ_is {i : Int} {s : Str} : gEqQ K neg (.int i) (.str s) H Q = Q (.bl (neg ^^ false)) H := rfl
theorem eqQ_si {i : Int} {s : Str} : gEqQ K neg (.str s) (.int i) H Q = Q (.bl (neg ^^ false)) H := rfl
end
theorem for_tupB {K : PySem.W.Frag} {tl : TE} {g : TG} {tb : TS} {D : Ends} {σ : St} {H : Hp} (h : tl σ H fun v H1 => tFor (iTup K (tC v)) g tb D σ H1) : tFor (iTup K tl) g tb D σ H := h
theorem for_lstB {K : PySem.W.Frag} {tl : TE} {g : TG} {tb : TS} {D : Ends} {σ : St} {H : Hp} (h : tl σ H fun v H1 => tFor (iList K (tC v)) g tb D σ H1) : tFor (iList K tl) g tb D σ H := h
theorem for_tupC {K : PySem.W.Frag} {a : Addr} {xs : List V} {g : TG} {tb : TS} {D : Ends} {σ : St} {H : Hp} (hq : SqT K H a xs) (h : ∃ W : Nat → Nat → St → Hp → Prop, (∃ m, W 0 m σ H) ∧ ∀ i m σ H, W i m σ H →
      ((Itt K a).stop i H ∧ D.nx σ H) ∨ ((Itt K a).go i H ∧ ∃ N : St → Hp → Prop, (∀ σ' H', N σ' H' → ∃ m', m' < m ∧ W (i + 1) m' σ' H') ∧ ∀ x H', (Itt K a).yld i H x H' → g x σ H' fun σ2 H2 => tb { D with nx := N, ct := N, bk := D.nx } σ2 H2)) : tFor (iTup K (tC (.ref a))) g tb D σ H := ⟨a, rfl, ⟨xs, hq⟩, h⟩
theorem for_lstC {K : PySem.W.Frag} {a : Addr} {xs : List V} {g : TG} {tb : TS} {D : Ends} {σ : St} {H : Hp} (hq : SqL K H a xs) (h : ∃ W : Nat → Nat → St → Hp → Prop, (∃ m, W 0 m σ H) ∧ ∀ i m σ H, W i m σ H →
      ((Itl K a).stop i H ∧ D.nx σ H) ∨ ((Itl K a).go i H ∧ ∃ N : St → Hp → Prop, (∀ σ' H', N σ' H' → ∃ m', m' < m ∧ W (i + 1) m' σ' H') ∧ ∀ x H', (Itl K a).yld i H x H' → g x σ H' fun σ2 H2 => tb { D with nx := N, ct := N, bk := D.nx } σ2 H2)) : tFor (iList K (tC (.ref a))) g tb D σ H := ⟨a, rfl, ⟨xs, hq⟩, h⟩
theorem kind_same {H H' : Hp} {x : V} {t : String} (s : Same H H') (h : kindV H x = some t) : kindV H' x = some t := by
  cases x with
  | ref p =>
    unfold kindV at h ⊢
    dsimp only at h ⊢
    cases e : H p with
    | none => rw [e] at h; cases h
    | some o => rw [e] at h; rw [s _ _ e]; exact h
  | _ => exact h
theorem pick_ref {xs : List V} {H H1 : Hp} {Q : VK} {i : Int} {q : Addr} {o : HO} (h : atI xs i = some (.ref q)) (hq : H q = none) (ho : H1 q = some o) (po : plainO o = true) (k : Q (.ref q) (upd H q o)) : kPick xs H H1 Q (.int i) := by
  unfold kPick
  simp only [h, ho]
  exact ⟨hq, po, k⟩
end L2
namespace L2
theorem units100 {k : Nat} {A : PySem.Around} (r : Room k A) : A.units + 100 < PySem.cLine := by have := r.un; omega
end L2
set_option Elab.async false
set_option linter.all false
set_option maxRecDepth 100000
namespace L2
open PySem PySem.Spec PyProof.Rows
section
variable {κ : Type} [DecidableEq κ]
def valV (kvs : List (κ × V)) (k : κ) : Option V := (kvs.find? fun kv => decide (kv.1 = k)).map (·.2)
def putK (kvs : List (κ × V)) (k : κ) (v : V) : List (κ × V) :=
  if (kvs.any fun kv => decide (kv.1 = k)) = true then kvs.map (fun kv => if kv.1 = k then (kv.1, v) else kv) else kvs ++ [(k, v)]
def dropK (kvs : List (κ × V)) (k : κ) : List (κ × V) := kvs.filter fun kv => decide (kv.1 ≠ k)
theorem valV_pos {p : κ × V} {r : List (κ × V)} {k : κ} (e : p.1 = k) : valV (p :: r) k = some p.2 := by simp [valV, List.find?_cons, e]
theorem valV_neg {p : κ × V} {r : List (κ × V)} {k : κ} (e : ¬ p.1 = k) : valV (p :: r) k = valV r k := by simp [valV, List.find?_cons, e]
theorem valV_any (k : κ) : ∀ kvs : List (κ × V), (kvs.any fun kv => decide (kv.1 = k)) = (valV kvs k).isSome
  | [] => rfl
  | p :: r => by
    rw [List.any_cons]
    by_cases e : p.1 = k
    · simp only [valV_pos e, decide_eq_true e, Bool.true_or, Option.isSome_some]
    · rw [valV_neg e, decide_eq_false e, Bool.false_or]; exact valV_any k r
theorem length_putK (kvs : List (κ × V)) (k : κ) (v : V) : (putK kvs k v).length ≤ kvs.length + 1 := by
  unfold putK
  split
  · rw [List.length_map]; omega
  · rw [List.length_append, List.length_cons, List.length_nil]; omega
theorem RelO.isSome_eq {o : Option V} {u : Option Value} (r : RelO o u) : o.isSome = u.isSome := by
  cases o with
  | none => cases u with
    | none => rfl
    | some _ => exact (show False from r).elim
  | some _ => cases u with
    | none => exact (show False from r).elim
    | some _ => rfl
theorem RelO.getD {o : Option V} {u : Option Value} {d : V} {d' : Value} (r : RelO o u) (rd : RelV d d') : RelV (o.getD d) (u.getD d') := by
  cases o with
  | none => cases u with
    | none => exact rd
    | some _ => exact (show False from r).elim
  | some _ => cases u with
    | none => exact (show False from r).elim
    | some _ => exact r
theorem KV.val {kvs : List (κ × V)} {vs : List (κ × Value)} (r : KV kvs vs) (k : κ) : RelO (valV kvs k) (valueAt vs k) := by
  unfold KV at r
  induction r with
  | nil => exact True.intro
  | @cons p q ps qs h t ih =>
    obtain ⟨h1, h2⟩ := h
    by_cases e : p.1 = k
    · have e' : q.1 = k := h1.symm.trans e
      have b : valueAt (q :: qs) k = some q.2 := by simp [valueAt, List.find?_cons, e']
      rw [valV_pos e, b]; exact h2
    · have e' : ¬ q.1 = k := fun z => e (h1.trans z)
      have b : valueAt (q :: qs) k = valueAt qs k := by simp [valueAt, List.find?_cons, e']
      rw [valV_neg e, b]; exact ih
theorem KV.any {kvs : List (κ × V)} {vs : List (κ × Value)} (r : KV kvs vs) (k : κ) : (kvs.any fun kv => decide (kv.1 = k)) = vs.any fun kv => decide (kv.1 = k) := by
  unfold KV at r
  induction r with
  | nil => rfl
  | cons h t ih => rw [List.any_cons, List.any_cons, ih, h.1]
theorem KV.repl {kvs : List (κ × V)} {vs : List (κ × Value)} (r : KV kvs vs) (k : κ) {y : V} {u : Value} (ry : RelV y u) :
    KV (kvs.map fun kv => if kv.1 = k then (kv.1, y) else kv) (vs.map fun kv => if kv.1 = k then (kv.1, u) else kv) := by
  unfold KV at r ⊢
  induction r with
  | nil => exact .nil
  | @cons p q ps qs h t ih =>
    rw [List.map_cons, List.map_cons]
    refine .cons ?_ ih
    obtain ⟨h1, h2⟩ := h
    by_cases e : p.1 = k
    · rw [if_pos e, if_pos (h1.symm.trans e)]; exact ⟨h1, ry⟩
    · rw [if_neg e, if_neg (fun z => e (h1.trans z))]; exact ⟨h1, h2⟩
theorem KV.put {kvs : List (κ × V)} {vs : List (κ × Value)} (r : KV kvs vs) (k : κ) {y : V} {u : Value} (ry : RelV y u) : KV (putK kvs k y) (stored vs k u) := by
  unfold putK stored
  rw [r.any k]
  by_cases e : (vs.any fun kv => decide (kv.1 = k)) = true
  · rw [if_pos e, if_pos e]; exact r.repl k ry
  · rw [if_neg e, if_neg e]; exact Paired.snoc r ⟨rfl, ry⟩
theorem KV.drop {kvs : List (κ × V)} {vs : List (κ × Value)} (r : KV kvs vs) (k : κ) : KV (dropK kvs k) (without vs k) := by
  unfold KV at r ⊢
  unfold dropK without
  induction r with
  | nil => exact .nil
  | @cons p q ps qs h t ih =>
    obtain ⟨h1, h2⟩ := h
    rw [List.filter_cons, List.filter_cons]
    by_cases e : p.1 = k
    · have a : ¬ decide (p.1 ≠ k) = true := by simp [e]
      have b : ¬ decide (q.1 ≠ k) = true := by simp [h1.symm.trans e]
      rw [if_neg a, if_neg b]; exact ih
    · have e' : ¬ q.1 = k := fun z => e (h1.trans z)
      have a : decide (p.1 ≠ k) = true := by simp [e]
      have b : decide (q.1 ≠ k) = true := by simp [e']
      rw [if_pos a, if_pos b]; exact .cons ⟨h1, h2⟩ ih
theorem KV.keys {kvs : List (κ × V)} {vs : List (κ × Value)} (r : KV kvs vs) : kvs.map (·.1) = vs.map (·.1) := by
  unfold KV at r
  induction r with
  | nil => rfl
  | cons h t ih => rw [List.map_cons, List.map_cons, ih, h.1]
theorem KV.length {kvs : List (κ × V)} {vs : List (κ × Value)} (r : KV kvs vs) : kvs.length = vs.length := Paired.length r
end
theorem kV_is {P : Program} {w : World} {k : Key} {u : Value} (r : RelV (kV k) u) : (mixKind P w).is k u = true := by
  cases k with
  | inl i => obtain ⟨t, e⟩ := (show ∃ t, u = Value.int i t from r); subst e; exact mixKind_int P w i t
  | inr x => obtain ⟨t, e⟩ := (show ∃ t, u = Value.str x t from r); subst e; exact mixKind_str P w x t
theorem items_are {P : Program} {w : World} : ∀ {ks : List Key} {us : List Value}, Vals (ks.map kV) us → ItemsAre (mixKind P w) ks us
  | [], _, r => by rw [List.map_nil] at r; cases r; exact .nil
  | k :: ks, _, r => by
    rw [List.map_cons] at r
    cases r with
    | cons h t => exact .cons (kV_is h) (items_are t)
abbrev KT (H : Hp) : List (List Key × V) → List (List Key × Addr × Value) → Prop := Paired fun p q => p.1 = q.1 ∧ H q.2.1 = some (.tup (p.1.map kV)) ∧ RelV p.2 q.2.2
theorem KT.val {H : Hp} {kvs : List (List Key × V)} {xs : List (List Key × Addr × Value)} (r : KT H kvs xs) (k : List Key) : RelO (valV kvs k) ((atKey xs k).map (·.2)) := by
  induction r with
  | nil => exact True.intro
  | @cons p q ps qs h t ih =>
    obtain ⟨h1, _, h2⟩ := h
    by_cases e : p.1 = k
    · have e' : q.1 = k := h1.symm.trans e
      have b : atKey (q :: qs) k = some q.2 := by simp [atKey, List.find?_cons, e']
      rw [valV_pos e, b]; exact h2
    · have e' : ¬ q.1 = k := fun z => e (h1.trans z)
      have b : atKey (q :: qs) k = atKey qs k := by simp [atKey, List.find?_cons, e']
      rw [valV_neg e, b]; exact ih
theorem KT.repl {H : Hp} {kvs : List (List Key × V)} {xs : List (List Key × Addr × Value)} (r : KT H kvs xs) (k : List Key) {y : V} {u : Value} (ry : RelV y u) :
    KT H (kvs.map fun kv => if kv.1 = k then (kv.1, y) else kv) (xs.map (putAt k u)) := by
  induction r with
  | nil => exact .nil
  | @cons p q ps qs h t ih =>
    rw [List.map_cons, List.map_cons]
    refine .cons ?_ ih
    obtain ⟨h1, h2, h3⟩ := h
    unfold putAt
    by_cases e : p.1 = k
    · rw [if_pos e, if_pos (h1.symm.trans e)]; exact ⟨h1, h2, ry⟩
    · rw [if_neg e, if_neg (fun z => e (h1.trans z))]; exact ⟨h1, h2, h3⟩
theorem KT.put {H : Hp} {kvs : List (List Key × V)} {xs : List (List Key × Addr × Value)} (r : KT H kvs xs) (k : List Key) {b : Addr} {y : V} {u : Value} (hb : H b = some (.tup (k.map kV))) (ry : RelV y u) :
    KT H (putK kvs k y) (storedH xs k b u) := by
  have e : (kvs.any fun kv => decide (kv.1 = k)) = (atKey xs k).isSome := by
    rw [valV_any, (r.val k).isSome_eq, Option.isSome_map]
  unfold putK storedH
  rw [e]
  by_cases q : (atKey xs k).isSome = true
  · rw [if_pos q, if_pos q]; exact r.repl k ry
  · rw [if_neg q, if_neg q]; exact Paired.snoc r ⟨rfl, hb, ry⟩
theorem KT.keeps {H H' : Hp} {kvs : List (List Key × V)} {xs : List (List Key × Addr × Value)} (r : KT H kvs xs) (ht : ∀ b ys, H b = some (.tup ys) → H' b = some (.tup ys)) : KT H' kvs xs :=
  Paired.mapP r fun _ _ z => ⟨z.1, ht _ _ z.2.1, z.2.2⟩
section
variable {P : Program} {w : World} {H : Hp} {h : Heap} {a : Addr}
theorem rd_of {u : HO} (ok : HOk P w H h) (e : Rd H a u) : ObjOk P w H h a u := e.ok ok
theorem dk_rd {kvs : List (Key × V)} (ok : HOk P w H h) (e : Rd H a (.dK kvs)) : kvs.length ≤ sizeLine ∧ (a == sysModules) = false ∧ ∃ vs, KV kvs vs ∧ h.DictOf (mixKind P w) a vs :=
  show ObjOk P w H h a (.dK kvs) from rd_of ok e
theorem dk_of {kvs : List (Key × V)} (ok : HOk P w H h) (e : H a = some (.dK kvs)) : kvs.length ≤ sizeLine ∧ (a == sysModules) = false ∧ ∃ vs, KV kvs vs ∧ h.DictOf (mixKind P w) a vs := dk_rd ok (.inl e)
theorem key_of {ks : List Key} (ok : HOk P w H h) (e : H a = some (.tup (ks.map kV))) : (tupleKind (mixKind P w)).is h ks a := by
  obtain ⟨_, its, r, o, h1, h2, n, h3⟩ := (show ObjOk P w H h a (.tup (ks.map kV)) from ok a _ e)
  exact ⟨o, its.toArray, n, h1, h2, h3, by simpa using items_are r⟩
theorem dt_rd {kvs : List (List Key × V)} (ok : HOk P w H h) (e : Rd H a (.dT kvs)) : kvs.length ≤ sizeLine ∧ (a == sysModules) = false ∧
    ∃ xs, KT H kvs xs ∧ h.DictOfH (tupleKind (mixKind P w)) a xs := by
  obtain ⟨z, y, xs, r, o, es, ep, h1, h2, h3, h4, h5⟩ := (show ObjOk P w H h a (.dT kvs) from rd_of ok e)
  refine ⟨z, y, xs, r, o, es, ep, h1, h2, h3, h4, fun x hx => ?_, h5⟩
  have all : ∀ {l : List (List Key × V)} {m : List (List Key × Addr × Value)}, KT H l m → ∀ x ∈ m, (tupleKind (mixKind P w)).is h x.1 x.2.1 := by
    intro l m q
    induction q with
    | nil => intro x hx; exact nomatch hx
    | @cons p q ps qs hq t ih =>
      intro x hx
      rcases List.mem_cons.mp hx with e | hx
      · subst e
        exact key_of ok (by rw [← hq.1]; exact hq.2.1)
      · exact ih x hx
  exact all r x hx
theorem dt_of {kvs : List (List Key × V)} (ok : HOk P w H h) (e : H a = some (.dT kvs)) : kvs.length ≤ sizeLine ∧ (a == sysModules) = false ∧
    ∃ xs, KT H kvs xs ∧ h.DictOfH (tupleKind (mixKind P w)) a xs := dt_rd ok (.inl e)
end
def DGet (H : Hp) (a : Addr) (y : V) (r : Option V) : Prop :=
  (∃ kvs k, Rd H a (.dK kvs) ∧ y = kV k ∧ r = valV kvs k) ∨ ∃ kvs k b, Rd H a (.dT kvs) ∧ y = .ref b ∧ H b = some (.tup (k.map kV)) ∧ r = valV kvs k
def DPut (H : Hp) (a : Addr) (y v : V) (H' : Hp) : Prop :=
  (∃ kvs k, H a = some (.dK kvs) ∧ y = kV k ∧ kvs.length < sizeLine ∧ H' = upd H a (.dK (putK kvs k v))) ∨
  ∃ kvs k b, H a = some (.dT kvs) ∧ y = .ref b ∧ H b = some (.tup (k.map kV)) ∧ kvs.length < sizeLine ∧ H' = upd H a (.dT (putK kvs k v))
theorem DGet.k {H : Hp} {a : Addr} {kvs : List (Key × V)} {k : Key} (e : H a = some (.dK kvs)) : DGet H a (kV k) (valV kvs k) := .inl ⟨kvs, k, .inl e, rfl, rfl⟩
theorem DGet.t {H : Hp} {a b : Addr} {kvs : List (List Key × V)} {k : List Key} (e : H a = some (.dT kvs)) (eb : H b = some (.tup (k.map kV))) : DGet H a (.ref b) (valV kvs k) := .inr ⟨kvs, k, b, .inl e, rfl, eb, rfl⟩
theorem DPut.k {H : Hp} {a : Addr} {kvs : List (Key × V)} {k : Key} {v : V} (e : H a = some (.dK kvs)) (hl : kvs.length < sizeLine) : DPut H a (kV k) v (upd H a (.dK (putK kvs k v))) := .inl ⟨kvs, k, e, rfl, hl, rfl⟩
theorem DPut.t {H : Hp} {a b : Addr} {kvs : List (List Key × V)} {k : List Key} {v : V} (e : H a = some (.dT kvs)) (eb : H b = some (.tup (k.map kV))) (hl : kvs.length < sizeLine) :
    DPut H a (.ref b) v (upd H a (.dT (putK kvs k v))) := .inr ⟨kvs, k, b, e, rfl, eb, hl, rfl⟩
section
variable {X : Cx} {pins : List (Addr × Obj)} {σ : St} {H : Hp} {s : Shared} {a : Addr} {y v : V} {u r : Value} {o : Option V} {A : Around} {E : Value → Shared → Prop}
theorem d_write {h' : Heap} {t' : Nat} {ob : HO} (I : Inv X pins σ H s) (mu : Mut (H a)) (hs : Heap.SameBut a s.heap h') (he : ∃ q, h'.get? a = some q) (new : ObjOk X.prog X.w (upd H a ob) h' a ob) :
    Inv X pins σ (upd H a ob) { s with heap := h', toks := t' } :=
  I.write (x := a) (e := a) mu (.inl rfl) (fun b q hb z => (hs.2 b hb).trans z) he new
theorem dk_new {P : Program} {w : World} {H' : Hp} {h' : Heap} {kvs : List (Key × V)} {vs : List (Key × Value)} (z : kvs.length ≤ sizeLine) (hd : (a == sysModules) = false) (rel : KV kvs vs) (dd : h'.DictOf (mixKind P w) a vs) :
    ObjOk P w H' h' a (.dK kvs) := ⟨z, hd, vs, rel, dd⟩
theorem d_setItem {H' : Hp} {Q : Unit → Shared → Prop} (hu : A.units + 1 < cLine) (I : Inv X pins σ H s) (g : DPut H a y v H') (ry : RelV y u) (rv : RelV v r) (h : ∀ s', Inv X pins σ H' s' → Q () s') :
    wpAny (model X.prog X.w) A (setItem (.ref a) u r) Q E s := by
  rcases g with ⟨kvs, k, e, ey, l, eH⟩ | ⟨kvs, k, b, e, ey, eb, l, eH⟩
  · subst ey eH
    obtain ⟨z, hd, vs, rel, dd⟩ := dk_of I.hok e
    have hz : vs.length ≤ sizeLine := by rw [← rel.length]; exact z
    have hl : (putK kvs k v).length ≤ sizeLine := by have := length_putK kvs k v; omega
    refine wpAny_setItem_pairs (hsz := hz) (kV_is ry) dd fun h' dd' hs => h _ ?_
    have he : ∃ q, h'.get? a = some q := let ⟨q, _, _, hq, _⟩ := dd'; ⟨q, hq⟩
    exact d_write I (by rw [e]; exact True.intro) hs he (dk_new hl hd (rel.put k rv) dd')
  · subst ey eH
    cases (show u = Value.ref b from ry)
    obtain ⟨z, hd, xs, rel, dd⟩ := dt_of I.hok e
    have hz : xs.length ≤ sizeLine := by rw [← Paired.length rel]; exact z
    have hl : (putK kvs k v).length ≤ sizeLine := by have := length_putK kvs k v; omega
    refine wpAny_setItem_heap (hsz := hz) (tupleKind_room_in1 hu) (key_of I.hok eb) dd fun h' dd' hs => h _ ?_
    obtain ⟨q, es, ep, hq, h2, h3, h4, _, h5⟩ := dd'
    refine d_write I (by rw [e]; exact True.intro) hs ⟨q, hq⟩ ⟨hl, hd, _, (rel.put k eb rv).keeps fun c ys ec => ?_, q, es, ep, hq, h2, h3, h4, h5⟩
    rw [upd_ne (ne_of ec e (fun z => nomatch z))]
    exact ec
end
section
variable {X : Cx} {pins : List (Addr × Obj)} {σ : St} {H : Hp} {s : Shared} {a : Addr} {kvs : List (Key × V)} {k : Key} {u : Value} {A : Around} {E : Value → Shared → Prop}
end
def sDPut (td ty tv : TE) : TS := fun D σ H => tv σ H fun v H1 => td σ H1 fun x H2 => ty σ H2 fun y H3 => ∃ a H4, x = .ref a ∧ DPut H3 a y v H4 ∧ D.nx σ H4
section
variable {X : Cx} {o i e value : Expr} {pos pos' tpos : Pos} {td ty tv : TE}
theorem ps_dput (hu : X.A.units + 1 < cLine) (ho : PE X o td) (hi : PE X i ty) (hv : PE X value tv) (hs : swapsWith value (some (.Subscript o i pos')) pos.line X.env = pure false) :
    PS X (.Assign [.Subscript o i pos'] value pos) (sDPut td ty tv) := by
  intro pins s σ H D I h
  refine wpAny_Assign_Subscript (thn (hv pins s σ H _ I h) fun r s1 ⟨v, H1, I1, rv, q1⟩ => thn (ho pins s1 σ H1 _ I1 q1) fun u s2 ⟨x, H2, I2, rx, q2⟩ => thn (hi pins s2 σ H2 _ I2 q2) fun iv s3 ⟨y, H3, I3, ry, a, H4, ex, g, q3⟩ => ?_) hs
  subst ex
  obtain rfl : u = Value.ref a := rx
  exact d_setItem hu I3 g ry rv fun s4 I4 => ⟨σ, H4, I4, q3⟩
end
section
variable {X : Cx} {pos : Pos}
end
structure M1 (X : Cx) (o : Expr) (m : Str) (apos : Pos) (e : Expr) (cpos : Pos) : Prop where
  base : attributeBase o m X.env (eval o X.env) = eval o X.env
  few : ((backTo cpos (starEach [e] X.env)).all (fun x => !x.1) && (backToKw cpos (keywordEach [] X.env)).all (fun x => x.1.isSome)
    && decide (([e] : List Expr).length + ([] : List Keyword).length + (if ([] : List Keyword).isEmpty then 0 else 1) < 30)) = true
  line : (apos.endLine == cpos.line) = true
  trees : backTo cpos (starEach [e] X.env) = [(false, eval e X.env)]
def IsD (H : Hp) (a : Addr) : Prop := (∃ kvs, Rd H a (.dK kvs)) ∨ ∃ kvs, Rd H a (.dT kvs)
theorem isD_at {X : Cx} {pins : List (Addr × Obj)} {σ : St} {H : Hp} {s : Shared} {a : Addr} (I : Inv X pins σ H s) (d : IsD H a) :
    s.TypeIs (.ref a) "dict" ∧ (∀ b, Value.ref a = .ref b → ∃ ob, s.heap.get? b = some ob ∧ ob.dict = none) ∧ (a == sysModules) = false := by
  rcases d with ⟨kvs, e⟩ | ⟨kvs, e⟩
  · obtain ⟨_, hd, vs, _, dd⟩ := dk_rd I.hok e
    refine ⟨dd.typeIs, fun b q => ?_, hd⟩
    cases q
    obtain ⟨ob, _, _, h1, h2, _⟩ := dd
    exact ⟨ob, h1, h2.2.1⟩
  · obtain ⟨_, hd, xs, _, dd⟩ := dt_rd I.hok e
    refine ⟨dd.typeIs, fun b q => ?_, hd⟩
    cases q
    obtain ⟨ob, _, _, h1, h2, _⟩ := dd
    exact ⟨ob, h1, h2.2.1⟩
section
variable {X : Cx} {pins : List (Addr × Obj)} {σ : St} {H : Hp} {s : Shared} {a : Addr} {y d : V} {u r : Value} {o : Option V} {A : Around} {E : Value → Shared → Prop}
theorem d_get1 {Q : Value → Shared → Prop} (hu : A.units + 1 < cLine) (I : Inv X pins σ H s) (g : DGet H a y o) (ry : RelV y u) (h : ∀ w' s', Inv X pins σ H s' → RelV (o.getD .non) w' → Q w' s') :
    wpAny (model X.prog X.w) A (call (.builtin "dict.get") [.ref a, u]) Q E s := by
  rcases g with ⟨kvs, k, e, ey, l⟩ | ⟨kvs, k, b, e, ey, eb, l⟩
  · subst ey
    obtain ⟨z, hd, vs, rel, dd⟩ := dk_rd I.hok e
    refine call_meetsIn PySem.F.slot_dict_get dd.typeIs PySem.F.entry_dict_get (PySem.F.args_dict_get_2 _ _) (meets_dict_get (mixKind X.prog X.w) a (kV_is ry) hd) ⟨_, dd.mapOf, h _ _ (I.tok _) ?_⟩
    rw [l]
    exact (rel.val k).getD rfl
  · subst ey
    cases (show u = Value.ref b from ry)
    obtain ⟨z, hd, xs, rel, dd⟩ := dt_rd I.hok e
    refine call_meetsIn PySem.F.slot_dict_get dd.typeIs PySem.F.entry_dict_get (PySem.F.args_dict_get_2 _ _) (meetsH_dict_get (tupleKind (mixKind X.prog X.w)) a b hd) ⟨tupleKind_room_in1 hu, k, xs, key_of I.hok eb, dd, h _ _ (I.tok _) ?_⟩
    rw [l]
    exact (rel.val k).getD rfl
end
def tDGet1 (td ty : TE) : TE := fun σ H Q => td σ H fun x H1 => ∃ a, x = .ref a ∧ IsD H1 a ∧ ty σ H1 fun y H2 => ∃ o, DGet H2 a y o ∧ Q (o.getD .non) H2
section
variable {X : Cx} {o e f : Expr} {apos cpos : Pos} {td ty tx : TE}
theorem pe_dget1 (hu : X.A.units + 1 < cLine) (ho : PE X o td) (he : PE X e ty) (m : M1 X o "get" apos e cpos) : PE X (.Call (.Attribute o "get" apos) [e] [] cpos) (tDGet1 td ty) := by
  intro pins s σ H Q I h
  refine wpAny_Call_method m.base m.few m.line PySem.F.plainAttrs_dict PySem.F.slot_dict_get PySem.F.type_dict_get (thn (ho pins s σ H _ I h) fun u s1 ⟨x, H1, I1, rx, a, ex, d, q1⟩ => ?_)
  subst ex
  obtain rfl : u = Value.ref a := rx
  obtain ⟨t1, t2, _⟩ := isD_at I1 d
  refine ⟨t1, t2, ?_⟩
  rw [m.trees]
  refine Calls.callWith_builtin rfl (Calls.evalArgs_plain (Calls.spliced_cons (thn (he pins s1 σ H1 _ I1 q1) fun iv s2 ⟨y, H2, I2, ry, ov, g, q2⟩ => Calls.spliced_nil ?_)))
  exact d_get1 hu I2 g ry fun w' s3 I3 rw' => ⟨_, H2, I3, rw', q2⟩
end
section
variable {X : Cx} {pins : List (Addr × Obj)} {σ : St} {H : Hp} {s : Shared} {a : Addr} {kvs : List (Key × V)} {A : Around} {E : Value → Shared → Prop}
end
section
variable {X : Cx} {pins : List (Addr × Obj)} {σ : St} {H : Hp} {s : Shared} {a : Addr} {y : V} {u : Value} {A : Around} {E : Value → Shared → Prop}
end
end L2
set_option Elab.async false
set_option linter.all false
set_option maxRecDepth 100000
namespace L2
open PySem PySem.Spec PyProof.Rows
section
variable {X : Cx} {e o value : Expr} {f : Str} {ta tv : TE} {pos pos' : Pos}
def gFld (K : PySem.W.Frag) (f : Str) : V → Hp → VK → Prop
  | .ref p, H, Q => ∃ C dx fs v, H p = some (.ins C dx fs) ∧ Cls K C ∧ NoAttr K C f ∧ fs.lookup f = some v ∧ Q v H
  | _, _, _ => False
def tFldG (K : PySem.W.Frag) (ta : TE) (f : Str) : TE := fun σ H Q => ta σ H fun x H1 => gFld K f x H1 Q
theorem pe_fldK (K : PySem.W.Frag) (he : PE X e ta) (hK : X.K = K := by rfl) (hb : attributeBase e f X.env (eval e X.env) = eval e X.env := by rfl) : PE X (.Attribute e f pos) (tFldG K ta f) := by
  subst hK
  intro pins s σ H Q I h
  refine attr_of hb (thn (he pins s σ H _ I h) fun u s1 ⟨x, H1, I1, rx, q⟩ => ?_)
  dsimp only at q
  unfold gFld at q
  split at q
  · rename_i a
    obtain ⟨C, dx, fs, v, ea, c, n, l, q⟩ := q
    obtain rfl : u = Value.ref a := rx
    exact getattr_ok I1 ea c n l fun u' s2 I2 ru => ⟨v, H1, I2, ru, q⟩
  · exact q.elim
def gPutF (K : PySem.W.Frag) (f : Str) (y : V) : V → Hp → (Hp → Prop) → Prop
  | .ref p, H, Q => ∃ C dx fs, H p = some (.ins C dx fs) ∧ Cls K C ∧ NoAttr K C f ∧ fs.length < 1000 ∧ Q (upd H p (.ins C dx (putF f y fs)))
  | _, _, _ => False
def sFldG (K : PySem.W.Frag) (ta tv : TE) (f : Str) : TS := fun D σ H => tv σ H fun y H1 => ta σ H1 fun x H2 => gPutF K f y x H2 fun H3 => D.nx σ H3
theorem ps_fldK (K : PySem.W.Frag) (ha : PE X o ta) (hv : PE X value tv) (hK : X.K = K := by rfl) (hs : swapsWith value (some (.Attribute o f pos')) pos.line X.env = pure false := by rfl) : PS X (.Assign [.Attribute o f pos'] value pos) (sFldG K ta tv f) := by
  subst hK
  intro pins s σ H D I h
  refine plainObj_wpAny_Assign_Attribute (thn (hv pins s σ H _ I h) fun u s1 ⟨y, H1, I1, ry, q⟩ => thn (ha pins s1 σ H1 _ I1 q) fun ov s2 ⟨x, H2, I2, rx, q2⟩ => ?_) hs
  dsimp only at q2
  unfold gPutF at q2
  split at q2
  · rename_i a
    obtain ⟨C, dx, fs, ea, c, n, l, q2⟩ := q2
    obtain rfl : ov = Value.ref a := rx
    exact setattr_ok I2 ea c n l ry fun s3 I3 => ⟨σ, _, I3, q2⟩
  · exact q2.elim
end
section
variable {X : Cx} {CX : CXT} {k : Nat} {f C : Addr} {fd : FuncData} {ps : List Str} {sp : Sp} {dvs : List V} {ds : List Value} {E : XKs} {x m : Str} {p pos apos : Pos} {e o : Expr} {es : List Expr} {ta : TE} {t : TA}
def gMeth (C : Addr) (m : Str) : V → Hp → (V → Prop) → Prop
  | .ref p, H, Q => ∃ dx fs, H p = some (.ins C dx fs) ∧ fs.lookup m = none ∧ Q (.ref p)
  | _, _, _ => False
def tMethX (C : Addr) (m : Str) (sp : Sp) (dvs : List V) (E : XKs) (ta : TE) (t : TA) : TE := fun σ H Q => ta σ H fun x0 H1 => gMeth C m x0 H1 (fun x => t σ H1 fun vs H2 => sp (x :: (vs ++ dvs)) H2 Q (E σ))
theorem pe_methX {pl : Sem Bool} (he : PE X o ta) (c : Cls X.K C) (hm : Meth X.K C m f) (F : FnOk X.prog X.w X.K X.mg X.base CX k f fd ps sp) (hr : Room k X.A) (hb : Binds X.K fd ps ds) (hd : Vals dvs ds) (hx : Passes' CX X E) (ha : PA X (e :: es) t)
    (hst : starEach (e :: es) X.env = (false, eval e X.env) :: starEach es X.env := by rfl) (hpl : (backTo pos (starEach es X.env)).any (·.1) = false := by rfl)
    (ht : eval (.Call (.Attribute o m apos) (e :: es) [] pos) X.env = (do
      let ov ← eval o X.env
      standAt apos.atName
      let (f, first) ← holding [ov] (getMethod ov m pl)
      callWith pos f first (backTo pos (starEach (e :: es) X.env)) (backToKw pos (keywordEach [] X.env))) := by rfl) :
    PE X (.Call (.Attribute o m apos) (e :: es) [] pos) (tMethX C m sp dvs E ta t) := by
  intro pins s σ H Q I h
  refine PySem.W.methodCall_KW (pl := pl) (thn (he pins s σ H _ I h) fun u s1 ⟨xo, H1, I1, rx, q⟩ => ?_) ht
  dsimp only at q
  unfold gMeth at q
  split at q
  · rename_i a
    obtain ⟨dx, fs, ea, l, q⟩ := q
    obtain rfl : u = Value.ref a := rx
    refine getmeth_ok I1 ea c hm l ?_
    refine PySem.W.callWith_K (first := [.ref a]) (h₀ := X.base) I.ok.mod.kin hm.kp (thn (ha pos pins s1 σ _ _ I1 q) fun us s2 ⟨vs, H2, I2, r, q2⟩ => ⟨I2.kIn, ?_⟩) hst hpl
    exact run_fnX (us := .ref a :: us) (vs := .ref a :: vs) F hr hb hd hx I2 (.cons rfl r) q2
  · exact q.elim
theorem pe_methX0 {pl : Sem Bool} (he : PE X o ta) (c : Cls X.K C) (hm : Meth X.K C m f) (F : FnOk X.prog X.w X.K X.mg X.base CX k f fd ps sp) (hr : Room k X.A) (hb : Binds X.K fd ps ds) (hd : Vals dvs ds) (hx : Passes' CX X E)
    (ht : eval (.Call (.Attribute o m apos) [] [] pos) X.env = (do
      let ov ← eval o X.env
      standAt apos.atName
      let (f, first) ← holding [ov] (getMethod ov m pl)
      callWith pos f first (backTo pos (starEach [] X.env)) (backToKw pos (keywordEach [] X.env))) := by rfl) :
    PE X (.Call (.Attribute o m apos) [] [] pos) (tMethX C m sp dvs E ta tNil) := by
  intro pins s σ H Q I h
  refine PySem.W.methodCall_KW (pl := pl) (thn (he pins s σ H _ I h) fun u s1 ⟨xo, H1, I1, rx, q⟩ => ?_) ht
  dsimp only at q
  unfold gMeth at q
  split at q
  · rename_i a
    obtain ⟨dx, fs, ea, l, q⟩ := q
    obtain rfl : u = Value.ref a := rx
    refine getmeth_ok I1 ea c hm l ?_
    exact PySem.W.callWith_K0 (first := [.ref a]) I1.kIn hm.kp (run_fnX (us := [.ref a]) (vs := [.ref a]) F hr hb hd hx I1 (.cons rfl .nil) q)
  · exact q.elim
def tMakeX (C : Addr) (sp : Sp) (dvs : List V) (E : XKs) (t : TA) : TE := fun σ H Q => t σ H fun vs H1 => ∀ x dx, H1 x = none → H1 dx = none → dx ≠ x →
  sp (.ref x :: (vs ++ dvs)) (upd (upd H1 dx (.own x)) x (.ins C dx [])) (fun v H2 => v = .non ∧ Q (.ref x) H2) (E σ)
theorem run_makeX {pins : List (Addr × Obj)} {σ : St} {H : Hp} {s : Shared} {Q : VK} {us : List Value} {vs : List V} (M : Mk X.K C f) (F : FnOk X.prog X.w X.K X.mg X.base CX k f fd ps sp) (hr : Room (k + 1) X.A) (hb : Binds X.K fd ps ds) (hd : Vals dvs ds)
    (hx : Passes' CX X E) (I : Inv X pins σ H s) (r : Vals vs us)
    (h : ∀ x dx, H x = none → H dx = none → dx ≠ x → sp (.ref x :: (vs ++ dvs)) (upd (upd H dx (.own x)) x (.ins C dx [])) (fun v H2 => v = .non ∧ Q (.ref x) H2) (E σ)) :
    wpAny (model X.prog X.w) X.A (call (.ref C) us) (EP X pins σ Q) X.xe s := by
  have hq := h (s.heap.objs.size + 1) s.heap.objs.size (I.hok.fresh (Nat.le_succ _)) (I.hok.fresh (Nat.le_refl _)) (Nat.ne_of_lt (Nat.lt_succ_self _))
  have I2 := Inv.made (C := C) I
  have r2 : Vals (V.ref (s.heap.objs.size + 1) :: (vs ++ dvs)) (Value.ref (s.heap.objs.size + 1) :: (us ++ ds)) := .cons rfl (r.append hd)
  have hl : (Value.ref (s.heap.objs.size + 1) :: us ++ ds).length = ps.length := by
    have e := r2.length
    rw [F.len _ _ _ _ hq] at e
    exact e.symm
  refine wpAny_call (make_map (f := f) I.kIn M.makes M.init (beq_iff_eq.mp M.fn) (codeAny_mono (F.run _ X.stack _ _ ⟨Value.ref (s.heap.objs.size + 1) :: us, []⟩ (Value.ref (s.heap.objs.size + 1) :: (us ++ ds)) _ _ (E σ) (hr.make C us [])
    (I2.env0.make C us []) (hb _ (Value.ref (s.heap.objs.size + 1) :: us) I2.kIn hl) r2 hq) fun r s' hq' => ?_))
  cases r with
  | error e => exact hx pins σ _ _ e s' I2 hq'
  | ok fl =>
    cases fl with
    | ret u =>
      obtain ⟨v, H', I3, rv, ev, q3⟩ := I2.after hq'
      subst ev
      exact ⟨rv, ⟨V.ref (s.heap.objs.size + 1), H', I3, rfl, q3⟩⟩
    | next => exact False.elim hq'
    | brk => exact False.elim hq'
    | cont => exact False.elim hq'
theorem pe_makeX0 (M : Mk X.K C f) (F : FnOk X.prog X.w X.K X.mg X.base CX k f fd ps sp) (hr : Room (k + 1) X.A) (hg : Gl X x) (hm : X.mg x = some (.ref C)) (hb : Binds X.K fd ps ds) (hd : Vals dvs ds) (hx : Passes' CX X E)
    (hdb : (x == ("__debug__" : Str)) = false := by decide) : PE X (.Call (.Name x p) [] [] pos) (tMakeX C sp dvs E tNil) := by
  intro pins s σ H Q I h
  refine wpAny_Call_Name_kw (ld_glob I hg hm ?_ hdb)
  exact PySem.W.callWith_K0 I.kIn M.kp (run_makeX (us := []) M F hr hb hd hx I .nil h)
end
end L2
set_option Elab.async false
set_option linter.all false
set_option maxRecDepth 100000
namespace L2
open PySem PySem.Spec PyProof.Rows
def tCompT (wi : TI) (n : Nat) (g : TG) (ks : List Nat) (tt : TT) (te : TE) : TE := fun σ H Q => wi σ H fun J H1 => ∀ D, H1 D = none → ∃ W : Nat → Nat → List V → Hp → Prop, (∃ m, W 0 m [] (upd H1 D (.lst []))) ∧
  ∀ i m ys H2, W i m ys H2 → H2 D = some (.lst ys) ∧ ((J.stop i H2 ∧ Q (.ref D) H2) ∨ (J.go i H2 ∧ ∀ x H3, J.yld i H2 x H3 → ∀ zs : St, zs.length = n →
    g x (zs ++ ks.map fun k => (σ[k]?).join) H3 fun σ4 H4 => (∃ zs4 : St, zs4.length = n ∧ σ4 = zs4 ++ ks.map fun k => (σ[k]?).join) ∧
      tt σ4 H4 fun b H5 => if b = true then te σ4 H5 fun y H6 => H6 D = some (.lst ys) ∧ ys.length < sizeLine ∧ ∃ m', m' < m ∧ W (i + 1) m' (ys ++ [y]) (upd H6 D (.lst (ys ++ [y])))
        else ∃ m', m' < m ∧ W (i + 1) m' ys H5))
theorem comp_runT {X : Cx} {elt iter : Expr} {x : Str} {xs : List Str} {tg : Expr} {g : TG} {pos : Pos} {ifs : List Expr} {scope : Scope} {cl : List (Str × Addr)} {fr : List Str} {ks : List Nat} {wi : TI} {tt : TT} {te : TE} (hc : X.calm = true) (S : CompScope X scope cl x fr)
    (hks : ks.map (fun k => X.N[k]?) = fr.map some) (hi : PI X tg iter wi) (hg : ∀ C s₂ H₂ ex pn, PG (compCx X (xs ++ fr) scope cl C s₂ H₂ ex pn) tg g)
    (ht : ∀ C s₂ H₂ ex pn, PTs (compCx X (xs ++ fr) scope cl C s₂ H₂ ex pn) ifs tt) (he : ∀ C s₂ H₂ ex pn, PE (compCx X (xs ++ fr) scope cl C s₂ H₂ ex pn) elt te)
    (hs : ∀ x, foldedSetIterable iter X.env x = pure x := by intro _; rfl)
    {pins : List (Addr × Obj)} {s : Shared} {σ : St} {H : Hp} {Q : VK} (I : Inv X pins σ H s) (h : tCompT wi xs.length g ks tt te σ H Q) (use : Option (Value → Sem Unit)) (Qp : Value → Shared → Prop)
    (hend : ∀ (D C : Addr) (H' : Hp) (s' : Shared) (mC : Str → Option Value) (f : Flow), Inv X pins σ H' s' → FpOk X pins H' C → s'.heap.Ns C mC → Q (.ref D) H' → compPost (model X.prog X.w) X.A X.xe use Qp (.ref D) C (.ok f) s') :
    wpAny (model X.prog X.w) X.A (comprehension (.ListComp elt [⟨tg, iter, ifs, 0⟩] scope pos) scope X.env (firstIterPos [⟨tg, iter, ifs, 0⟩] pos) (newList []) false (firstIter [⟨tg, iter, ifs, 0⟩] X.env) use) Qp X.xe s := by
  refine wpAny_comprehension_free (use := use) rfl hs S.clos S.kind S.names (thn (hi pins s σ H _ I h) fun v s1 h1 => thn h1 fun itv s2 h2 => ?_)
  obtain ⟨it, fp, tn, J, H2, e, I2, T, st2, f2, hW⟩ := h2
  subst e
  refine wpAny_newObj_type (wpAny_newFunctionEnv S.nocell (by intro y hy; simp at hy) (fun h₁ hns₁ hsb₁ => ?_) S.kind)
  dsimp only at hns₁ hsb₁ ⊢
  have hD0 : H2 s2.heap.objs.size = none := I2.hok.fresh (Nat.le_refl _)
  obtain ⟨W, ⟨m0, w0⟩, turn⟩ := hW s2.heap.objs.size hD0
  generalize hs3 : s2.heap.push { cls := .type "list", dict := none, data := .seq ([] : List Value).toArray } = g3 at hns₁ hsb₁ ⊢
  have hsz3 : g3.objs.size = s2.heap.objs.size + 1 := by rw [← hs3, Heap.size_push]
  have up3 : ∀ b o, s2.heap.get? b = some o → g3.get? b = some o := fun b o e => by rw [← hs3]; exact Heap.get?_push_of_some _ e
  have gD : g3.get? s2.heap.objs.size = some { cls := .type "list", dict := none, data := .seq ([] : List Value).toArray } := by rw [← hs3]; exact Heap.get?_push_size _ rfl
  have I3 : Inv X pins σ (upd H2 s2.heap.objs.size (.lst [])) { s2 with heap := g3 } := I2.laid (t' := s2.toks) up3 (Nat.le_refl _) ⟨by simp, [], 0, .nil, gD⟩
  have keep4 : ∀ b o, g3.get? b = some o → h₁.get? b = some o := fun b o e => (hsb₁.2 b (Nat.ne_of_lt (Heap.lt_size e))).trans (Heap.get?_push_of_some _ e)
  have hCn : (upd H2 s2.heap.objs.size (.lst [])) g3.objs.size = none := I3.hok.fresh (Nat.le_refl _)
  have fpD : ∀ b ∈ fp, b ≠ s2.heap.objs.size := fun b hb z => by
    obtain ⟨o, e, _⟩ := T.obj 0 _ st2 b hb
    exact absurd (Heap.lt_size e) (by rw [z]; exact Nat.lt_irrefl _)
  have fpC : ∀ b ∈ fp, b ≠ g3.objs.size := fun b hb z => by
    obtain ⟨o, e, _⟩ := T.obj 0 _ st2 b hb
    exact absurd (Heap.lt_size (up3 b o e)) (by rw [z]; exact Nat.lt_irrefl _)
  have fpN : ∀ b ∈ fp, (upd H2 s2.heap.objs.size (.lst [])) b = none := fun b hb => by rw [upd_ne (fpD b hb)]; exact (f2 b hb).1
  have Ok : (compCx X (xs ++ fr) scope cl g3.objs.size { s2 with heap := g3 } (upd H2 s2.heap.objs.size (.lst [])) fp (X.pn ++ pins)).Ok := by
    refine ⟨I.ok.mod, S.kind, I.ok.glob, I.ok.blt, Nat.le_refl _, fun y z c e1 e2 => I.ok.inj y z c (S.sub e1) (S.sub e2), fun y hy => ?_, (fun y c z => nomatch z), I.ok.hd, I.ok.frames, .inl rfl, fun b hb => ⟨fpC b hb, fun y c e => (f2 b hb).2.2.2.2.1 y c (S.sub e)⟩, I3.bs, Nat.le_trans I.ok.bsz I3.sz, fun b o e hb => ?_, fun b hb z => ?_, I3.stack, I3.stkFree⟩
    · have hy' : y ∈ fr := S.only y hy
      obtain ⟨c, e⟩ := I.ok.has y (S.kinds y hy')
      exact ⟨c, (S.cell hy').trans e⟩
    · rcases (f2 b hb).2.2.2.1 with q | q
      · exact I.ok.noex b o e q
      · exact absurd (Heap.lt_size e) (Nat.not_lt.mpr (Nat.le_trans I.ok.bsz q))
    · rcases List.mem_cons.mp (I3.stkSub b z) with q | q
      · exact (f2 b hb).2.1 q
      · exact (f2 b hb).2.2.1 q
  have I4 : Inv (compCx X (xs ++ fr) scope cl g3.objs.size { s2 with heap := g3 } (upd H2 s2.heap.objs.size (.lst [])) fp (X.pn ++ pins)) [] ((xs.map fun _ => none) ++ ks.map fun k => (σ[k]?).join) (upd H2 s2.heap.objs.size (.lst [])) { s2 with heap := h₁, toks := s2.toks + ([] : List (Str × Value)).length } := by
    refine ⟨Ok, rfl, I3.bare, Un.kept keep4, ⟨_, hns₁, fun i y v e1 e2 e3 => ?_⟩, fun y c e => ?_, hCn, fun y c e => I3.freeC y c (S.sub e), fun p hp => ?_, I3.hok.kept keep4, ?_⟩
    · have e1' : (xs ++ fr)[i]? = some y := e1
      by_cases hix : i < xs.length
      · rw [List.getElem?_append_left (by simpa using hix)] at e2
        simp [hix] at e2
      · obtain ⟨i, rfl⟩ : ∃ i', i = xs.length + i' := ⟨i - xs.length, by omega⟩
        rw [List.getElem?_append_right (by omega)] at e1'
        rw [List.getElem?_append_right (by simp)] at e2
        have e1' : fr[i]? = some y := by simpa using e1'
        have e2 : (ks.map fun k => (σ[k]?).join)[i]? = some (some v) := by simpa using e2
        have hy : y ∈ fr := List.mem_of_getElem? e1'
        have ek : (ks.map (fun k => X.N[k]?))[i]? = (fr.map some)[i]? := by rw [hks]
        rw [List.getElem?_map, List.getElem?_map, e1'] at ek
        have e2' := e2
        rw [List.getElem?_map] at e2'
        cases hk : ks[i]? with
        | none => rw [hk] at ek; cases ek
        | some k =>
          rw [hk] at ek e2'
          have ek' : X.N[k]? = some y := by simpa using ek
          have e2'' : (σ[k]?).join = some v := by simpa using e2'
          have es : σ[k]? = some (some v) := by
            cases q : σ[k]? with
            | none => rw [q] at e2''; cases e2''
            | some z => rw [q] at e2''; rw [show z = some v from e2'']
          obtain ⟨m, hn, hl⟩ := I3.loc
          have hkd := S.kinds y hy
          obtain ⟨u, r, lk⟩ := hl k y v ek' es (by rcases hkd with q | q; exact .inr (.inl q); exact .inr (.inr q))
          refine ⟨u, r, .inr ⟨S.kin y hy, ?_⟩⟩
          rcases lk with ⟨q, _⟩ | ⟨_, c, ec, hcell⟩
          · rcases hkd with z | z <;> (rw [q] at z; cases z)
          · obtain ⟨o, ho, hd⟩ := hcell
            exact ⟨c, (S.cell hy).trans ec, o, keep4 _ _ ho, hd⟩
    · obtain ⟨v, o, ho, hd⟩ := I3.cell y c (S.sub e)
      exact ⟨v, o, keep4 _ _ ho, hd⟩
    · have hp' : p ∈ X.pn ++ pins := by simpa [compCx] using hp
      obtain ⟨a1, a2, a3, a4, a5⟩ := I3.pin p hp'
      refine ⟨keep4 _ _ a1, a2, Nat.ne_of_lt (Heap.lt_size a1), fun z => ?_, a5⟩
      rcases List.mem_cons.mp (I3.stkSub p.1 z) with q | q
      · exact a3 q
      · exact a4 q
    · show ((xs.map fun _ => none) ++ ks.map _).length = (xs ++ fr).length
      have := congrArg List.length hks
      simp at this
      simp [this]
  have st4 : tn 0 h₁ := T.keep 0 _ _ st2 fun b hb o e => keep4 _ _ (up3 _ _ e)
  have stat : ∀ {H' : Hp}, (∀ b ∈ fp, H' b = none) → ∀ b ∈ fp, FpOk (compCx X (xs ++ fr) scope cl g3.objs.size { s2 with heap := g3 } (upd H2 s2.heap.objs.size (.lst [])) fp (X.pn ++ pins)) [] H' b := fun hn b hb =>
    ⟨hn b hb, fpC b hb, Ok.exfs b hb, .inl hb, fun y c e => (f2 b hb).2.2.2.2.1 y c (S.sub e), fun p hp => (f2 b hb).2.2.2.2.2 p (by simpa [compCx] using hp)⟩
  have loop : codeAny (model X.prog X.w) X.A (.compLoop (.ListComp elt [⟨tg, iter, ifs, 0⟩] scope pos) 0 (.ref it) (.ref s2.heap.objs.size) (compEnvC scope cl g3.objs.size X.env))
      (compPost (model X.prog X.w) X.A X.xe use Qp (.ref s2.heap.objs.size) g3.objs.size) { s2 with heap := h₁, toks := s2.toks + ([] : List (Str × Value)).length } := by
    refine compLoop_any (fun n s' => ∃ i ys σ' H', Inv (compCx X (xs ++ fr) scope cl g3.objs.size { s2 with heap := g3 } (upd H2 s2.heap.objs.size (.lst [])) fp (X.pn ++ pins)) [] σ' H' s' ∧ (∃ zs, zs.length = xs.length ∧ σ' = zs ++ ks.map fun k => (σ[k]?).join) ∧ tn i s'.heap ∧ (∀ b ∈ fp, H' b = none) ∧ W i n ys H') ?_ m0
      ⟨0, [], _, _, I4, ⟨xs.map fun _ => none, by simp, rfl⟩, st4, fpN, w0⟩
    rintro n s' ⟨i, ys, σ', H', I5, ⟨zs, hzs, rfl⟩, st5, fr5, w5⟩
    obtain ⟨hD, hor⟩ := turn i n ys H' w5
    rcases hor with ⟨stop, qn⟩ | ⟨go, step⟩
    · refine wpAny_mono (T.done (compCx X (xs ++ fr) scope cl g3.objs.size { s2 with heap := g3 } (upd H2 s2.heap.objs.size (.lst [])) fp (X.pn ++ pins)) rfl rfl rfl hc i [] s' _ H' (fun _ _ => False) I5 (stat fr5) st5 stop) (fun r s6 ⟨hr, I6⟩ => ?_) (fun _ _ f => f.elim)
      subst hr
      obtain ⟨mC, hnC, _⟩ := I6.loc
      have tr : ∀ b o, b ≠ g3.objs.size → s6.heap.get? b = some o → s6.heap.get? b = some o := fun b o hb e => e
      have U := I6.base
      have neC : ∀ b o, g3.get? b = some o → b ≠ g3.objs.size := fun b o e => Nat.ne_of_lt (Heap.lt_size e)
      have U' : Un (frs X.stack) fp (upd H2 s2.heap.objs.size (.lst [])) H' g3 s6.heap := ⟨fun b o q n hb hx => tr b o (neC b o q) (U.keep b o q n hb hx), fun b o q n hb hx => let ⟨sl, e⟩ := U.slot b o q n hb hx; ⟨sl, tr _ _ (neC b o q) e⟩, U.free, fun b o q hx => let ⟨o', e⟩ := U.there b o q hx; ⟨o', tr _ _ (neC b o q) e⟩, U.tups, U.frzs, U.tbls⟩
      have ok' : HOk X.prog X.w H' s6.heap := fun a o e => (I6.hok a o e).stay (fun b u hb q => tr b u (fun z => by
          have fC : H' g3.objs.size = none := I6.free
          rcases hb with r | r
          · rw [← z, r, e] at fC; cases fC
          · rw [← z, r] at fC; cases fC) q) (fun _ q => q) fun _ _ q => q
      have J6 : Inv X pins σ H' s6 := I3.call' (s' := s6) (ch := fp) I6.os U' ok' I6.bare fun b hb => ⟨(f2 b hb).2.2.2.1, (f2 b hb).2.1, (f2 b hb).2.2.2.2.1, (f2 b hb).2.2.2.2.2⟩
      exact hend s2.heap.objs.size g3.objs.size H' s6 mC _ J6 (I3.fpOk (Nat.le_refl _) I6.free) hnC qn
    · refine wpAny_mono (T.item (compCx X (xs ++ fr) scope cl g3.objs.size { s2 with heap := g3 } (upd H2 s2.heap.objs.size (.lst [])) fp (X.pn ++ pins)) rfl rfl rfl hc i [] s' _ H' (fun _ _ => False) I5 (stat fr5) st5 go) (fun r s6 ⟨u, hr, h6⟩ => ?_) (fun _ _ f => f.elim)
      subst hr
      refine wpAny_mono h6 (fun _ s7 ⟨xv, H7, I7, r7, y7, st7, fr7⟩ => ?_) (fun _ _ f => f.elim)
      have I7' := I7.pinned (stat fr7) (T.obj _ _ st7)
      have pinsTo : ∀ {σ9 : St} {H9 : Hp} {s9 : Shared}, Inv (compCx X (xs ++ fr) scope cl g3.objs.size { s2 with heap := g3 } (upd H2 s2.heap.objs.size (.lst [])) fp (X.pn ++ pins)) ([] ++ pinsAt fp s7.heap) σ9 H9 s9 → tn (i + 1) s9.heap ∧ ∀ b ∈ fp, H9 b = none := fun {σ9 H9 s9} I9 =>
        ⟨T.keep _ _ _ st7 fun b hb o e => (I9.pin (b, o) (List.mem_append_right _ (List.mem_append_right _ (mem_pinsAt hb e)))).1, fun b hb => by
          obtain ⟨o, e, d⟩ := T.obj _ _ st7 b hb
          exact (I9.pin (b, o) (List.mem_append_right _ (List.mem_append_right _ (mem_pinsAt hb e)))).2.1⟩
      refine wpAny_mono (hg _ _ _ _ _ _ s7 _ H7 xv u _ I7' r7 (step xv H7 y7 zs hzs)) (fun _ s8 ⟨σ8, H8, I8, ⟨zs4, hz4, e8⟩, q8⟩ => ?_) (fun _ _ f => f.elim)
      subst e8
      refine wpAny_mono (ht _ _ _ _ _ _ s8 _ H8 _ I8 q8) (fun ok s9 ⟨H9, I9, q9⟩ => ?_) (fun _ _ f => f.elim)
      cases ok with
      | false =>
        rw [if_neg Bool.false_ne_true] at q9 ⊢
        obtain ⟨m', hm, w9⟩ := q9
        obtain ⟨t9, f9⟩ := pinsTo I9
        exact ⟨m', hm, i + 1, ys, _, H9, I9.unpinned, ⟨zs4, hz4, rfl⟩, t9, f9, w9⟩
      | true =>
        rw [if_pos rfl] at q9 ⊢
        refine wpAny_mono (he _ _ _ _ _ _ s9 _ H9 _ I9 q9) (fun yv s10 ⟨y, H10, I10, r10, hD10, hlen, m', hm, w10⟩ => ?_) (fun _ _ f => f.elim)
        refine wpAny_mono (mt_append (X := compCx X (xs ++ fr) scope cl g3.objs.size { s2 with heap := g3 } (upd H2 s2.heap.objs.size (.lst [])) fp (X.pn ++ pins)) _ s10 _ H10 (.ref s2.heap.objs.size) [y] (.ref s2.heap.objs.size) [yv]
          (fun _ H' => H' = upd H10 s2.heap.objs.size (.lst (ys ++ [y]))) I10 rfl (.cons r10 .nil) ⟨_, ys, y, rfl, rfl, hD10, hlen, rfl⟩) (fun _ s11 ⟨_, H11, I11, _, e11⟩ => ?_) (fun _ _ f => f.elim)
        subst e11
        obtain ⟨t11, f11⟩ := pinsTo I11
        exact ⟨m', hm, i + 1, ys ++ [y], _, _, I11.unpinned, ⟨zs4, hz4, rfl⟩, t11, f11, w10⟩
  exact codeAny_compStart_list loop (T.self X.A 0 _ _ _ st4 loop)
theorem pe_compT {X : Cx} {elt iter : Expr} {x : Str} {xs : List Str} {tg : Expr} {g : TG} {pos : Pos} {ifs : List Expr} {scope : Scope} {cl : List (Str × Addr)} {fr : List Str} {ks : List Nat} {wi : TI} {tt : TT} {te : TE} (hc : X.calm = true) (S : CompScope X scope cl x fr)
    (hks : ks.map (fun k => X.N[k]?) = fr.map some) (hi : PI X tg iter wi) (hg : ∀ C s₂ H₂ ex pn, PG (compCx X (xs ++ fr) scope cl C s₂ H₂ ex pn) tg g)
    (ht : ∀ C s₂ H₂ ex pn, PTs (compCx X (xs ++ fr) scope cl C s₂ H₂ ex pn) ifs tt) (he : ∀ C s₂ H₂ ex pn, PE (compCx X (xs ++ fr) scope cl C s₂ H₂ ex pn) elt te)
    (hs : ∀ x, foldedSetIterable iter X.env x = pure x := by intro _; rfl) : PE X (.ListComp elt [⟨tg, iter, ifs, 0⟩] scope pos) (tCompT wi xs.length g ks tt te) := by
  intro pins s σ H Q I h
  rw [eval_ListComp]
  refine comp_runT hc S hks hi hg ht he hs I h none _ fun D C H' s' mC f J fp hn q => ⟨mC, hn, fun h' sb => ?_⟩
  obtain ⟨f0, f1, f2, f3, f4, f5⟩ := fp
  exact ⟨.ref D, H', J.turned (t' := s'.toks) (fun b o hb e => (sb.2 b hb).trans e) f0 f1 f3 f4 f5, rfl, q⟩
theorem comp_enumT {J : It} {vs : List V} {n : Nat} {g : TG} {σr : St} {H1 : Hp} {Q : VK} {tt : TT} {te : TE} (C : Hp → Prop) (E : EnumC C J vs) (zs : V → St) (p : V → Bool) (f : V → V) (hlen : vs.length ≤ sizeLine)
    (hg : ∀ x ∈ vs, ∀ (z0 : St) H (R : St → Hp → Prop), C H → z0.length = n → R (zs x ++ σr) H → g x (z0 ++ σr) H R) (hz : ∀ x ∈ vs, (zs x).length = n)
    (hp : ∀ x ∈ vs, ∀ H (R : Bool → Hp → Prop), C H → R (p x) H → tt (zs x ++ σr) H R) (hf : ∀ x ∈ vs, p x = true → ∀ H (R : VK), C H → R (f x) H → te (zs x ++ σr) H R)
    (D : Addr) (hD : H1 D = none) (hC : ∀ ys, C (upd H1 D (.lst ys))) (q : Q (.ref D) (upd H1 D (.lst ((vs.filter p).map f)))) :
    ∃ W : Nat → Nat → List V → Hp → Prop, (∃ m, W 0 m [] (upd H1 D (.lst []))) ∧
      ∀ i m ys H2, W i m ys H2 → H2 D = some (.lst ys) ∧ ((J.stop i H2 ∧ Q (.ref D) H2) ∨ (J.go i H2 ∧ ∀ x H3, J.yld i H2 x H3 → ∀ z0 : St, z0.length = n →
        g x (z0 ++ σr) H3 fun σ4 H4 => (∃ zs4 : St, zs4.length = n ∧ σ4 = zs4 ++ σr) ∧
          tt σ4 H4 fun b H5 => if b = true then te σ4 H5 fun y H6 => H6 D = some (.lst ys) ∧ ys.length < sizeLine ∧ ∃ m', m' < m ∧ W (i + 1) m' (ys ++ [y]) (upd H6 D (.lst (ys ++ [y])))
            else ∃ m', m' < m ∧ W (i + 1) m' ys H5)) := by
  refine ⟨fun i m ys H2 => i ≤ vs.length ∧ m = vs.length - i ∧ ys = ((vs.take i).filter p).map f ∧ H2 = upd H1 D (.lst ys), ⟨_, Nat.zero_le _, rfl, by simp, rfl⟩, ?_⟩
  rintro i m ys H2 ⟨hi, rfl, rfl, rfl⟩
  refine ⟨upd_same, ?_⟩
  by_cases hlt : i < vs.length
  · refine .inr ⟨E.go i _ (hC _) hlt, fun x H3 hy z0 hz0 => ?_⟩
    obtain ⟨rfl, hx⟩ := E.yld i _ x H3 (hC _) hlt hy
    have hmem : x ∈ vs := List.mem_of_getElem? hx
    have tk : vs.take (i + 1) = vs.take i ++ [x] := by rw [List.take_succ, hx]; rfl
    refine hg x hmem z0 _ _ (hC _) hz0 ⟨⟨zs x, hz x hmem, rfl⟩, hp x hmem _ _ (hC _) ?_⟩
    cases hb : p x with
    | true =>
      rw [if_pos rfl]
      refine hf x hmem hb _ _ (hC _) ⟨upd_same, ?_, vs.length - (i + 1), by omega, by omega, rfl, ?_, ?_⟩
      · have h1 : (((vs.take i).filter p).map f).length ≤ i := by
          rw [List.length_map]
          refine Nat.le_trans (List.length_filter_le _ _) ?_
          rw [List.length_take]; omega
        omega
      · rw [tk, List.filter_append, List.map_append]; simp [hb]
      · rw [upd_upd]
    | false =>
      rw [if_neg (by decide)]
      refine ⟨vs.length - (i + 1), by omega, by omega, rfl, ?_, rfl⟩
      rw [tk, List.filter_append, List.map_append]; simp [hb]
  · have e : i = vs.length := by omega
    subst e
    rw [List.take_length]
    exact .inl ⟨E.stop _ (hC _), q⟩
end L2
set_option Elab.async false
set_option linter.all false
set_option maxRecDepth 100000
namespace L2
open PySem PySem.Spec PyProof.Rows Builtin Builtin.Str
section
variable {prog : Program} {w : World} {A : Around} {E : Value → Shared → Prop} {s : Shared} {t : Addr}
theorem sum_listG {xs : Array (Int × Tok)} {Q : Value → Shared → Prop} (hh : A.handled = none) (ht : s.heap.IsList t (intItems xs))
    (h : ∀ h' tk t', (∀ b o, s.heap.get? b = some o → h'.get? b = some o) → Q (.int (preSum (numAt xs) xs.size) t') { s with heap := h', toks := tk }) :
    wpAny (model prog w) A (call (.builtin "sum") [.ref t]) Q E s := by
  obtain ⟨o, ho, hc, n, hd⟩ := id ht
  have hne : t ≠ s.heap.objs.size := Nat.ne_of_lt (Heap.lt_size ho)
  have hsz : (intItems xs).size = xs.size := by simp [intItems]
  have W := (Walks.list (prog := prog) (w := w) (A := A.in1) hh s.heap.objs.size t hne (intItems xs)).toS
  rw [hsz] at W
  refine call_sum_walkAnyS (wpAny_pyIter_list ht ?_)
  refine ⟨s.heap.objs.size, _, _, _, _, _, _, numAt xs, rfl, W, ⟨⟨_, Heap.get?_push_size _ rfl, rfl, rfl⟩, ht.at fun o e => Heap.get?_push_of_some _ e⟩, fun b hb => ?_, fun i v hP => intItems_at hP, fun s' t' hm => ?_⟩
  · rcases List.mem_cons.mp hb with rfl | hb
    · exact Heap.lt_size (Heap.get?_push_size _ rfl)
    · obtain rfl := List.mem_singleton.mp hb
      exact Heap.lt_size (Heap.get?_push_of_some _ ho)
  · obtain ⟨h', g', d', tk', os'⟩ := s'
    have e1 : g' = s.gens := hm.gens
    have e2 : d' = s.drawn := hm.drawn
    have e3 : os' = s.os := hm.os
    subst e1 e2 e3
    exact h h' tk' t' fun b o e => hm.heap b o (fun hb => absurd (Heap.lt_size e) ((List.mem_singleton.mp hb) ▸ Nat.lt_irrefl _)) (Heap.get?_push_of_some _ e)
end
section
variable {X : Cx} {e a b c : Expr} {pos : Pos}
def gSum (K : PySem.W.Frag) : List V → Hp → VK → Prop
  | [.ref p], H, Q => ∃ ns : List Int, (SqL K H p (ns.map V.int) ∨ SqT K H p (ns.map V.int)) ∧ Q (.int ns.sum) H
  | _, _, _ => False
theorem fc_sumA (K : PySem.W.Frag) (hc : X.calm = true) (hK : X.K = K := by rfl) : CallR X (.builtin "sum") (gSum K) := by
  subst hK
  intro pins s σ H xs us Q I r h
  unfold gSum at h
  split at h
  · rename_i p
    obtain ⟨ns, hq, q⟩ := h
    rcases hq with hq | hq
    · obtain ⟨u, rfl, rx⟩ := vals1 r
      cases (show u = Value.ref p from rx)
      obtain ⟨its, r', pl, hz⟩ := I.list hq
      have hi := intsAre_of r'
      obtain ⟨ys, hy⟩ := hi.allInts.items
      have hn : numsOf its.toArray.toList = ns := by rw [show its.toArray.toList = its from rfl, hi.numsOf]
      have pl' := pl.isList
      rw [hy] at pl' hn
      rw [nums_intItems] at hn
      refine sum_listG (I.ok.hd hc) pl' fun h' tk t' hk => ?_
      rw [preSum_eq, List.take_of_length_le (by simp), hn]
      exact ⟨.int ns.sum, H, I.kept hk, ⟨_, rfl⟩, q⟩
    · exact call_sum_tup hc pins s σ H _ us Q I r ⟨p, ns, rfl, hq, q⟩
  · exact h.elim
def gInL (K : PySem.W.Frag) (neg : Bool) : R2
  | x, .ref p, H, Q => ∃ xs, (SqL K H p xs ∨ SqT K H p xs) ∧ flatV x = true ∧ xs.all flatV = true ∧ Q (.bl (neg ^^ inV x xs)) H
  | _, _, _, _ => False
theorem fo_notinL (K : PySem.W.Frag) (hK : X.K = K := by rfl) : OpR X (compareOp .NotIn) (gInL K true) := by
  subst hK
  refine op_notIn_seq.imp fun x y H Q h => ?_
  unfold gInL at h
  split at h
  · obtain ⟨xs, h1, h2, h3, q⟩ := h
    exact ⟨_, xs, rfl, h1, h2, h3, by simpa using q⟩
  · exact h.elim
def gMulT : R2
  | .str x, .int n, H, Q => ((cs x).length ≤ 1000 ∧ 0 ≤ n ∧ n ≤ 100) ∧ Q (T ((List.replicate n.toNat (cs x)).flatten)) H
  | _, _, _, _ => False
theorem fo_mulT : OpR X (binaryOp .Mult) gMulT := by
  intro pins s σ H x y v u Q I rx ry h
  unfold gMulT at h
  split at h
  · rename_i x n
    obtain ⟨⟨h1, h2, h3⟩, q⟩ := h
    obtain ⟨t, rfl⟩ := rx
    obtain ⟨t', rfl⟩ := ry
    have hl : x.length ≤ 1000 := by simpa [cs, Str.length] using h1
    refine PySem.SB.mul ⟨?_, fun hn _ => ?_, fun hn _ => ?_⟩ fun t2 k => ⟨.str (Txt.mul x n), H, I.tok _, ⟨_, rfl⟩, by rw [mul_eq]; exact q⟩
    · rw [decide_eq_false (by omega), decide_eq_false (by omega)]; rfl
    · have h5 : (1000 : Int) ≤ (2 ^ 63 - 1) / n := by
        rw [Int.le_ediv_iff_mul_le (by omega)]; omega
      omega
    · have h4 : x.length * n.toNat ≤ 1000 * 100 := Nat.mul_le_mul hl (show n.toNat ≤ 100 by omega)
      unfold tooLong
      exact decide_eq_false (by rw [sizeLine_eq]; omega)
  · exact h.elim
section
variable {T name id : String} {r : V → List V → Hp → VK → Prop} {o : Expr} {to : TE} {apos cpos : Pos}
theorem pe_bm0K (K : PySem.W.Frag) (pa : PlainAttrs T) (slot : Slot T name id) (hty : typeOf (.builtin id) = pure (.type "method_descriptor")) (hm : MtR X id r) (ho : PE X o to) (hK : X.K = K := by rfl)
    (hbase : attributeBase o name X.env (eval o X.env) = eval o X.env := by rfl) (hline : (apos.endLine == cpos.line) = true := by rfl) : PE X (.Call (.Attribute o name apos) [] [] cpos) (tBM0 K T r to) := by
  subst hK; exact pe_bm0 pa slot hty hm ho hbase hline
end
end
end L2
namespace L2
theorem nd_of {l : List PySem.Str} (h : l.Nodup) : l.Nodup := h
end L2
namespace L2
def sp5 (f : V → V → V → V → V → Hp → VK → XK → Prop) : Sp := fun vs H Q E => match vs with
  | [x, y, z, u, v] => f x y z u v H Q E
  | _ => False
theorem sp5.inv {vs : List V} {H : Hp} {Q : VK} {E : XK} {f} (h : sp5 f vs H Q E) : ∃ x y z u v, vs = [x, y, z, u, v] ∧ f x y z u v H Q E := by
  unfold sp5 at h; split at h
  · exact ⟨_, _, _, _, _, rfl, h⟩
  · exact h.elim
theorem sp5.len {vs : List V} {H : Hp} {Q : VK} {E : XK} {f} (h : sp5 f vs H Q E) : vs.length = 5 := by obtain ⟨_, _, _, _, _, rfl, _⟩ := sp5.inv h; rfl
theorem lk_hit {n : PySem.Str} {v : V} {l : List (PySem.Str × V)} : List.lookup n ((n, v) :: l) = some v := by simp [List.lookup]
theorem lk_miss {n m : PySem.Str} {v : V} {l : List (PySem.Str × V)} (h : (n == m) = false) : List.lookup n ((m, v) :: l) = List.lookup n l := by simp [List.lookup, h]
end L2
set_option Elab.async false
set_option linter.all false
set_option maxRecDepth 100000
set_option maxHeartbeats 1000000
namespace L2
open PySem PySem.Spec PyProof.Rows
structure RoomC (k : Nat) (A : Around) : Prop where
  dp : A.depth + 3 * k + 5 < recursionLimit
  un : A.units + 16 * k + 200 < cLine
theorem RoomC.mono {j k : Nat} {A : Around} (r : RoomC k A) (h : j ≤ k) : RoomC j A := ⟨by have := r.dp; omega, by have := r.un; omega⟩
theorem RoomC.deeper {k : Nat} {A : Around} (r : RoomC (k + 1) A) (env : Env) : RoomC k (A.deeper env) :=
  ⟨by have := r.dp; show A.depth + 1 + 3 * k + 5 < _; omega, by have := r.un; show A.units + 3 + 16 * k + 200 < _; omega⟩
theorem Room.toC {j k : Nat} {A : Around} {v : Option Value} (r : Room k A) (h : j ≤ k) : RoomC j (A.mark v) := ⟨by have := r.dp; show A.depth + 3 * j + 5 < _; omega, by have := r.un; show A.units + 16 * j + 200 < _; omega⟩
structure FnOkC (P : Program) (w : World) (K : PySem.W.Frag) (mg : Str → Option Value) (base : Heap) (CX : CXT) (k : Nat) (f : Addr) (fd : FuncData) (ps : List Str) (sp : Sp) : Prop where
  len : ∀ vs H Q E, sp vs H Q E → vs.length = ps.length
  run : ∀ (A : Around) (outer : List Env) (s : Shared) (H : Hp) (args : Args) (us : List Value) (vs : List V) (Q : VK) (E : XK), RoomC k A → Env0 P w K mg base A outer s H → BindsTo s fd args (ps.zip us) → Vals vs us → sp vs H Q E →
    codeAny (model P w) A (.call (.ref f) args) (CR CX outer P w H s Q E) s
abbrev cxOfC (CX : CXT) (P : Program) (w : World) (K : PySem.W.Frag) (mg : Str → Option Value) (base : Heap) (N : List Str) (qual : Str) (scope : Scope) (f : Addr) (cd : Value) (A : Around) (outer : List Env) (s : Shared) (H : Hp) (E : XK) : Cx :=
  { cxOf CX P w K mg base N qual scope f cd A outer s H E with calm := false }
theorem fn_ofC {CX : CXT} {P : Program} {w : World} {K : PySem.W.Frag} {mg : Str → Option Value} {base : Heap} {k : Nat} {f : Addr} {name qual : Str} {params : Arguments} {body : List Stmt} {scope : Scope} {dV kV doc pm cdv ct oc : Value} {an od : Option Addr}
    {osl : Array (Option Value)} {N ps : List Str} {sp : Sp} (lk : K.lookup f = some ⟨oc, od, .func (PySem.W.fnOf name qual params body scope dV kV doc pm an cdv ct), osl⟩) (hcd : PySem.W.codeIn K cdv qual = true) (S : FnScope N ps scope)
    (len : ∀ vs H Q E, sp vs H Q E → vs.length = ps.length)
    (hbody : ∀ (A : Around) (outer : List Env) (s : Shared) (H : Hp) (vs : List V) (Q : VK) (E : XK), RoomC k (A.deeper (envOfC qual scope s.heap.objs.size f cdv)) → sp vs H Q E →
      ∃ t, PSs (cxOfC CX P w K mg base N qual scope f cdv A outer s H E) body t ∧ t { nx := fun _ H' => Q .non H', rt := Q } (start N vs) H) :
    FnOkC P w K mg base CX (k + 1) f (PySem.W.fnOf name qual params body scope dV kV doc pm an cdv ct) ps sp := by
  refine ⟨len, fun A outer s H args us vs Q E hr e0 hb r hsp => ?_⟩
  have hl := len _ _ _ _ hsp
  have KX : K.In s.heap := e0.mod.kin.keeps fun b o e => (e0.bs b o e).1
  have lim : s.heap.NoLimit := e0.mod.nolimit.keeps fun b o e => (e0.bs b o e).1
  have hkind : ∀ y ∈ ps.zip us, scope.names.lookup y.1 = some .local ∨ (scope.names.lookup y.1 = some .cell ∧ ((cellsFrom (s.heap.objs.size + 1) scope.names []).lookup y.1).isSome = true) := fun ⟨n, v⟩ hy => by
    rcases S.par n (List.of_mem_zip hy).1 with q | q
    · exact .inl q
    · exact .inr ⟨q, PySem.W.cellsFrom_some _ _ _ (.inl q)⟩
  refine codeAny_call_function (by have := hr.dp; omega) (KX _ _ lk) rfl S.co S.gen rfl (PySem.W.codeRec_of KX hcd) (hb _ _ _ _ ?_)
  refine wpAny_newFunctionEnv_cells S.kind hkind fun env he s1 x => ?_
  subst he
  refine ⟨lim.keeps x.toInCall.keep, codeAny_func ?_⟩
  obtain ⟨t, ht, hq⟩ := hbody A outer s H vs Q E (hr.deeper _) hsp
  have e1 : Env0 P w K mg base { A with handled := none } outer s H := ⟨e0.frames, e0.mod, e0.bs, e0.bsz, e0.funs, e0.frf, e0.hok, e0.bare⟩
  have I0 : Inv (cxOf CX P w K mg base N qual scope f cdv { A with handled := none } outer s H E) [] (start N vs) H s1 := inv_start S rfl e1 hl r x
  have I : Inv (cxOfC CX P w K mg base N qual scope f cdv A outer s H E) [] (start N vs) H s1 :=
    ⟨I0.ok.re (A.deeper (envOfC qual scope s.heap.objs.size f cdv)) rfl false (fun z => nomatch z) _ _, I0.os, I0.bare, I0.base, I0.loc, I0.cell, I0.free, I0.freeC, I0.pin, I0.hok, I0.len⟩
  refine wpAny_mono (ht [] s1 (start N vs) H _ I hq) (fun fl s' hs => ?_) fun e s' hs => hs
  have fin : ∀ {σ' : St} {H' : Hp} {v : V} {u : Value}, Inv (cxOfC CX P w K mg base N qual scope f cdv A outer s H E) [] σ' H' s' → RelV v u → Q v H' → CE outer P w H s Q u s' :=
    fun {σ' H' v u} J rv q => ⟨v, H', J.os, J.bare, J.base, J.hok, rv, q⟩
  cases fl with
  | ret u =>
    obtain ⟨v, σ', H', J, rv, q⟩ := hs
    exact fin J rv q
  | next =>
    obtain ⟨σ', H', J, q⟩ := hs
    exact fin (v := V.non) (u := Value.none) J rfl q
  | brk =>
    obtain ⟨_, _, _, q⟩ := hs
    exact False.elim q
  | cont =>
    obtain ⟨_, _, _, q⟩ := hs
    exact False.elim q
theorem Fun.okC {P : Program} {w : World} {K : PySem.W.Frag} {mg : Str → Option Value} {base : Heap} {x qual : Str} {st : Stmt} {f : Addr} {fd : FuncData} {N ps : List Str} {k : Nat} {sp : Sp} (F : Fun K x qual st f fd) (S : FnScope N ps (defScope st)) (len : ∀ vs H Q E, sp vs H Q E → vs.length = ps.length)
    (hbody : ∀ (cdv : Value) (A : Around) (outer : List Env) (s : Shared) (H : Hp) (vs : List V) (Q : VK) (E : XK), RoomC k (A.deeper (envOfC qual (defScope st) s.heap.objs.size f cdv)) → sp vs H Q E →
      ∃ t, PSs (cxOfC (XE P w) P w K mg base N qual (defScope st) f cdv A outer s H E) (defBody st) t ∧ t { nx := fun _ H' => Q .non H', rt := Q } (start N vs) H) : FnOkC P w K mg base (XE P w) (k + 1) f fd ps sp := by
  obtain ⟨oc, od, kV, doc, pm, an, cdv, ct, osl, rfl, lk, hcd⟩ := F.ex
  exact fn_ofC lk hcd S len fun A outer s H vs Q E hr hsp => hbody cdv A outer s H vs Q E hr hsp
section
variable {X : Cx} {CX : CXT} {k : Nat} {f : Addr} {fd : FuncData} {ps : List Str} {sp : Sp} {dvs : List V} {ds : List Value} {E : XKs} {x : Str} {p pos : Pos} {e : Expr} {es : List Expr} {t : TA}
theorem pe_callC (F : FnOkC X.prog X.w X.K X.mg X.base CX k f fd ps sp) (hr : RoomC k X.A) (hg : Gl X x) (hm : X.mg x = some (.ref f)) (hk : PySem.W.keepIn X.K (.ref f) = true) (hb : Binds X.K fd ps ds) (hd : Vals dvs ds) (hx : Passes' CX X E)
    (ha : PA X (e :: es) t) (hdb : (x == ("__debug__" : Str)) = false := by decide) (he : starEach (e :: es) X.env = (false, eval e X.env) :: starEach es X.env := by rfl) (hpl : (backTo pos (starEach es X.env)).any (·.1) = false := by rfl) :
    PE X (.Call (.Name x p) (e :: es) [] pos) (tCallX sp dvs E t) := by
  intro pins s σ H Q I h
  refine wpAny_Call_Name_kw (ld_glob I hg hm ?_ hdb)
  refine PySem.W.callWith_K (h₀ := X.base) I.ok.mod.kin hk (thn (ha pos pins s σ H _ I h) fun us s1 ⟨vs, H1, I1, r, h⟩ => ⟨I1.kIn, ?_⟩) he hpl
  have r2 : Vals (vs ++ dvs) (us ++ ds) := r.append hd
  have hl : (us ++ ds).length = ps.length := by rw [← r2.length]; exact F.len _ _ _ _ h
  refine wpAny_call (codeAny_mono (F.run X.A X.stack s1 H1 ⟨us, []⟩ (us ++ ds) (vs ++ dvs) Q (E σ) hr I1.env0 (hb s1 us I1.kIn hl) r2 h) fun r s' hq => ?_)
  cases r with
  | error e => exact hx pins σ H1 s1 e s' I1 hq
  | ok fl =>
    cases fl with
    | ret u => exact I1.after hq
    | next => exact False.elim hq
    | brk => exact False.elim hq
    | cont => exact False.elim hq
end
end L2
set_option Elab.async false
set_option linter.all false
set_option maxRecDepth 100000
set_option maxHeartbeats 1000000
namespace L2
open PySem PySem.Spec PyProof.Rows
def Itr3 (lo d : Int) (n : Nat) : It := ⟨fun i _ => i < n, fun i H x H' => H' = H ∧ x = .int (lo + i * d), fun i _ => n ≤ i⟩
theorem turn_range3 {P : Program} {w : World} {K : PySem.W.Frag} {tg : Expr} (it : Addr) (lo d : Int) (n : Nat) : Turn P w K tg (Itr3 lo d n) [it] it (fun i h => IsRangeIter h it (lo + (i : Nat) * d) ((n : Int) - (i : Nat)) d) where
  mem := by simp
  obj := fun i h st b hb => by
    have e : b = it := by simpa using hb
    subst e
    exact ⟨_, st, fun v z => by
      have z' : Data.fields _ = Data.cell v := z
      cases z'⟩
  keep := fun i h h' st k => k it (by simp) _ st
  item := by
    intro X hP hw hK hc i pins s σ H E I hf st hg
    subst hP hw hK
    obtain ⟨f0, f1, f2, f3, f4, f5⟩ := hf it (by simp)
    have W := Walks.range (prog := X.prog) (w := X.w) (I.ok.hd hc) it lo d n
    refine W.item i s _ _ hg st fun v h' tk hv st' kk => ?_
    obtain ⟨t, rfl⟩ := hv
    have I1 : Inv X pins σ H { s with heap := h', toks := tk } := I.turned (fun b o hb e => kk b o (by simpa using hb) e) f0 f1 f3 f4 f5
    exact ⟨_, rfl, go_of (s := { s with heap := h', toks := tk }) (n := "range_iterator") st' rfl rfl (by decide) ⟨.int (lo + i * d), H, I1, ⟨t, rfl⟩, ⟨rfl, rfl⟩, st', fun b hb => (hf b hb).1⟩⟩
  done := by
    intro X hP hw hK hc i pins s σ H E I hf st hg
    subst hP hw hK
    obtain ⟨f0, f1, f2, f3, f4, f5⟩ := hf it (by simp)
    exact wpAny_pyNext_range_end (I.ok.hd hc) st (by have : n ≤ i := hg; omega) fun h' eb => ⟨rfl, I.turned (t' := s.toks) (fun b o hb e => eb b o hb e) f0 f1 f3 f4 f5⟩
  self := fun _ _ _ _ _ st h => wpAny_pyIter_rangeiter st h
section
variable {X : Cx} {tg : Expr}
def rsz (i j c : Int) : Nat := if i < j then ((j - i - 1) / c + 1).toNat else 0
theorem range_it3 {pins : List (Addr × Obj)} {σ : St} {H : Hp} {s : Shared} {R : It → Hp → Prop} {E : Value → Shared → Prop} {lo hi c : Int} {t u v : Tok} {tk : Nat} (I : Inv X pins σ H s) (h1 : 0 ≤ lo) (h2 : lo < 1000000) (h3 : 0 ≤ hi) (h4 : hi < 1000000) (h5 : 1 ≤ c) (h6 : c < 1000000)
    (q : R (Itr3 lo c (rsz lo hi c)) H) : wpAny (model X.prog X.w) X.A (pyIter (.ref s.heap.objs.size)) (PIE X pins σ tg R) E { s with heap := s.heap.push { cls := .type "range", data := .fields #[.int lo t, .int hi u, .int c v] }, toks := tk } := by
  have hd : 0 ≤ (hi - lo - 1) / c ∨ ¬ lo < hi := by
    by_cases h : lo < hi
    · exact .inl (Int.ediv_nonneg (by omega) (by omega))
    · exact .inr h
  have hd2 : lo < hi → (hi - lo - 1) / c < 1000000 := fun h => by
    have := Int.ediv_le_self c (show 0 ≤ hi - lo - 1 by omega)
    omega
  have e2 : ((rsz lo hi c : Nat) : Int) - ((0 : Nat) : Int) = Builtin.Range.rangeSize lo hi c := by
    unfold rsz Builtin.Range.rangeSize
    rw [if_pos (show c > 0 by omega)]
    split <;> omega
  refine wpAny_pyIter_range (IsRange.new ..) ?_ ?_
  · have fits : ∀ z : Int, -(2 ^ 62) ≤ z → z < 2 ^ 62 → Builtin.Range.rangeFitsLong z = true := fun z z1 z2 => by
      simp only [Builtin.Range.rangeFitsLong, Bool.and_eq_true, decide_eq_true_eq]; omega
    have hr : 0 ≤ ((rsz lo hi c : Nat) : Int) ∧ ((rsz lo hi c : Nat) : Int) ≤ 1000000 := by
      unfold rsz
      split
      · rename_i h; have := hd2 h; omega
      · omega
    unfold Builtin.Range.small
    rw [← e2, fits lo (by omega) (by omega), fits hi (by omega) (by omega), fits c (by omega) (by omega), fits _ (by omega) (by omega), if_pos (show c > 0 by omega), fits (hi + (c - 1)) (by omega) (by omega), Bool.or_true]
    rfl
  have I1 : Inv X pins σ H { s with heap := s.heap.push { cls := .type "range", data := .fields #[.int lo t, .int hi u, .int c v] }, toks := tk } := I.kept fun b o e => Heap.get?_push_of_some _ e
  refine ⟨(s.heap.push { cls := .type "range", data := .fields #[.int lo t, .int hi u, .int c v] }).objs.size, [(s.heap.push { cls := .type "range", data := .fields #[.int lo t, .int hi u, .int c v] }).objs.size], _, _, H, rfl,
    I1.kept (t' := tk) fun b o e => Heap.get?_push_of_some _ e, turn_range3 _ lo c (rsz lo hi c), ?_, fun b hb => ?_, q⟩
  · have e1 : lo + ((0 : Nat) : Int) * c = lo := by simp
    show IsRangeIter _ _ (lo + ((0 : Nat) : Int) * c) (((rsz lo hi c : Nat) : Int) - ((0 : Nat) : Int)) c
    rw [e1, e2]
    exact Heap.get?_push_size _ rfl
  · have e : b = (s.heap.push { cls := .type "range", data := .fields #[.int lo t, .int hi u, .int c v] }).objs.size := by simpa using hb
    subst e
    exact I1.fpOk (Nat.le_refl _) (I1.hok.fresh (Nat.le_refl _))
def iRng3 (ta : TA) : TI := fun σ H R => ta σ H fun vs H1 => ∃ i j c : Int, vs = [.int i, .int j, .int c] ∧ (0 ≤ i ∧ i < 1000000 ∧ 0 ≤ j ∧ j < 1000000 ∧ 1 ≤ c ∧ c < 1000000) ∧ R (Itr3 i c (rsz i j c)) H1
theorem pi_range3 {a b c : Expr} {ta : TA} {p pos : Pos} (hg : Gl X "range") (hm : X.mg "range" = none) (ha : PA X [a, b, c] ta) (hs : starEach [a, b, c] X.env = [(false, eval a X.env), (false, eval b X.env), (false, eval c X.env)] := by rfl) (hs2 : starEach [b, c] X.env = [(false, eval b X.env), (false, eval c X.env)] := by rfl) :
    PI X tg (.Call (.Name "range" p) [a, b, c] [] pos) (iRng3 ta) := by
  intro pins s σ H R I h
  refine Call_ (ld_blt I hg hm boot_range (PyProof.Rows.callWith_type1 (thn (ha pos pins s σ H _ I h) fun us s1 ⟨vs, H1, I1, r1, q1⟩ => ?_) (by rw [hs, hs2]) (by rw [hs2]; rfl)))
  obtain ⟨i, j, k, e, ⟨q1, q2, q3, q4, q5, q6⟩, q⟩ := q1
  subst e
  cases r1 with
  | cons r rr =>
    cases rr with
    | cons r' rr =>
      cases rr with
      | cons r'' rr =>
        cases rr
        obtain ⟨t, rfl⟩ := r
        obtain ⟨t', rfl⟩ := r'
        obtain ⟨t'', rfl⟩ := r''
        exact call_range_3 (by omega) (range_it3 I1 q1 q2 q3 q4 q5 q6 q) (Or.inl (PyProof.noPylong_small (by omega)))
theorem for_range3 {lo c : Int} {n : Nat} {g : TG} {tb : TS} {D : Ends} {σ : St} {H : Hp} (Pv : Nat → St → Hp → Prop) (h0 : Pv 0 σ H)
    (hs : ∀ i σ H, i < n → Pv i σ H → g (.int (lo + i * c)) σ H fun σ2 H2 => tb { D with nx := Pv (i + 1), ct := Pv (i + 1), bk := D.nx } σ2 H2) (hd : ∀ σ H, Pv n σ H → D.nx σ H) :
    ∃ W : Nat → Nat → St → Hp → Prop, (∃ m, W 0 m σ H) ∧ ∀ i m σ H, W i m σ H →
      ((Itr3 lo c n).stop i H ∧ D.nx σ H) ∨ ((Itr3 lo c n).go i H ∧ ∃ N : St → Hp → Prop, (∀ σ' H', N σ' H' → ∃ m', m' < m ∧ W (i + 1) m' σ' H') ∧ ∀ x H', (Itr3 lo c n).yld i H x H' → g x σ H' fun σ2 H2 => tb { D with nx := N, ct := N, bk := D.nx } σ2 H2) := by
  refine ⟨fun i m σ H => m = n - i ∧ i ≤ n ∧ Pv i σ H, ⟨n, by simp, Nat.zero_le _, h0⟩, ?_⟩
  rintro i m σ H ⟨rfl, hi, p⟩
  by_cases hlt : i < n
  · refine .inr ⟨hlt, Pv (i + 1), fun σ' H' p' => ⟨n - (i + 1), by omega, rfl, hlt, p'⟩, fun x H' y => ?_⟩
    obtain ⟨e, y⟩ := y
    subst e y
    exact hs i σ _ hlt p
  · have e : i = n := by omega
    subst e
    exact .inl ⟨Nat.le_refl _, hd σ H p⟩
end
end L2
namespace L2
theorem ex1 {α : Type} {us : List α} (hl : us.length = 1) : ∃ a0, us = [a0] := by
  match us, hl with
  | [a0], _ => exact ⟨a0, rfl⟩
theorem ex2 {α : Type} {us : List α} (hl : us.length = 2) : ∃ a0 a1, us = [a0, a1] := by
  match us, hl with
  | [a0, a1], _ => exact ⟨a0, a1, rfl⟩
theorem ex3 {α : Type} {us : List α} (hl : us.length = 3) : ∃ a0 a1 a2, us = [a0, a1, a2] := by
  match us, hl with
  | [a0, a1, a2], _ => exact ⟨a0, a1, a2, rfl⟩
theorem ex4 {α : Type} {us : List α} (hl : us.length = 4) : ∃ a0 a1 a2 a3, us = [a0, a1, a2, a3] := by
  match us, hl with
  | [a0, a1, a2, a3], _ => exact ⟨a0, a1, a2, a3, rfl⟩
theorem ex5 {α : Type} {us : List α} (hl : us.length = 5) : ∃ a0 a1 a2 a3 a4, us = [a0, a1, a2, a3, a4] := by
  match us, hl with
  | [a0, a1, a2, a3, a4], _ => exact ⟨a0, a1, a2, a3, a4, rfl⟩
end L2
set_option Elab.async false
set_option linter.all false
namespace L2
open Lean Meta Simp
def rdFree : List Name := [`L2.fVar, `L2.tC, `L2.tOp, `L2.tUn, `L2.gEqN, `L2.fTest, `L2.fChain, `L2.fAnd, `L2.fOr, `L2.fNot, `L2.fPickL, `L2.fPickT, `L2.tSeq, `L2.tIfS, `L2.tRet, `L2.tRetN, `L2.tNext, `L2.tDrop, `L2.tAsg, `L2.gName, `L2.tIf, `L2.tAnd, `L2.tOr, `L2.tNot, `L2.tCons, `L2.tNil, `L2.tCB, `L2.tCallX, `L2.tTup, `L2.tLst, `L2.tIsN, `L2.tNotN, `L2.tIsB, `L2.tPart, `L2.tNoPart, `L2.tSl, `L2.cs, `L2.CDiv, `L2.CMul, `L2.CPow, `L2.tRaise, `L2.tTry, `L2.gcE, `L2.tGcT, `L2.tGc, `L2.tBM, `L2.fDnew, `L2.fJoinRev, `L2.CDivB, `L2.rAppend, `L2.gTup, `L2.gCons, `L2.gNil, `L2.gSub, `L2.rSetL, `L2.tFldG, `L2.sFldG, `L2.tMethX, `L2.tMakeX, `L2.tDGet1, `L2.tDGet2, `L2.sDPut, `L2.tBM0, `L2.rClear]
def rdCase : List Name := [`L2.gAdd, `L2.gI, `L2.gIC, `L2.gNeg, `L2.gLe, `L2.gLt, `L2.eqS, `L2.kB, `L2.gAbs, `L2.gMin, `L2.gMax, `L2.gLen, `L2.gIsi, `L2.gInt, `L2.gIx, `L2.sp0, `L2.sp1, `L2.sp2, `L2.sp3, `L2.sp4, `L2.asI, `L2.asT, `L2.asB, `L2.asR, `L2.tyV, `L2.gSt, `L2.gEn, `L2.gZf, `L2.gStr, `L2.gInt2, `L2.gIn, `L2.gSl, `L2.gIdx, `L2.gMulS, `L2.gCat, `L2.gRep, `L2.gRepT, `L2.gIsiT, `L2.gList, `L2.gTuple, `L2.gSpl, `L2.gStM, `L2.gFld, `L2.gPutF, `L2.gMeth, `L2.gSum, `L2.gMulT]
def rdStep (e : Lean.Expr) : MetaM (Option Lean.Expr) := do
  let .const n us := e.getAppFn | return none
  let fr := rdFree.contains n
  unless fr || rdCase.contains n do return none
  let some (.defnInfo d) := (← getEnv).find? n | return none
  let v := d.value.instantiateLevelParams d.levelParams us
  let k := v.getNumHeadLambdas
  if e.getAppNumArgs < k then return none
  let b := v.beta e.getAppArgs
  if fr then return some b
  match ← reduceMatcher? b with
  | .reduced r => return some r
  | .notMatcher => return some b
  | _ => return none
dsimproc_decl rdAll (_) := fun e => do
  match ← rdStep e with
  | some r => return .visit r
  | none => return .continue
def rdI := And.intro @L2.gc_self (And.intro @L2.cx_K (And.intro @L2.V.bl.injEq (And.intro @L2.V.str.injEq (And.intro @L2.same_self (And.intro @L2.kd_bl (And.intro @L2.kd_int (And.intro @L2.kd_str (And.intro @L2.kd_non (And.intro @L2.cl_int (And.intro @L2.is_NoneType_int (And.intro @L2.is_bool_int (And.intro @L2.is_int_int (And.intro @L2.is_str_int (And.intro @L2.is_list_int (And.intro @L2.is_tuple_int (And.intro @L2.is_dict_int (And.intro @L2.cl_bool (And.intro @L2.is_NoneType_bool (And.intro @L2.is_bool_bool (And.intro @L2.is_int_bool (And.intro @L2.is_str_bool (And.intro @L2.is_list_bool (And.intro @L2.is_tuple_bool (And.intro @L2.is_dict_bool (And.intro @L2.cl_str (And.intro @L2.is_NoneType_str (And.intro @L2.is_bool_str (And.intro @L2.is_int_str (And.intro @L2.is_str_str (And.intro @L2.is_list_str (And.intro @L2.is_tuple_str (And.intro @L2.is_dict_str (And.intro @L2.cl_list (And.intro @L2.is_NoneType_list (And.intro @L2.is_bool_list (And.intro @L2.is_int_list (And.intro @L2.is_str_list (And.intro @L2.is_list_list (And.intro @L2.is_tuple_list (And.intro @L2.is_dict_list (And.intro @L2.cl_tuple (And.intro @L2.is_NoneType_tuple (And.intro @L2.is_bool_tuple (And.intro @L2.is_int_tuple (And.intro @L2.is_str_tuple (And.intro @L2.is_list_tuple (And.intro @L2.is_tuple_tuple (And.intro @L2.is_dict_tuple (And.intro @L2.cl_dict (And.intro @L2.is_NoneType_dict (And.intro @L2.is_bool_dict (And.intro @L2.is_int_dict (And.intro @L2.is_str_dict (And.intro @L2.is_list_dict (And.intro @L2.is_tuple_dict (And.intro @L2.is_dict_dict (And.intro @L2.ak_bl (And.intro @L2.ak_int (And.intro @L2.ak_str (And.intro @L2.ak_non (And.intro @L2.isI_int (And.intro @L2.isI_bl (And.intro @L2.isI_str (And.intro @L2.isI_ref (And.intro @L2.isI_non (And.intro @L2.isS_int (And.intro @L2.isS_bl (And.intro @L2.isS_str (And.intro @L2.isS_ref (And.intro @L2.isS_non (And.intro @true_and (And.intro @and_true (And.intro @and_self (And.intro @true_or (And.intro @or_true (And.intro @decide_eq_true_eq (And.intro @Bool.true_eq_false (And.intro @Bool.false_xor (And.intro @Bool.true_xor (And.intro @Bool.not_true (And.intro @Bool.not_false (And.intro @Bool.false_eq_true (And.intro @Bool.not_eq_true' (And.intro @decide_eq_false_iff_not @Classical.not_not))))))))))))))))))))))))))))))))))))))))))))))))))))))))))))))))))))))))))))))))))))
end L2
set_option Elab.async false
set_option maxHeartbeats 4000000
namespace K3
def S (a : Int) : Int :=
  if a ≤ 0 then 0 else if a = 1 then 31 else if a = 2 then 59 else if a = 3 then 90 else if a = 4 then 120
  else if a = 5 then 151 else if a = 6 then 181 else if a = 7 then 212 else if a = 8 then 243 else if a = 9 then 273
  else if a = 10 then 304 else 334
def LD (y : Int) : Int := (y + 3) / 4 - (y + 99) / 100 + (y + 399) / 400
def FD (m : Int) : Int := 365 * (m / 12) + (if m % 12 > 1 then LD (m / 12 + 1) else LD (m / 12)) + S (m % 12)
def LG (y m : Int) : Int :=
  if m = 2 then (if (y % 4 = 0 ∧ y % 100 ≠ 0) ∨ y % 400 = 0 then 29 else 28)
  else if m = 4 ∨ m = 6 ∨ m = 9 ∨ m = 11 then 30 else 31
theorem FD_mk {m y a : Int} (h : m = 12 * y + a) (h0 : 0 ≤ a) (h1 : a < 12) :
    FD m = 365 * y + (if a > 1 then LD (y + 1) else LD y) + S a := by
  have e1 : m / 12 = y := by omega
  have e2 : m % 12 = a := by omega
  unfold FD; rw [e1, e2]
theorem LD_step (y : Int) : LD (y + 1) = LD y + (if (y % 4 = 0 ∧ y % 100 ≠ 0) ∨ y % 400 = 0 then 1 else 0) := by
  unfold LD
  split <;> omega
theorem S_step : ∀ a : Nat, a < 11 → a ≠ 1 → S (a + 1) = S a + LG 1 (1 + a) := by decide
theorem LG_not (y z m : Int) (h : m ≠ 2) : LG y m = LG z m := by unfold LG; rw [if_neg h, if_neg h]
theorem LG_two (y : Int) : LG (2000 + y) 2 = 28 + (LD (y + 1) - LD y) := by
  have h : (((2000 + y) % 4 = 0 ∧ (2000 + y) % 100 ≠ 0) ∨ (2000 + y) % 400 = 0) ↔ ((y % 4 = 0 ∧ y % 100 ≠ 0) ∨ y % 400 = 0) := by
    have e (k : Int) (d : 2000 = k * (2000 / k)) : (2000 + y) % k = y % k := by rw [Int.add_comm, d, Int.add_mul_emod_self_left]
    rw [e 4 rfl, e 100 rfl, e 400 rfl]
  rw [LD_step, LG, if_pos rfl]
  by_cases c : (y % 4 = 0 ∧ y % 100 ≠ 0) ∨ y % 400 = 0
  · rw [if_pos c, if_pos (h.mpr c)]; omega
  · rw [if_neg c, if_neg (fun q => c (h.mp q))]; omega
theorem FD_step (m : Int) : FD (m + 1) = FD m + LG (2000 + m / 12) (1 + m % 12) := by
  have b0 : 0 ≤ m % 12 := Int.emod_nonneg _ (by decide)
  have b1 : m % 12 < 12 := Int.emod_lt_of_pos _ (by decide)
  have e : m = 12 * (m / 12) + m % 12 := (Int.mul_ediv_add_emod m 12).symm
  have a1 := FD_mk e b0 b1
  generalize m / 12 = y at *
  generalize m % 12 = z at *
  obtain ⟨a, rfl⟩ := Int.eq_ofNat_of_zero_le b0
  by_cases c : a = 11
  · subst c
    rw [a1, FD_mk (m := m + 1) (y := y + 1) (a := 0) (by omega) (by decide) (by decide)]
    show _ + LD (y + 1) + 0 = _ + LD (y + 1) + 334 + 31
    omega
  · have a2 := FD_mk (m := m + 1) (y := y) (a := a + 1) (by omega) (by omega) (by omega)
    by_cases c1 : a = 1
    · subst c1
      rw [a1, a2]
      show _ + LD (y + 1) + 59 = _ + LD y + 31 + LG (2000 + y) 2
      rw [LG_two]; omega
    · have s := S_step a (by omega) c1
      rw [a1, a2, LG_not _ 1 _ (by omega), s]
      by_cases c2 : a = 0
      · subst c2; exact (Int.add_assoc _ _ _).symm
      · rw [if_pos (by omega), if_pos (by omega)]; omega
theorem LG_in (y m : Int) : 28 ≤ LG y m ∧ LG y m ≤ 31 := by
  unfold LG; repeat' split
  all_goals omega
theorem FD_lt (m : Int) : FD m + 28 ≤ FD (m + 1) ∧ FD (m + 1) ≤ FD m + 31 := by
  have h := FD_step m
  have g := LG_in (2000 + m / 12) (1 + m % 12)
  omega
theorem FD_mono_nat (m : Int) (k : Nat) : FD m + 28 * k ≤ FD (m + k) := by
  induction k with
  | zero => simp
  | succ k ih =>
    have h := FD_lt (m + k)
    have e : m + ((k + 1 : Nat) : Int) = m + k + 1 := by omega
    rw [e]; omega
theorem FD_mono {m n : Int} (h : m ≤ n) : FD m + 28 * (n - m) ≤ FD n := by
  have g := FD_mono_nat m (n - m).toNat
  have e : m + ((n - m).toNat : Int) = n := by omega
  rw [e] at g; omega
theorem FD_0 : FD 0 = 0 := by decide
theorem FD_end : FD 4800 = 146097 := by decide
open Classical in
noncomputable def MO (d : Int) : Int := if h : ∃ m, FD m ≤ d ∧ d < FD (m + 1) then Classical.choose h else 0
theorem MO_eq {m d : Int} (h1 : FD m ≤ d) (h2 : d < FD (m + 1)) : m = MO d := by
  have h : ∃ m, FD m ≤ d ∧ d < FD (m + 1) := ⟨m, h1, h2⟩
  have g := Classical.choose_spec h
  unfold MO
  rw [dif_pos h]
  generalize Classical.choose h = n at g
  obtain ⟨g1, g2⟩ := g
  by_cases c : m + 1 ≤ n
  · have := FD_mono c; omega
  · by_cases c2 : n + 1 ≤ m
    · have := FD_mono c2; omega
    · omega
theorem MO_of {m d : Int} (h1 : FD m ≤ d) (h2 : d < FD (m + 1)) : MO d = m := (MO_eq h1 h2).symm
theorem FD_nn {m : Int} (h0 : 0 ≤ m) : 0 ≤ FD m := by
  have := FD_mono h0
  rw [FD_0] at this; omega
theorem FD_hi {m : Int} (h1 : m ≤ 4799) : FD (m + 1) ≤ 146097 := by
  have := FD_mono (show m + 1 ≤ 4800 by omega)
  rw [FD_end] at this; omega
theorem MO_in {d : Int} (h0 : 0 ≤ d) (h1 : d ≤ 146096) : 0 ≤ MO d ∧ MO d ≤ 4799 ∧ FD (MO d) ≤ d ∧ d < FD (MO d + 1) := by
  have ex : ∀ (n : Nat), FD n ≤ d ∨ ∃ k : Nat, k < n ∧ FD k ≤ d ∧ d < FD (k + 1) := by
    intro n
    induction n with
    | zero => left; show FD 0 ≤ d; rw [FD_0]; exact h0
    | succ n ih =>
      rcases ih with h | ⟨k, hk, h⟩
      · by_cases c : FD ((n : Int) + 1) ≤ d
        · left; exact c
        · right; exact ⟨n, by omega, h, by omega⟩
      · right; exact ⟨k, by omega, h⟩
  rcases ex 4800 with h | ⟨k, hk, h2, h3⟩
  · have e : FD ((4800 : Nat) : Int) = 146097 := FD_end
    rw [e] at h; omega
  · have e := MO_of h2 h3
    rw [e]; exact ⟨by omega, by omega, h2, h3⟩
def R10 : List Int := [31, 30, 31, 30, 31, 31, 30, 31, 30, 31]
theorem R10_sum : ∀ a : Nat, a < 10 → (R10.take a).sum + 59 = S ((a : Int) + 2) := by decide
theorem R10_at : ∀ a : Nat, a < 10 → R10.getD a 0 = LG 1 (1 + ((a : Int) + 2)) := by decide
theorem R_sum (m : Int) : 365 * (m / 12) + LD (m / 12) + ((31 :: (28 + (LD (m / 12 + 1) - LD (m / 12))) :: R10).take (m % 12).toNat).sum = FD m := by
  have b0 : 0 ≤ m % 12 := Int.emod_nonneg _ (by decide)
  have b1 : m % 12 < 12 := Int.emod_lt_of_pos _ (by decide)
  have a1 := FD_mk (Int.mul_ediv_add_emod m 12).symm b0 b1
  generalize m / 12 = y at *
  generalize m % 12 = z at *
  obtain ⟨a, rfl⟩ := Int.eq_ofNat_of_zero_le b0
  rw [a1]
  match a, b1 with
  | 0, _ => rfl
  | 1, _ => rfl
  | a + 2, b1 =>
    have s := R10_sum a (by omega)
    rw [if_pos (by omega)]
    show _ + _ + (31 + (_ + (R10.take a).sum)) = _ + S ((a : Int) + 2)
    rw [← s]; omega
theorem R_at (m : Int) : (31 :: (28 + (LD (m / 12 + 1) - LD (m / 12))) :: R10).getD (m % 12).toNat 0 = LG (2000 + m / 12) (1 + m % 12) := by
  have b0 : 0 ≤ m % 12 := Int.emod_nonneg _ (by decide)
  have b1 : m % 12 < 12 := Int.emod_lt_of_pos _ (by decide)
  generalize m / 12 = y at *
  generalize m % 12 = z at *
  obtain ⟨a, rfl⟩ := Int.eq_ofNat_of_zero_le b0
  match a, b1 with
  | 0, _ => rfl
  | 1, _ => exact (LG_two y).symm
  | a + 2, b1 =>
    rw [LG_not _ 1 _ (by omega)]
    exact R10_at a (by omega)
end K3
set_option Elab.async false
set_option linter.all false
set_option maxRecDepth 100000
set_option maxHeartbeats 400000
namespace K13
open PySem L2
structure Adr where
  f__wall : Addr
  fd__wall : FuncData
  f_is_whole : Addr
  fd_is_whole : FuncData
  f_is_among : Addr
  fd_is_among : FuncData
  f_is_month : Addr
  fd_is_month : FuncData
  f_leap_days : Addr
  fd_leap_days : FuncData
  f_first_day : Addr
  fd_first_day : FuncData
  f_last_day : Addr
  fd_last_day : FuncData
  f_month_of : Addr
  fd_month_of : FuncData
  f__law_cell_at : Addr
  fd__law_cell_at : FuncData
  f__law_whole : Addr
  fd__law_whole : FuncData
  f__law_start : Addr
  fd__law_start : FuncData
  f__law_lengths : Addr
  fd__law_lengths : FuncData
  f__law_month_ends : Addr
  fd__law_month_ends : FuncData
  f__law_put : Addr
  fd__law_put : FuncData
  f__law_word : Addr
  fd__law_word : FuncData
  f__law_shut : Addr
  fd__law_shut : FuncData
  f__law_no_booking : Addr
  fd__law_no_booking : FuncData
  f__law_all_right : Addr
  fd__law_all_right : FuncData
  f__law_ones_right : Addr
  fd__law_ones_right : FuncData
  f__law_journal_right : Addr
  fd__law_journal_right : FuncData
  f__law_gate_right : Addr
  fd__law_gate_right : FuncData
  f_law : Addr
  fd_law : FuncData
  f_Gate___init__ : Addr
  fd_Gate___init__ : FuncData
  f_Gate_closed : Addr
  fd_Gate_closed : FuncData
  f_Gate_lets : Addr
  fd_Gate_lets : FuncData
  f_Gate_need_next : Addr
  fd_Gate_need_next : FuncData
  f_Gate_shut : Addr
  fd_Gate_shut : FuncData
  f_Journal___init__ : Addr
  fd_Journal___init__ : FuncData
  f_Journal_put : Addr
  fd_Journal_put : FuncData
  f_Journal_many : Addr
  fd_Journal_many : FuncData
  f_Journal_booking : Addr
  fd_Journal_booking : FuncData
  f_Journal_every : Addr
  fd_Journal_every : FuncData
  f_Journal_undone_by : Addr
  fd_Journal_undone_by : FuncData
  c_HouseError : Addr
  c_BadMonth : Addr
  c_NoBooking : Addr
  c_NotNext : Addr
  c_Gate : Addr
  c_Journal : Addr
  k_LENGTHS : Addr
structure Txt (K : PySem.W.Frag) (mg : Str → Option Value) (a : Adr) : Prop where
  F__wall : Fun K "_wall" "_wall" s__wall a.f__wall a.fd__wall
  m__wall : mg "_wall" = some (.ref a.f__wall)
  F_is_whole : Fun K "is_whole" "is_whole" s_is_whole a.f_is_whole a.fd_is_whole
  m_is_whole : mg "is_whole" = some (.ref a.f_is_whole)
  F_is_among : Fun K "is_among" "is_among" s_is_among a.f_is_among a.fd_is_among
  m_is_among : mg "is_among" = some (.ref a.f_is_among)
  F_is_month : Fun K "is_month" "is_month" s_is_month a.f_is_month a.fd_is_month
  m_is_month : mg "is_month" = some (.ref a.f_is_month)
  F_leap_days : Fun K "leap_days" "leap_days" s_leap_days a.f_leap_days a.fd_leap_days
  m_leap_days : mg "leap_days" = some (.ref a.f_leap_days)
  F_first_day : Fun K "first_day" "first_day" s_first_day a.f_first_day a.fd_first_day
  m_first_day : mg "first_day" = some (.ref a.f_first_day)
  F_last_day : Fun K "last_day" "last_day" s_last_day a.f_last_day a.fd_last_day
  m_last_day : mg "last_day" = some (.ref a.f_last_day)
  F_month_of : Fun K "month_of" "month_of" s_month_of a.f_month_of a.fd_month_of
  m_month_of : mg "month_of" = some (.ref a.f_month_of)
  F__law_cell_at : Fun K "_law_cell_at" "_law_cell_at" s__law_cell_at a.f__law_cell_at a.fd__law_cell_at
  m__law_cell_at : mg "_law_cell_at" = some (.ref a.f__law_cell_at)
  F__law_whole : Fun K "_law_whole" "_law_whole" s__law_whole a.f__law_whole a.fd__law_whole
  m__law_whole : mg "_law_whole" = some (.ref a.f__law_whole)
  F__law_start : Fun K "_law_start" "_law_start" s__law_start a.f__law_start a.fd__law_start
  m__law_start : mg "_law_start" = some (.ref a.f__law_start)
  F__law_lengths : Fun K "_law_lengths" "_law_lengths" s__law_lengths a.f__law_lengths a.fd__law_lengths
  m__law_lengths : mg "_law_lengths" = some (.ref a.f__law_lengths)
  F__law_month_ends : Fun K "_law_month_ends" "_law_month_ends" s__law_month_ends a.f__law_month_ends a.fd__law_month_ends
  m__law_month_ends : mg "_law_month_ends" = some (.ref a.f__law_month_ends)
  F__law_put : Fun K "_law_put" "_law_put" s__law_put a.f__law_put a.fd__law_put
  m__law_put : mg "_law_put" = some (.ref a.f__law_put)
  F__law_word : Fun K "_law_word" "_law_word" s__law_word a.f__law_word a.fd__law_word
  m__law_word : mg "_law_word" = some (.ref a.f__law_word)
  F__law_shut : Fun K "_law_shut" "_law_shut" s__law_shut a.f__law_shut a.fd__law_shut
  m__law_shut : mg "_law_shut" = some (.ref a.f__law_shut)
  F__law_no_booking : Fun K "_law_no_booking" "_law_no_booking" s__law_no_booking a.f__law_no_booking a.fd__law_no_booking
  m__law_no_booking : mg "_law_no_booking" = some (.ref a.f__law_no_booking)
  F__law_all_right : Fun K "_law_all_right" "_law_all_right" s__law_all_right a.f__law_all_right a.fd__law_all_right
  m__law_all_right : mg "_law_all_right" = some (.ref a.f__law_all_right)
  F__law_ones_right : Fun K "_law_ones_right" "_law_ones_right" s__law_ones_right a.f__law_ones_right a.fd__law_ones_right
  m__law_ones_right : mg "_law_ones_right" = some (.ref a.f__law_ones_right)
  F__law_journal_right : Fun K "_law_journal_right" "_law_journal_right" s__law_journal_right a.f__law_journal_right a.fd__law_journal_right
  m__law_journal_right : mg "_law_journal_right" = some (.ref a.f__law_journal_right)
  F__law_gate_right : Fun K "_law_gate_right" "_law_gate_right" s__law_gate_right a.f__law_gate_right a.fd__law_gate_right
  m__law_gate_right : mg "_law_gate_right" = some (.ref a.f__law_gate_right)
  F_law : Fun K "law" "law" s_law a.f_law a.fd_law
  m_law : mg "law" = some (.ref a.f_law)
  F_Gate___init__ : Fun K "__init__" "Gate.__init__" s_Gate___init__ a.f_Gate___init__ a.fd_Gate___init__
  mt_Gate___init__ : Meth K a.c_Gate "__init__" a.f_Gate___init__
  F_Gate_closed : Fun K "closed" "Gate.closed" s_Gate_closed a.f_Gate_closed a.fd_Gate_closed
  mt_Gate_closed : Meth K a.c_Gate "closed" a.f_Gate_closed
  F_Gate_lets : Fun K "lets" "Gate.lets" s_Gate_lets a.f_Gate_lets a.fd_Gate_lets
  mt_Gate_lets : Meth K a.c_Gate "lets" a.f_Gate_lets
  F_Gate_need_next : Fun K "need_next" "Gate.need_next" s_Gate_need_next a.f_Gate_need_next a.fd_Gate_need_next
  mt_Gate_need_next : Meth K a.c_Gate "need_next" a.f_Gate_need_next
  F_Gate_shut : Fun K "shut" "Gate.shut" s_Gate_shut a.f_Gate_shut a.fd_Gate_shut
  mt_Gate_shut : Meth K a.c_Gate "shut" a.f_Gate_shut
  F_Journal___init__ : Fun K "__init__" "Journal.__init__" s_Journal___init__ a.f_Journal___init__ a.fd_Journal___init__
  mt_Journal___init__ : Meth K a.c_Journal "__init__" a.f_Journal___init__
  F_Journal_put : Fun K "put" "Journal.put" s_Journal_put a.f_Journal_put a.fd_Journal_put
  mt_Journal_put : Meth K a.c_Journal "put" a.f_Journal_put
  F_Journal_many : Fun K "many" "Journal.many" s_Journal_many a.f_Journal_many a.fd_Journal_many
  mt_Journal_many : Meth K a.c_Journal "many" a.f_Journal_many
  F_Journal_booking : Fun K "booking" "Journal.booking" s_Journal_booking a.f_Journal_booking a.fd_Journal_booking
  mt_Journal_booking : Meth K a.c_Journal "booking" a.f_Journal_booking
  F_Journal_every : Fun K "every" "Journal.every" s_Journal_every a.f_Journal_every a.fd_Journal_every
  mt_Journal_every : Meth K a.c_Journal "every" a.f_Journal_every
  F_Journal_undone_by : Fun K "undone_by" "Journal.undone_by" s_Journal_undone_by a.f_Journal_undone_by a.fd_Journal_undone_by
  mt_Journal_undone_by : Meth K a.c_Journal "undone_by" a.f_Journal_undone_by
  m_HouseError : mg "HouseError" = some (.ref a.c_HouseError)
  m_BadMonth : mg "BadMonth" = some (.ref a.c_BadMonth)
  m_NoBooking : mg "NoBooking" = some (.ref a.c_NoBooking)
  m_NotNext : mg "NotNext" = some (.ref a.c_NotNext)
  m_Gate : mg "Gate" = some (.ref a.c_Gate)
  m_Journal : mg "Journal" = some (.ref a.c_Journal)
  cl_Gate : Cls K a.c_Gate
  n_Gate_last_closed : NoAttr K a.c_Gate "last_closed"
  mk_Gate : Mk K a.c_Gate a.f_Gate___init__
  cl_Journal : Cls K a.c_Journal
  n_Journal_bookings : NoAttr K a.c_Journal "bookings"
  n_Journal_undoings : NoAttr K a.c_Journal "undoings"
  mk_Journal : Mk K a.c_Journal a.f_Journal___init__
  e_BadMonth : PySem.W.excIn K a.c_BadMonth [.type "ValueError", .type "Exception", .type "BaseException", .type "object"] "ValueError.__new__" = true
  x_BadMonth : ExcCls K a.c_BadMonth
  t_BadMonth_HouseError : PySem.W.exmOne K (.ref a.c_BadMonth) (.ref a.c_HouseError) = some true
  s_BadMonth_BadMonth : PySem.W.kitOne K (.ref a.c_BadMonth) (.ref a.c_BadMonth) = some true
  s_BadMonth_NoBooking : PySem.W.kitOne K (.ref a.c_BadMonth) (.ref a.c_NoBooking) = some false
  s_BadMonth_NotNext : PySem.W.kitOne K (.ref a.c_BadMonth) (.ref a.c_NotNext) = some false
  s_BadMonth_ValueError : PySem.W.kitOne K (.ref a.c_BadMonth) (.type "ValueError") = some true
  e_NoBooking : PySem.W.excIn K a.c_NoBooking [.type "ValueError", .type "Exception", .type "BaseException", .type "object"] "ValueError.__new__" = true
  x_NoBooking : ExcCls K a.c_NoBooking
  t_NoBooking_HouseError : PySem.W.exmOne K (.ref a.c_NoBooking) (.ref a.c_HouseError) = some true
  s_NoBooking_BadMonth : PySem.W.kitOne K (.ref a.c_NoBooking) (.ref a.c_BadMonth) = some false
  s_NoBooking_NoBooking : PySem.W.kitOne K (.ref a.c_NoBooking) (.ref a.c_NoBooking) = some true
  s_NoBooking_NotNext : PySem.W.kitOne K (.ref a.c_NoBooking) (.ref a.c_NotNext) = some false
  s_NoBooking_ValueError : PySem.W.kitOne K (.ref a.c_NoBooking) (.type "ValueError") = some true
  e_NotNext : PySem.W.excIn K a.c_NotNext [.type "ValueError", .type "Exception", .type "BaseException", .type "object"] "ValueError.__new__" = true
  x_NotNext : ExcCls K a.c_NotNext
  t_NotNext_HouseError : PySem.W.exmOne K (.ref a.c_NotNext) (.ref a.c_HouseError) = some true
  s_NotNext_BadMonth : PySem.W.kitOne K (.ref a.c_NotNext) (.ref a.c_BadMonth) = some false
  s_NotNext_NoBooking : PySem.W.kitOne K (.ref a.c_NotNext) (.ref a.c_NoBooking) = some false
  s_NotNext_NotNext : PySem.W.kitOne K (.ref a.c_NotNext) (.ref a.c_NotNext) = some true
  s_NotNext_ValueError : PySem.W.kitOne K (.ref a.c_NotNext) (.type "ValueError") = some true
  m_LENGTHS : mg "LENGTHS" = some (.ref a.k_LENGTHS)
  k_LENGTHS : ∃ (o : Obj) (its : Array Value) (n : Nat), K.lookup a.k_LENGTHS = some o ∧ o.cls = .type "tuple" ∧ o.data = .seq its n ∧ its.size ≤ sizeLine ∧ Vals (([31, 28, 31, 30, 31, 30, 31, 31, 30, 31, 30, 31] : List Int).map V.int) its.toList
  z_ValueError : mg "ValueError" = none
  z_all : mg "all" = none
  z_bool : mg "bool" = none
  z_int : mg "int" = none
  z_isinstance : mg "isinstance" = none
  z_len : mg "len" = none
  z_list : mg "list" = none
  z_min : mg "min" = none
  z_range : mg "range" = none
  z_str : mg "str" = none
  z_sum : mg "sum" = none
  z_tuple : mg "tuple" = none
theorem bb_ValueError : bootBuiltins "ValueError" = some (.type "ValueError") := by decide +kernel
theorem bb_all : bootBuiltins "all" = some (.builtin "all") := by decide +kernel
theorem bb_bool : bootBuiltins "bool" = some (.type "bool") := by decide +kernel
theorem bb_int : bootBuiltins "int" = some (.type "int") := by decide +kernel
theorem bb_isinstance : bootBuiltins "isinstance" = some (.builtin "isinstance") := by decide +kernel
theorem bb_len : bootBuiltins "len" = some (.builtin "len") := by decide +kernel
theorem bb_list : bootBuiltins "list" = some (.type "list") := by decide +kernel
theorem bb_min : bootBuiltins "min" = some (.builtin "min") := by decide +kernel
theorem bb_str : bootBuiltins "str" = some (.type "str") := by decide +kernel
theorem bb_sum : bootBuiltins "sum" = some (.builtin "sum") := by decide +kernel
theorem bb_tuple : bootBuiltins "tuple" = some (.type "tuple") := by decide +kernel
theorem sc_is_whole : FnScope ["thing"] ["thing"] (defScope s_is_whole) := ⟨rfl, rfl, rfl, by decide +kernel, rfl, by decide +kernel, by decide +kernel⟩
theorem bn_is_whole {K : PySem.W.Frag} {f : Addr} {fd : FuncData} (F : Fun K "is_whole" "is_whole" s_is_whole f fd) : Binds K fd ["thing"] [] := F.binds (ps := ["thing"]) fun _ _ _ _ _ _ us hl => by obtain ⟨_, rfl⟩ := ex1 hl; rfl
theorem sc_is_among : FnScope ["thing", "least", "most"] ["thing", "least", "most"] (defScope s_is_among) := ⟨rfl, rfl, rfl, by decide +kernel, rfl, by decide +kernel, by decide +kernel⟩
theorem bn_is_among {K : PySem.W.Frag} {f : Addr} {fd : FuncData} (F : Fun K "is_among" "is_among" s_is_among f fd) : Binds K fd ["thing", "least", "most"] [] := F.binds (ps := ["thing", "least", "most"]) fun _ _ _ _ _ _ us hl => by obtain ⟨_, _, _, rfl⟩ := ex3 hl; rfl
theorem sc_is_month : FnScope ["thing"] ["thing"] (defScope s_is_month) := ⟨rfl, rfl, rfl, by decide +kernel, rfl, by decide +kernel, by decide +kernel⟩
theorem bn_is_month {K : PySem.W.Frag} {f : Addr} {fd : FuncData} (F : Fun K "is_month" "is_month" s_is_month f fd) : Binds K fd ["thing"] [] := F.binds (ps := ["thing"]) fun _ _ _ _ _ _ us hl => by obtain ⟨_, rfl⟩ := ex1 hl; rfl
theorem sc_leap_days : FnScope ["years"] ["years"] (defScope s_leap_days) := ⟨rfl, rfl, rfl, by decide +kernel, rfl, by decide +kernel, by decide +kernel⟩
theorem bn_leap_days {K : PySem.W.Frag} {f : Addr} {fd : FuncData} (F : Fun K "leap_days" "leap_days" s_leap_days f fd) : Binds K fd ["years"] [] := F.binds (ps := ["years"]) fun _ _ _ _ _ _ us hl => by obtain ⟨_, rfl⟩ := ex1 hl; rfl
theorem sc_first_day : FnScope ["month", "years", "ahead", "leaps"] ["month"] (defScope s_first_day) := ⟨rfl, rfl, rfl, by decide +kernel, rfl, by decide +kernel, by decide +kernel⟩
theorem bn_first_day {K : PySem.W.Frag} {f : Addr} {fd : FuncData} (F : Fun K "first_day" "first_day" s_first_day f fd) : Binds K fd ["month"] [] := F.binds (ps := ["month"]) fun _ _ _ _ _ _ us hl => by obtain ⟨_, rfl⟩ := ex1 hl; rfl
theorem sc_last_day : FnScope ["month"] ["month"] (defScope s_last_day) := ⟨rfl, rfl, rfl, by decide +kernel, rfl, by decide +kernel, by decide +kernel⟩
theorem bn_last_day {K : PySem.W.Frag} {f : Addr} {fd : FuncData} (F : Fun K "last_day" "last_day" s_last_day f fd) : Binds K fd ["month"] [] := F.binds (ps := ["month"]) fun _ _ _ _ _ _ us hl => by obtain ⟨_, rfl⟩ := ex1 hl; rfl
theorem sc_month_of : FnScope ["day", "month"] ["day"] (defScope s_month_of) := ⟨rfl, rfl, rfl, by decide +kernel, rfl, by decide +kernel, by decide +kernel⟩
theorem bn_month_of {K : PySem.W.Frag} {f : Addr} {fd : FuncData} (F : Fun K "month_of" "month_of" s_month_of f fd) : Binds K fd ["day"] [] := F.binds (ps := ["day"]) fun _ _ _ _ _ _ us hl => by obtain ⟨_, rfl⟩ := ex1 hl; rfl
theorem sc__law_cell_at : FnScope ["_law_script", "_law_k"] ["_law_script", "_law_k"] (defScope s__law_cell_at) := ⟨rfl, rfl, rfl, by decide +kernel, rfl, by decide +kernel, by decide +kernel⟩
theorem bn__law_cell_at {K : PySem.W.Frag} {f : Addr} {fd : FuncData} (F : Fun K "_law_cell_at" "_law_cell_at" s__law_cell_at f fd) : Binds K fd ["_law_script", "_law_k"] [] := F.binds (ps := ["_law_script", "_law_k"]) fun _ _ _ _ _ _ us hl => by obtain ⟨_, _, rfl⟩ := ex2 hl; rfl
theorem sc__law_whole : FnScope ["_law_found"] ["_law_found"] (defScope s__law_whole) := ⟨rfl, rfl, rfl, by decide +kernel, rfl, by decide +kernel, by decide +kernel⟩
theorem bn__law_whole {K : PySem.W.Frag} {f : Addr} {fd : FuncData} (F : Fun K "_law_whole" "_law_whole" s__law_whole f fd) : Binds K fd ["_law_found"] [] := F.binds (ps := ["_law_found"]) fun _ _ _ _ _ _ us hl => by obtain ⟨_, rfl⟩ := ex1 hl; rfl
theorem sc__law_start : FnScope ["_law_year"] ["_law_year"] (defScope s__law_start) := ⟨rfl, rfl, rfl, by decide +kernel, rfl, by decide +kernel, by decide +kernel⟩
theorem bn__law_start {K : PySem.W.Frag} {f : Addr} {fd : FuncData} (F : Fun K "_law_start" "_law_start" s__law_start f fd) : Binds K fd ["_law_year"] [] := F.binds (ps := ["_law_year"]) fun _ _ _ _ _ _ us hl => by obtain ⟨_, rfl⟩ := ex1 hl; rfl
theorem sc__law_lengths : FnScope ["_law_year", "_law_second"] ["_law_year"] (defScope s__law_lengths) := ⟨rfl, rfl, rfl, by decide +kernel, rfl, by decide +kernel, by decide +kernel⟩
theorem bn__law_lengths {K : PySem.W.Frag} {f : Addr} {fd : FuncData} (F : Fun K "_law_lengths" "_law_lengths" s__law_lengths f fd) : Binds K fd ["_law_year"] [] := F.binds (ps := ["_law_year"]) fun _ _ _ _ _ _ us hl => by obtain ⟨_, rfl⟩ := ex1 hl; rfl
theorem sc__law_month_ends : FnScope ["_law_month", "_law_lengths_here", "_law_first"] ["_law_month"] (defScope s__law_month_ends) := ⟨rfl, rfl, rfl, by decide +kernel, rfl, by decide +kernel, by decide +kernel⟩
theorem bn__law_month_ends {K : PySem.W.Frag} {f : Addr} {fd : FuncData} (F : Fun K "_law_month_ends" "_law_month_ends" s__law_month_ends f fd) : Binds K fd ["_law_month"] [] := F.binds (ps := ["_law_month"]) fun _ _ _ _ _ _ us hl => by obtain ⟨_, rfl⟩ := ex1 hl; rfl
theorem sc__law_put : FnScope ["_law_journal", "_law_own_rows", "_law_cell", "_law_more", "_law_rows", "_law_undoes", "_law_free", "_law_due", "_law_handed", "_law_found"] ["_law_journal", "_law_own_rows", "_law_cell", "_law_more"] (defScope s__law_put) := ⟨rfl, rfl, rfl, by decide +kernel, rfl, by decide +kernel, by decide +kernel⟩
theorem bn__law_put {K : PySem.W.Frag} {f : Addr} {fd : FuncData} (F : Fun K "_law_put" "_law_put" s__law_put f fd) : Binds K fd ["_law_journal", "_law_own_rows", "_law_cell", "_law_more"] [] := F.binds (ps := ["_law_journal", "_law_own_rows", "_law_cell", "_law_more"]) fun _ _ _ _ _ _ us hl => by obtain ⟨_, _, _, _, rfl⟩ := ex4 hl; rfl
theorem sc__law_word : FnScope ["_law_e", "_law_words"] ["_law_e"] (defScope s__law_word) := ⟨rfl, rfl, rfl, by decide +kernel, rfl, by decide +kernel, by decide +kernel⟩
theorem bn__law_word {K : PySem.W.Frag} {f : Addr} {fd : FuncData} (F : Fun K "_law_word" "_law_word" s__law_word f fd) : Binds K fd ["_law_e"] [] := F.binds (ps := ["_law_e"]) fun _ _ _ _ _ _ us hl => by obtain ⟨_, rfl⟩ := ex1 hl; rfl
theorem sc__law_shut : FnScope ["_law_gate", "_law_months", "_law_cell", "_law_more", "_law_month", "_law_due", "_law_e"] ["_law_gate", "_law_months", "_law_cell", "_law_more"] (defScope s__law_shut) := ⟨rfl, rfl, rfl, by decide +kernel, rfl, by decide +kernel, by decide +kernel⟩
theorem bn__law_shut {K : PySem.W.Frag} {f : Addr} {fd : FuncData} (F : Fun K "_law_shut" "_law_shut" s__law_shut f fd) : Binds K fd ["_law_gate", "_law_months", "_law_cell", "_law_more"] [] := F.binds (ps := ["_law_gate", "_law_months", "_law_cell", "_law_more"]) fun _ _ _ _ _ _ us hl => by obtain ⟨_, _, _, _, rfl⟩ := ex4 hl; rfl
theorem sc__law_no_booking : FnScope ["_law_journal", "_law_number", "_law_refused", "_law_way", "_law_e"] ["_law_journal", "_law_number"] (defScope s__law_no_booking) := ⟨rfl, rfl, rfl, by decide +kernel, rfl, by decide +kernel, by decide +kernel⟩
theorem bn__law_no_booking {K : PySem.W.Frag} {f : Addr} {fd : FuncData} (F : Fun K "_law_no_booking" "_law_no_booking" s__law_no_booking f fd) : Binds K fd ["_law_journal", "_law_number"] [] := F.binds (ps := ["_law_journal", "_law_number"]) fun _ _ _ _ _ _ us hl => by obtain ⟨_, _, rfl⟩ := ex2 hl; rfl
theorem sc__law_all_right : FnScope ["_law_journal", "_law_own_rows", "_law_shown", "_law_cell", "_law_way", "_law_found"] ["_law_journal", "_law_own_rows", "_law_shown", "_law_cell"] (defScope s__law_all_right) := ⟨rfl, rfl, rfl, by decide +kernel, rfl, by decide +kernel, by decide +kernel⟩
theorem bn__law_all_right {K : PySem.W.Frag} {f : Addr} {fd : FuncData} (F : Fun K "_law_all_right" "_law_all_right" s__law_all_right f fd) : Binds K fd ["_law_journal", "_law_own_rows", "_law_shown", "_law_cell"] [] := F.binds (ps := ["_law_journal", "_law_own_rows", "_law_shown", "_law_cell"]) fun _ _ _ _ _ _ us hl => by obtain ⟨_, _, _, _, rfl⟩ := ex4 hl; rfl
theorem sc__law_ones_right : FnScope ["_law_journal", "_law_own_rows", "_law_cell", "_law_one", "_law_undoers", "_law_way", "_law_found"] ["_law_journal", "_law_own_rows", "_law_cell"] (defScope s__law_ones_right) := ⟨rfl, rfl, rfl, by decide +kernel, rfl, by decide +kernel, by decide +kernel⟩
theorem bn__law_ones_right {K : PySem.W.Frag} {f : Addr} {fd : FuncData} (F : Fun K "_law_ones_right" "_law_ones_right" s__law_ones_right f fd) : Binds K fd ["_law_journal", "_law_own_rows", "_law_cell"] [] := F.binds (ps := ["_law_journal", "_law_own_rows", "_law_cell"]) fun _ _ _ _ _ _ us hl => by obtain ⟨_, _, _, rfl⟩ := ex3 hl; rfl
theorem sc__law_journal_right : FnScope ["_law_journal", "_law_own_rows", "_law_cell", "_law_shown", "_law_many", "_law_odd", "_law_way"] ["_law_journal", "_law_own_rows", "_law_cell", "_law_shown"] (defScope s__law_journal_right) := ⟨rfl, rfl, rfl, by decide +kernel, rfl, by decide +kernel, by decide +kernel⟩
theorem bn__law_journal_right {K : PySem.W.Frag} {f : Addr} {fd : FuncData} (F : Fun K "_law_journal_right" "_law_journal_right" s__law_journal_right f fd) : Binds K fd ["_law_journal", "_law_own_rows", "_law_cell", "_law_shown"] [] := F.binds (ps := ["_law_journal", "_law_own_rows", "_law_cell", "_law_shown"]) fun _ _ _ _ _ _ us hl => by obtain ⟨_, _, _, _, rfl⟩ := ex4 hl; rfl
theorem sc__law_gate_right : FnScope ["_law_gate", "_law_months", "_law_cell", "_law_days", "_law_first", "_law_last", "_law_way", "_law_told"] ["_law_gate", "_law_months", "_law_cell"] (defScope s__law_gate_right) := ⟨rfl, rfl, rfl, by decide +kernel, rfl, by decide +kernel, by decide +kernel⟩
theorem bn__law_gate_right {K : PySem.W.Frag} {f : Addr} {fd : FuncData} (F : Fun K "_law_gate_right" "_law_gate_right" s__law_gate_right f fd) : Binds K fd ["_law_gate", "_law_months", "_law_cell"] [] := F.binds (ps := ["_law_gate", "_law_months", "_law_cell"]) fun _ _ _ _ _ _ us hl => by obtain ⟨_, _, _, rfl⟩ := ex3 hl; rfl
theorem sc_law : FnScope ["_law_script", "_law_journals", "_law_gates", "_law_mine", "_law_months", "_law_shown", "_law_k", "_law_cell", "_law_more", "_law_which", "_law_good", "_law_one"] ["_law_script"] (defScope s_law) := ⟨rfl, rfl, rfl, by decide +kernel, rfl, by decide +kernel, by decide +kernel⟩
theorem sc_Gate___init__ : FnScope ["self"] ["self"] (defScope s_Gate___init__) := ⟨rfl, rfl, rfl, by decide +kernel, rfl, by decide +kernel, by decide +kernel⟩
theorem bn_Gate___init__ {K : PySem.W.Frag} {f : Addr} {fd : FuncData} (F : Fun K "__init__" "Gate.__init__" s_Gate___init__ f fd) : Binds K fd ["self"] [] := F.binds (ps := ["self"]) fun _ _ _ _ _ _ us hl => by obtain ⟨_, rfl⟩ := ex1 hl; rfl
theorem sc_Gate_closed : FnScope ["self"] ["self"] (defScope s_Gate_closed) := ⟨rfl, rfl, rfl, by decide +kernel, rfl, by decide +kernel, by decide +kernel⟩
theorem bn_Gate_closed {K : PySem.W.Frag} {f : Addr} {fd : FuncData} (F : Fun K "closed" "Gate.closed" s_Gate_closed f fd) : Binds K fd ["self"] [] := F.binds (ps := ["self"]) fun _ _ _ _ _ _ us hl => by obtain ⟨_, rfl⟩ := ex1 hl; rfl
theorem sc_Gate_lets : FnScope ["self", "day"] ["self", "day"] (defScope s_Gate_lets) := ⟨rfl, rfl, rfl, by decide +kernel, rfl, by decide +kernel, by decide +kernel⟩
theorem bn_Gate_lets {K : PySem.W.Frag} {f : Addr} {fd : FuncData} (F : Fun K "lets" "Gate.lets" s_Gate_lets f fd) : Binds K fd ["self", "day"] [] := F.binds (ps := ["self", "day"]) fun _ _ _ _ _ _ us hl => by obtain ⟨_, _, rfl⟩ := ex2 hl; rfl
theorem sc_Gate_need_next : FnScope ["self", "month"] ["self", "month"] (defScope s_Gate_need_next) := ⟨rfl, rfl, rfl, by decide +kernel, rfl, by decide +kernel, by decide +kernel⟩
theorem bn_Gate_need_next {K : PySem.W.Frag} {f : Addr} {fd : FuncData} (F : Fun K "need_next" "Gate.need_next" s_Gate_need_next f fd) : Binds K fd ["self", "month"] [] := F.binds (ps := ["self", "month"]) fun _ _ _ _ _ _ us hl => by obtain ⟨_, _, rfl⟩ := ex2 hl; rfl
theorem sc_Gate_shut : FnScope ["self", "month"] ["self", "month"] (defScope s_Gate_shut) := ⟨rfl, rfl, rfl, by decide +kernel, rfl, by decide +kernel, by decide +kernel⟩
theorem bn_Gate_shut {K : PySem.W.Frag} {f : Addr} {fd : FuncData} (F : Fun K "shut" "Gate.shut" s_Gate_shut f fd) : Binds K fd ["self", "month"] [] := F.binds (ps := ["self", "month"]) fun _ _ _ _ _ _ us hl => by obtain ⟨_, _, rfl⟩ := ex2 hl; rfl
theorem sc_Journal___init__ : FnScope ["self"] ["self"] (defScope s_Journal___init__) := ⟨rfl, rfl, rfl, by decide +kernel, rfl, by decide +kernel, by decide +kernel⟩
theorem bn_Journal___init__ {K : PySem.W.Frag} {f : Addr} {fd : FuncData} (F : Fun K "__init__" "Journal.__init__" s_Journal___init__ f fd) : Binds K fd ["self"] [] := F.binds (ps := ["self"]) fun _ _ _ _ _ _ us hl => by obtain ⟨_, rfl⟩ := ex1 hl; rfl
theorem sc_Journal_put : FnScope ["self", "day", "note", "rows", "undoes", "number"] ["self", "day", "note", "rows", "undoes"] (defScope s_Journal_put) := ⟨rfl, rfl, rfl, by decide +kernel, rfl, by decide +kernel, by decide +kernel⟩
theorem bn_Journal_put {K : PySem.W.Frag} {f : Addr} {fd : FuncData} (F : Fun K "put" "Journal.put" s_Journal_put f fd) : Binds K fd ["self", "day", "note", "rows", "undoes"] [] := F.binds (ps := ["self", "day", "note", "rows", "undoes"]) fun _ _ _ _ _ _ us hl => by obtain ⟨_, _, _, _, _, rfl⟩ := ex5 hl; rfl
theorem sc_Journal_many : FnScope ["self"] ["self"] (defScope s_Journal_many) := ⟨rfl, rfl, rfl, by decide +kernel, rfl, by decide +kernel, by decide +kernel⟩
theorem bn_Journal_many {K : PySem.W.Frag} {f : Addr} {fd : FuncData} (F : Fun K "many" "Journal.many" s_Journal_many f fd) : Binds K fd ["self"] [] := F.binds (ps := ["self"]) fun _ _ _ _ _ _ us hl => by obtain ⟨_, rfl⟩ := ex1 hl; rfl
theorem sc_Journal_booking : FnScope ["self", "number"] ["self", "number"] (defScope s_Journal_booking) := ⟨rfl, rfl, rfl, by decide +kernel, rfl, by decide +kernel, by decide +kernel⟩
theorem bn_Journal_booking {K : PySem.W.Frag} {f : Addr} {fd : FuncData} (F : Fun K "booking" "Journal.booking" s_Journal_booking f fd) : Binds K fd ["self", "number"] [] := F.binds (ps := ["self", "number"]) fun _ _ _ _ _ _ us hl => by obtain ⟨_, _, rfl⟩ := ex2 hl; rfl
theorem sc_Journal_every : FnScope ["self"] ["self"] (defScope s_Journal_every) := ⟨rfl, rfl, rfl, by decide +kernel, rfl, by decide +kernel, by decide +kernel⟩
theorem bn_Journal_every {K : PySem.W.Frag} {f : Addr} {fd : FuncData} (F : Fun K "every" "Journal.every" s_Journal_every f fd) : Binds K fd ["self"] [] := F.binds (ps := ["self"]) fun _ _ _ _ _ _ us hl => by obtain ⟨_, rfl⟩ := ex1 hl; rfl
theorem sc_Journal_undone_by : FnScope ["self", "number"] ["self", "number"] (defScope s_Journal_undone_by) := ⟨rfl, rfl, rfl, by decide +kernel, rfl, by decide +kernel, by decide +kernel⟩
theorem bn_Journal_undone_by {K : PySem.W.Frag} {f : Addr} {fd : FuncData} (F : Fun K "undone_by" "Journal.undone_by" s_Journal_undone_by f fd) : Binds K fd ["self", "number"] [] := F.binds (ps := ["self", "number"]) fun _ _ _ _ _ _ us hl => by obtain ⟨_, _, rfl⟩ := ex2 hl; rfl
end K13
set_option Elab.async false
set_option linter.all false
set_option maxRecDepth 100000
set_option maxHeartbeats 400000
namespace K13
open PySem L2
seal L2.PE L2.PT L2.PW L2.PA L2.PS L2.PSs L2.PI L2.PG L2.PGs L2.PO
section
variable {pS : Addr} {ns : List Int} {P : Program} {w : World} {K : PySem.W.Frag} {mg : Str → Option Value} {base : Heap} {a : Adr}
open K3
def sp_is_whole : Sp := sp1 fun x H Q _ => NoT H ∧ asK H x fun _ => Q (.bl (isI x)) H
theorem ok_is_whole (T : Txt K mg a) : FnOk P w K mg base (XE P w) 1 a.f_is_whole a.fd_is_whole ["thing"] sp_is_whole := by
  refine T.F_is_whole.okG sc_is_whole (fun vs H Q E h => sp1.len h) (fun cdv A outer s H vs Q E hr h => ?_)
  obtain ⟨x0, rfl, h⟩ := sp1.inv h
  have ND := sc_is_whole.nd
  have PX : Passes' (XE P w) (cxOf (XE P w) P w K mg base ["thing"] "is_whole" (defScope s_is_whole) a.f_is_whole cdv A outer s H (gcE H E)) (fun _ => (gcE H E)) := passB
  have RX : Raises (cxOf (XE P w) P w K mg base ["thing"] "is_whole" (defScope s_is_whole) a.f_is_whole cdv A outer s H (gcE H E)) (fun _ => (gcE H E)) := raisesB
  have HU : (cxOf (XE P w) P w K mg base ["thing"] "is_whole" (defScope s_is_whole) a.f_is_whole cdv A outer s H (gcE H E)).A.units + 100 < cLine := units100 hr
  obtain ⟨hN, h1⟩ := h
  obtain ⟨t, ht, hb, k⟩ := asK.inv h1
  refine ⟨hN, _, (pss_one (ps_ret (fe_and (pe_callB (fc_isiK K) rfl T.z_isinstance bb_isinstance (FA.pa (fa_cons (fv 0) (fa_cons (pe_bltn (v := .ty "int") rfl T.z_int bb_int rfl) fa_nil)))) (pe_one (fe_not (pe_callB (fc_isiK K) rfl T.z_isinstance bb_isinstance (FA.pa (fa_cons (fv 0) (fa_cons (pe_bltn (v := .ty "bool") rfl T.z_bool bb_bool rfl) fa_nil))))))))), ?_⟩
  simp only [rdAll, rdI, V.int.injEq, V.ref.injEq, eqQ_int, eqQ_bl, eqQ_str, eqQ_ref, eqQ_nn, eqQ_ni, eqQ_in, eqQ_is, eqQ_si, L2.start, List.map_cons, List.map_nil, List.cons_append, List.nil_append, List.append_nil, List.length_cons, List.length_nil, List.replicate, List.getElem?_cons_zero, List.getElem?_cons_succ, List.set_cons_zero, List.set_cons_succ, Nat.reduceSub, Nat.reduceAdd, Int.reduceLT, Int.reduceLE, Int.reducePow, Int.reduceNeg, Nat.reducePow, List.cons.injEq, exists_eq_left', exists_eq_left, eq_self, if_false, if_true, ↓reduceIte, ite_not, forall_const, Option.join, Option.bind_some, id_eq]
  simp only [ht]
  rw [← kind_int ht] at k
  rcases hb with rfl | rfl | rfl | rfl | rfl | rfl | rfl
  all_goals first
    | exact iteT k
    | exact iteF k
theorem ok__law_whole (T : Txt K mg a) : FnOk P w K mg base (XE P w) 1 a.f__law_whole a.fd__law_whole ["_law_found"] sp_is_whole := by
  refine T.F__law_whole.okG sc__law_whole (fun vs H Q E h => sp1.len h) (fun cdv A outer s H vs Q E hr h => ?_)
  obtain ⟨x0, rfl, h⟩ := sp1.inv h
  have ND := sc__law_whole.nd
  have PX : Passes' (XE P w) (cxOf (XE P w) P w K mg base ["_law_found"] "_law_whole" (defScope s__law_whole) a.f__law_whole cdv A outer s H (gcE H E)) (fun _ => (gcE H E)) := passB
  have RX : Raises (cxOf (XE P w) P w K mg base ["_law_found"] "_law_whole" (defScope s__law_whole) a.f__law_whole cdv A outer s H (gcE H E)) (fun _ => (gcE H E)) := raisesB
  have HU : (cxOf (XE P w) P w K mg base ["_law_found"] "_law_whole" (defScope s__law_whole) a.f__law_whole cdv A outer s H (gcE H E)).A.units + 100 < cLine := units100 hr
  obtain ⟨hN, h1⟩ := h
  obtain ⟨t, ht, hb, k⟩ := asK.inv h1
  refine ⟨hN, _, (pss_one (ps_ret (fe_and (pe_callB (fc_isiK K) rfl T.z_isinstance bb_isinstance (FA.pa (fa_cons (fv 0) (fa_cons (pe_bltn (v := .ty "int") rfl T.z_int bb_int rfl) fa_nil)))) (pe_one (fe_not (pe_callB (fc_isiK K) rfl T.z_isinstance bb_isinstance (FA.pa (fa_cons (fv 0) (fa_cons (pe_bltn (v := .ty "bool") rfl T.z_bool bb_bool rfl) fa_nil))))))))), ?_⟩
  simp only [rdAll, rdI, V.int.injEq, V.ref.injEq, eqQ_int, eqQ_bl, eqQ_str, eqQ_ref, eqQ_nn, eqQ_ni, eqQ_in, eqQ_is, eqQ_si, L2.start, List.map_cons, List.map_nil, List.cons_append, List.nil_append, List.append_nil, List.length_cons, List.length_nil, List.replicate, List.getElem?_cons_zero, List.getElem?_cons_succ, List.set_cons_zero, List.set_cons_succ, Nat.reduceSub, Nat.reduceAdd, Int.reduceLT, Int.reduceLE, Int.reducePow, Int.reduceNeg, Nat.reducePow, List.cons.injEq, exists_eq_left', exists_eq_left, eq_self, if_false, if_true, ↓reduceIte, ite_not, forall_const, Option.join, Option.bind_some, id_eq]
  simp only [ht]
  rw [← kind_int ht] at k
  rcases hb with rfl | rfl | rfl | rfl | rfl | rfl | rfl
  all_goals first
    | exact iteT k
    | exact iteF k
def amg (x : V) (lo hi : Int) : Bool := match x with
  | .int i => decide (lo ≤ i) && decide (i ≤ hi)
  | _ => false
theorem amg_not {x : V} {lo hi : Int} (h : isI x = false) : amg x lo hi = false := by
  unfold amg
  split
  · cases h
  · rfl
def sp_is_among : Sp := sp3 fun x y z H Q _ => NoT H ∧ asI y fun lo => asI z fun hi => asK H x fun _ => Q (.bl (amg x lo hi)) H
theorem ok_is_among (T : Txt K mg a) : FnOk P w K mg base (XE P w) 2 a.f_is_among a.fd_is_among ["thing", "least", "most"] sp_is_among := by
  refine T.F_is_among.okG sc_is_among (fun vs H Q E h => sp3.len h) (fun cdv A outer s H vs Q E hr h => ?_)
  obtain ⟨x0, x1, x2, rfl, h⟩ := sp3.inv h
  have ND := sc_is_among.nd
  have PX : Passes' (XE P w) (cxOf (XE P w) P w K mg base ["thing", "least", "most"] "is_among" (defScope s_is_among) a.f_is_among cdv A outer s H (gcE H E)) (fun _ => (gcE H E)) := passB
  have RX : Raises (cxOf (XE P w) P w K mg base ["thing", "least", "most"] "is_among" (defScope s_is_among) a.f_is_among cdv A outer s H (gcE H E)) (fun _ => (gcE H E)) := raisesB
  have HU : (cxOf (XE P w) P w K mg base ["thing", "least", "most"] "is_among" (defScope s_is_among) a.f_is_among cdv A outer s H (gcE H E)).A.units + 100 < cLine := units100 hr
  obtain ⟨hN, h1⟩ := h
  obtain ⟨lo, rfl, h2⟩ := asI.inv h1
  obtain ⟨hi, rfl, h3⟩ := asI.inv h2
  obtain ⟨t, ht, hb, k⟩ := asK.inv h3
  have G_is_whole := ok_is_whole (P := P) (w := w) (base := base) T
  have b_is_whole := bn_is_whole T.F_is_whole
  refine ⟨hN, _, (pss_one (ps_ret (fe_and (pe_callX G_is_whole (hr.mono (by decide)) rfl T.m_is_whole T.F_is_whole.kp b_is_whole .nil PX (FA.pa (fa_cons (fv 0) fa_nil))) (pe_one (fe_chain fo_le fo_le (fv 1) (fv 0) (fv 2)))))), ?_⟩
  ((try dsimp only [sp_is_whole]); try simp only [rdAll, rdI, V.int.injEq, V.ref.injEq, eqQ_int, eqQ_bl, eqQ_str, eqQ_ref, eqQ_nn, eqQ_ni, eqQ_in, eqQ_is, eqQ_si, L2.start, List.map_cons, List.map_nil, List.cons_append, List.nil_append, List.append_nil, List.length_cons, List.length_nil, List.replicate, List.getElem?_cons_zero, List.getElem?_cons_succ, List.set_cons_zero, List.set_cons_succ, Nat.reduceSub, Nat.reduceAdd, Int.reduceLT, Int.reduceLE, Int.reducePow, Int.reduceNeg, Nat.reducePow, List.cons.injEq, exists_eq_left', exists_eq_left, eq_self, if_false, if_true, ↓reduceIte, ite_not, forall_const, Option.join, Option.bind_some, id_eq])
  refine ⟨hN, asK.of ht ?_⟩
  cases e : isI x0 with
  | false =>
    rw [amg_not e] at k
    exact iteF k
  | true =>
    cases x0 with
    | int i =>
      refine iteT ?_
      ((try dsimp only [sp_is_whole]); try simp only [rdAll, rdI, V.int.injEq, V.ref.injEq, eqQ_int, eqQ_bl, eqQ_str, eqQ_ref, eqQ_nn, eqQ_ni, eqQ_in, eqQ_is, eqQ_si, L2.start, List.map_cons, List.map_nil, List.cons_append, List.nil_append, List.append_nil, List.length_cons, List.length_nil, List.replicate, List.getElem?_cons_zero, List.getElem?_cons_succ, List.set_cons_zero, List.set_cons_succ, Nat.reduceSub, Nat.reduceAdd, Int.reduceLT, Int.reduceLE, Int.reducePow, Int.reduceNeg, Nat.reducePow, List.cons.injEq, exists_eq_left', exists_eq_left, eq_self, if_false, if_true, ↓reduceIte, ite_not, forall_const, Option.join, Option.bind_some, id_eq])
      split
      · rename_i h1
        have e : amg (.int i) lo hi = decide (i ≤ hi) := by simp [amg, h1]
        rw [e] at k; exact k
      · rename_i h1
        have e : amg (.int i) lo hi = false := by simp [amg, h1]
        rw [e] at k; exact k
    | _ => cases e
def sp_is_month : Sp := sp1 fun x H Q _ => NoT H ∧ asK H x fun _ => Q (.bl (amg x 0 4799)) H
theorem ok_is_month (T : Txt K mg a) : FnOk P w K mg base (XE P w) 3 a.f_is_month a.fd_is_month ["thing"] sp_is_month := by
  refine T.F_is_month.okG sc_is_month (fun vs H Q E h => sp1.len h) (fun cdv A outer s H vs Q E hr h => ?_)
  obtain ⟨x0, rfl, h⟩ := sp1.inv h
  have ND := sc_is_month.nd
  have PX : Passes' (XE P w) (cxOf (XE P w) P w K mg base ["thing"] "is_month" (defScope s_is_month) a.f_is_month cdv A outer s H (gcE H E)) (fun _ => (gcE H E)) := passB
  have RX : Raises (cxOf (XE P w) P w K mg base ["thing"] "is_month" (defScope s_is_month) a.f_is_month cdv A outer s H (gcE H E)) (fun _ => (gcE H E)) := raisesB
  have HU : (cxOf (XE P w) P w K mg base ["thing"] "is_month" (defScope s_is_month) a.f_is_month cdv A outer s H (gcE H E)).A.units + 100 < cLine := units100 hr
  obtain ⟨hN, h1⟩ := h
  have G_is_among := ok_is_among (P := P) (w := w) (base := base) T
  have b_is_among := bn_is_among T.F_is_among
  refine ⟨hN, _, (pss_one (ps_ret (pe_callX G_is_among (hr.mono (by decide)) rfl T.m_is_among T.F_is_among.kp b_is_among .nil PX (FA.pa (fa_cons (fv 0) (fa_cons pe_int (fa_cons pe_int fa_nil))))))), ?_⟩
  ((try dsimp only [sp_is_whole, sp_is_among]); try simp only [rdAll, rdI, V.int.injEq, V.ref.injEq, eqQ_int, eqQ_bl, eqQ_str, eqQ_ref, eqQ_nn, eqQ_ni, eqQ_in, eqQ_is, eqQ_si, L2.start, List.map_cons, List.map_nil, List.cons_append, List.nil_append, List.append_nil, List.length_cons, List.length_nil, List.replicate, List.getElem?_cons_zero, List.getElem?_cons_succ, List.set_cons_zero, List.set_cons_succ, Nat.reduceSub, Nat.reduceAdd, Int.reduceLT, Int.reduceLE, Int.reducePow, Int.reduceNeg, Nat.reducePow, List.cons.injEq, exists_eq_left', exists_eq_left, eq_self, if_false, if_true, ↓reduceIte, ite_not, forall_const, Option.join, Option.bind_some, id_eq])
  exact ⟨hN, h1⟩
def sp_leap_days : Sp := sp1 fun x H Q _ => asI x fun y => NoT H ∧ Q (.int (LD y)) H
theorem ok_leap_days (T : Txt K mg a) : FnOk P w K mg base (XE P w) 1 a.f_leap_days a.fd_leap_days ["years"] sp_leap_days := by
  refine T.F_leap_days.okG sc_leap_days (fun vs H Q E h => sp1.len h) (fun cdv A outer s H vs Q E hr h => ?_)
  obtain ⟨x0, rfl, h⟩ := sp1.inv h
  have ND := sc_leap_days.nd
  have PX : Passes' (XE P w) (cxOf (XE P w) P w K mg base ["years"] "leap_days" (defScope s_leap_days) a.f_leap_days cdv A outer s H (gcE H E)) (fun _ => (gcE H E)) := passB
  have RX : Raises (cxOf (XE P w) P w K mg base ["years"] "leap_days" (defScope s_leap_days) a.f_leap_days cdv A outer s H (gcE H E)) (fun _ => (gcE H E)) := raisesB
  have HU : (cxOf (XE P w) P w K mg base ["years"] "leap_days" (defScope s_leap_days) a.f_leap_days cdv A outer s H (gcE H E)).A.units + 100 < cLine := units100 hr
  obtain ⟨y, rfl, hN, k⟩ := asI.inv h
  refine ⟨hN, _, (pss_one (ps_ret (pe_op fo_add (pe_op fo_sub (pe_op fo_fdiv (pe_op fo_add (fv 0) pe_int) pe_int) (pe_op fo_fdiv (pe_op fo_add (fv 0) pe_int) pe_int)) (pe_op fo_fdiv (pe_op fo_add (fv 0) pe_int) pe_int)))), ?_⟩
  ((try dsimp only [sp_is_whole, sp_is_among]); try simp only [rdAll, rdI, V.int.injEq, V.ref.injEq, eqQ_int, eqQ_bl, eqQ_str, eqQ_ref, eqQ_nn, eqQ_ni, eqQ_in, eqQ_is, eqQ_si, L2.start, List.map_cons, List.map_nil, List.cons_append, List.nil_append, List.append_nil, List.length_cons, List.length_nil, List.replicate, List.getElem?_cons_zero, List.getElem?_cons_succ, List.set_cons_zero, List.set_cons_succ, Nat.reduceSub, Nat.reduceAdd, Int.reduceLT, Int.reduceLE, Int.reducePow, Int.reduceNeg, Nat.reducePow, List.cons.injEq, exists_eq_left', exists_eq_left, eq_self, if_false, if_true, ↓reduceIte, ite_not, forall_const, Option.join, Option.bind_some, id_eq])
  exact k
theorem cut_take (xs : List V) {i : Int} (h : 0 ≤ i) : cutV xs none (some i) = xs.take i.toNat := by
  unfold cutV
  have e : i = ((i.toNat : Nat) : Int) := by omega
  rw [e, HT.sIx_none, HT.sIx_nat, List.drop_zero, Nat.sub_zero]
  by_cases hl : i.toNat ≤ xs.length
  · rw [Nat.min_eq_left hl]; rfl
  · rw [Nat.min_eq_right (by omega), List.take_of_length_le (by omega), List.take_of_length_le (by simp; omega)]
def LEN : List Int := [31, 28, 31, 30, 31, 30, 31, 31, 30, 31, 30, 31]
theorem S_take {i : Int} (h0 : 0 ≤ i) (h1 : i < 12) : (LEN.take i.toNat).sum = S i := by
  have hc : i = 0 ∨ i = 1 ∨ i = 2 ∨ i = 3 ∨ i = 4 ∨ i = 5 ∨ i = 6 ∨ i = 7 ∨ i = 8 ∨ i = 9 ∨ i = 10 ∨ i = 11 := by omega
  rcases hc with h | h | h | h | h | h | h | h | h | h | h | h <;> subst h <;> decide
theorem seqL (T : Txt K mg a) (H : Hp) : SqT K H a.k_LENGTHS (LEN.map V.int) := .inr T.k_LENGTHS
def sp_first_day : Sp := sp1 fun x H Q _ => asI x fun m => NoT H ∧ Q (.int (FD m)) H
theorem ok_first_day (T : Txt K mg a) : FnOk P w K mg base (XE P w) 2 a.f_first_day a.fd_first_day ["month"] sp_first_day := by
  refine T.F_first_day.okG sc_first_day (fun vs H Q E h => sp1.len h) (fun cdv A outer s H vs Q E hr h => ?_)
  obtain ⟨x0, rfl, h⟩ := sp1.inv h
  have ND := sc_first_day.nd
  have PX : Passes' (XE P w) (cxOf (XE P w) P w K mg base ["month", "years", "ahead", "leaps"] "first_day" (defScope s_first_day) a.f_first_day cdv A outer s H (gcE H E)) (fun _ => (gcE H E)) := passB
  have RX : Raises (cxOf (XE P w) P w K mg base ["month", "years", "ahead", "leaps"] "first_day" (defScope s_first_day) a.f_first_day cdv A outer s H (gcE H E)) (fun _ => (gcE H E)) := raisesB
  have HU : (cxOf (XE P w) P w K mg base ["month", "years", "ahead", "leaps"] "first_day" (defScope s_first_day) a.f_first_day cdv A outer s H (gcE H E)).A.units + 100 < cLine := units100 hr
  obtain ⟨m, rfl, hN, k⟩ := asI.inv h
  have G_leap_days := ok_leap_days (P := P) (w := w) (base := base) T
  have b_leap_days := bn_leap_days T.F_leap_days
  refine ⟨hN, _, (pss_cons (ps_set (i := 1) ND rfl (Or.inl rfl) (pe_op fo_fdiv (fv 0) pe_int))
      (pss_cons (ps_set (i := 2) ND rfl (Or.inl rfl) (pe_op fo_mod (fv 0) pe_int))
      (pss_cons (ps_set (i := 3) ND rfl (Or.inl rfl) (pe_ifExp (ft_cmp fo_gt (fv 2) pe_int (nomark _)) (pe_callX G_leap_days (hr.mono (by decide)) rfl T.m_leap_days T.F_leap_days.kp b_leap_days .nil PX (FA.pa (fa_cons (pe_op fo_add (fv 1) pe_int) fa_nil))) (pe_callX G_leap_days (hr.mono (by decide)) rfl T.m_leap_days T.F_leap_days.kp b_leap_days .nil PX (FA.pa (fa_cons (fv 1) fa_nil)))))
      (pss_one (ps_ret (pe_op fo_add (pe_op fo_add (pe_op fo_mul pe_int (fv 1)) (fv 3)) (pe_callB (fc_sumA K rfl) rfl T.z_sum bb_sum (FA.pa (fa_cons (pe_slice (fs_tupK K) (pe_glob (v := .ref a.k_LENGTHS) rfl T.m_LENGTHS rfl) po_none (po_some (fv 2))) fa_nil))))))))), ?_⟩
  ((try dsimp only [sp_is_whole, sp_is_among, sp_is_month, sp_leap_days]); try simp only [rdAll, rdI, V.int.injEq, V.ref.injEq, eqQ_int, eqQ_bl, eqQ_str, eqQ_ref, eqQ_nn, eqQ_ni, eqQ_in, eqQ_is, eqQ_si, L2.start, List.map_cons, List.map_nil, List.cons_append, List.nil_append, List.append_nil, List.length_cons, List.length_nil, List.replicate, List.getElem?_cons_zero, List.getElem?_cons_succ, List.set_cons_zero, List.set_cons_succ, Nat.reduceSub, Nat.reduceAdd, Int.reduceLT, Int.reduceLE, Int.reducePow, Int.reduceNeg, Nat.reducePow, List.cons.injEq, exists_eq_left', exists_eq_left, eq_self, if_false, if_true, ↓reduceIte, ite_not, forall_const, Option.join, Option.bind_some, id_eq])
  have b0 : 0 ≤ m % 12 := Int.emod_nonneg _ (by decide)
  have b1 : m % 12 < 12 := Int.emod_lt_of_pos _ (by decide)
  have nw : ¬ (HT.sIx (LEN.map V.int).length 0 none = 0 ∧ HT.sIx (LEN.map V.int).length (LEN.map V.int).length (some (m % 12)) = (LEN.map V.int).length) := fun ⟨_, z⟩ => by
    have e : m % 12 = (((m % 12).toNat : Nat) : Int) := by omega
    rw [e, HT.sIx_nat] at z
    have l : (LEN.map V.int).length = 12 := rfl
    rw [l] at z
    omega
  have fin : ∀ (p : Addr), (upd H p (.tup (cutV (LEN.map V.int) none (some (m % 12))))) p = some (.tup ((LEN.take (m % 12).toNat).map V.int)) := fun p => by
    rw [upd_same, cut_take _ b0, List.map_take]
  split
  · rename_i h1
    refine ⟨hN, a.k_LENGTHS, _, rfl, seqL T _, nw, fun p hp => ⟨LEN.take (m % 12).toNat, .inr (SqT.of (fin p)), H, Gc.none (same_upd _ hp), ?_⟩⟩
    have e : 365 * (m / 12) + LD (m / 12 + 1) + (LEN.take (m % 12).toNat).sum = FD m := by
      rw [S_take b0 b1]; unfold FD; rw [if_pos h1]
    rw [e]; exact k
  · rename_i h1
    refine ⟨hN, a.k_LENGTHS, _, rfl, seqL T _, nw, fun p hp => ⟨LEN.take (m % 12).toNat, .inr (SqT.of (fin p)), H, Gc.none (same_upd _ hp), ?_⟩⟩
    have e : 365 * (m / 12) + LD (m / 12) + (LEN.take (m % 12).toNat).sum = FD m := by
      rw [S_take b0 b1]; unfold FD; rw [if_neg h1]
    rw [e]; exact k
def sp_last_day : Sp := sp1 fun x H Q _ => asI x fun m => NoT H ∧ Q (.int (FD (m + 1) - 1)) H
theorem ok_last_day (T : Txt K mg a) : FnOk P w K mg base (XE P w) 3 a.f_last_day a.fd_last_day ["month"] sp_last_day := by
  refine T.F_last_day.okG sc_last_day (fun vs H Q E h => sp1.len h) (fun cdv A outer s H vs Q E hr h => ?_)
  obtain ⟨x0, rfl, h⟩ := sp1.inv h
  have ND := sc_last_day.nd
  have PX : Passes' (XE P w) (cxOf (XE P w) P w K mg base ["month"] "last_day" (defScope s_last_day) a.f_last_day cdv A outer s H (gcE H E)) (fun _ => (gcE H E)) := passB
  have RX : Raises (cxOf (XE P w) P w K mg base ["month"] "last_day" (defScope s_last_day) a.f_last_day cdv A outer s H (gcE H E)) (fun _ => (gcE H E)) := raisesB
  have HU : (cxOf (XE P w) P w K mg base ["month"] "last_day" (defScope s_last_day) a.f_last_day cdv A outer s H (gcE H E)).A.units + 100 < cLine := units100 hr
  obtain ⟨m, rfl, hN, k⟩ := asI.inv h
  have G_first_day := ok_first_day (P := P) (w := w) (base := base) T
  have b_first_day := bn_first_day T.F_first_day
  refine ⟨hN, _, (pss_one (ps_ret (pe_op fo_sub (pe_callX G_first_day (hr.mono (by decide)) rfl T.m_first_day T.F_first_day.kp b_first_day .nil PX (FA.pa (fa_cons (pe_op fo_add (fv 0) pe_int) fa_nil))) pe_int))), ?_⟩
  ((try dsimp only [sp_is_whole, sp_is_among, sp_is_month, sp_leap_days, sp_first_day]); try simp only [rdAll, rdI, V.int.injEq, V.ref.injEq, eqQ_int, eqQ_bl, eqQ_str, eqQ_ref, eqQ_nn, eqQ_ni, eqQ_in, eqQ_is, eqQ_si, L2.start, List.map_cons, List.map_nil, List.cons_append, List.nil_append, List.append_nil, List.length_cons, List.length_nil, List.replicate, List.getElem?_cons_zero, List.getElem?_cons_succ, List.set_cons_zero, List.set_cons_succ, Nat.reduceSub, Nat.reduceAdd, Int.reduceLT, Int.reduceLE, Int.reducePow, Int.reduceNeg, Nat.reducePow, List.cons.injEq, exists_eq_left', exists_eq_left, eq_self, if_false, if_true, ↓reduceIte, ite_not, forall_const, Option.join, Option.bind_some, id_eq])
  exact ⟨hN, k⟩
def sp_month_of : Sp := sp1 fun x H Q _ => asI x fun d => NoT H ∧ (0 ≤ d ∧ d ≤ 146096) ∧ Q (.int (MO d)) H
theorem ok_month_of (T : Txt K mg a) : FnOk P w K mg base (XE P w) 4 a.f_month_of a.fd_month_of ["day"] sp_month_of := by
  refine T.F_month_of.okG sc_month_of (fun vs H Q E h => sp1.len h) (fun cdv A outer s H vs Q E hr h => ?_)
  obtain ⟨x0, rfl, h⟩ := sp1.inv h
  have ND := sc_month_of.nd
  have PX : Passes' (XE P w) (cxOf (XE P w) P w K mg base ["day", "month"] "month_of" (defScope s_month_of) a.f_month_of cdv A outer s H (gcE H E)) (fun _ => (gcE H E)) := passB
  have RX : Raises (cxOf (XE P w) P w K mg base ["day", "month"] "month_of" (defScope s_month_of) a.f_month_of cdv A outer s H (gcE H E)) (fun _ => (gcE H E)) := raisesB
  have HU : (cxOf (XE P w) P w K mg base ["day", "month"] "month_of" (defScope s_month_of) a.f_month_of cdv A outer s H (gcE H E)).A.units + 100 < cLine := units100 hr
  have PW : PassesOwn (model P w) (cxOf (XE P w) P w K mg base ["day", "month"] "month_of" (defScope s_month_of) a.f_month_of cdv A outer s H (gcE H E)).A (cxOf (XE P w) P w K mg base ["day", "month"] "month_of" (defScope s_month_of) a.f_month_of cdv A outer s H (gcE H E)).env (cxOf (XE P w) P w K mg base ["day", "month"] "month_of" (defScope s_month_of) a.f_month_of cdv A outer s H (gcE H E)).xe := by passes_own
  obtain ⟨d, rfl, hN, ⟨d0, d1⟩, k⟩ := asI.inv h
  have G_last_day := ok_last_day (P := P) (w := w) (base := base) T
  have b_last_day := bn_last_day T.F_last_day
  have G_first_day := ok_first_day (P := P) (w := w) (base := base) T
  have b_first_day := bn_first_day T.F_first_day
  refine ⟨hN, _, (pss_cons (ps_set (i := 1) ND rfl (Or.inl rfl) (pe_op fo_fdiv (pe_op fo_mul (fv 0) pe_int) pe_int))
      (pss_cons (ps_while PW (ft_cmp fo_gt (pe_callX G_first_day (hr.mono (by decide)) rfl T.m_first_day T.F_first_day.kp b_first_day .nil PX (FA.pa (fa_cons (fv 1) fa_nil))) (fv 0) (nomark _)) (pss_one (ps_set (i := 1) ND rfl (Or.inl rfl) (pe_op fo_sub (fv 1) pe_int))))
      (pss_cons (ps_while PW (ft_cmp fo_lt (pe_callX G_last_day (hr.mono (by decide)) rfl T.m_last_day T.F_last_day.kp b_last_day .nil PX (FA.pa (fa_cons (fv 1) fa_nil))) (fv 0) (nomark _)) (pss_one (ps_set (i := 1) ND rfl (Or.inl rfl) (pe_op fo_add (fv 1) pe_int))))
      (pss_one (ps_ret (fv 1)))))), ?_⟩
  ((try dsimp only [sp_is_whole, sp_is_among, sp_is_month, sp_leap_days, sp_first_day, sp_last_day]); try simp only [rdAll, rdI, V.int.injEq, V.ref.injEq, eqQ_int, eqQ_bl, eqQ_str, eqQ_ref, eqQ_nn, eqQ_ni, eqQ_in, eqQ_is, eqQ_si, L2.start, List.map_cons, List.map_nil, List.cons_append, List.nil_append, List.append_nil, List.length_cons, List.length_nil, List.replicate, List.getElem?_cons_zero, List.getElem?_cons_succ, List.set_cons_zero, List.set_cons_succ, Nat.reduceSub, Nat.reduceAdd, Int.reduceLT, Int.reduceLE, Int.reducePow, Int.reduceNeg, Nat.reducePow, List.cons.injEq, exists_eq_left', exists_eq_left, eq_self, if_false, if_true, ↓reduceIte, ite_not, forall_const, Option.join, Option.bind_some, id_eq])
  refine ⟨fun n σ H1 => ∃ m, σ = [some (.int d), some (.int m)] ∧ H = H1 ∧ 0 ≤ m ∧ m ≤ 4799 ∧ n = m.toNat, ⟨_, _, rfl, rfl, by omega, by omega, rfl⟩, ?_⟩
  rintro n σ H1 ⟨m, rfl, rfl, m0, m1, rfl⟩
  ((try dsimp only [sp_is_whole, sp_is_among, sp_is_month, sp_leap_days, sp_first_day, sp_last_day]); try simp only [rdAll, rdI, V.int.injEq, V.ref.injEq, eqQ_int, eqQ_bl, eqQ_str, eqQ_ref, eqQ_nn, eqQ_ni, eqQ_in, eqQ_is, eqQ_si, L2.start, List.map_cons, List.map_nil, List.cons_append, List.nil_append, List.append_nil, List.length_cons, List.length_nil, List.replicate, List.getElem?_cons_zero, List.getElem?_cons_succ, List.set_cons_zero, List.set_cons_succ, Nat.reduceSub, Nat.reduceAdd, Int.reduceLT, Int.reduceLE, Int.reducePow, Int.reduceNeg, Nat.reducePow, List.cons.injEq, exists_eq_left', exists_eq_left, eq_self, if_false, if_true, ↓reduceIte, ite_not, forall_const, Option.join, Option.bind_some, id_eq])
  refine ⟨hN, ?_⟩
  split
  · rename_i h2
    have hm : 1 ≤ m := by
      by_cases z : m = 0
      · rw [z, FD_0] at h2; omega
      · omega
    refine ⟨_, fun σ' H' z => z, (m - 1).toNat, by omega, m - 1, rfl, rfl, by omega, by omega, rfl⟩
  · rename_i h2
    refine ⟨fun n σ H1 => ∃ m, σ = [some (.int d), some (.int m)] ∧ H = H1 ∧ 0 ≤ m ∧ m ≤ 4799 ∧ FD m ≤ d ∧ n = (4800 - m).toNat, ⟨_, _, rfl, rfl, m0, m1, by omega, rfl⟩, ?_⟩
    rintro n σ H1 ⟨m', rfl, rfl, m0', m1', h3, rfl⟩
    ((try dsimp only [sp_is_whole, sp_is_among, sp_is_month, sp_leap_days, sp_first_day, sp_last_day]); try simp only [rdAll, rdI, V.int.injEq, V.ref.injEq, eqQ_int, eqQ_bl, eqQ_str, eqQ_ref, eqQ_nn, eqQ_ni, eqQ_in, eqQ_is, eqQ_si, L2.start, List.map_cons, List.map_nil, List.cons_append, List.nil_append, List.append_nil, List.length_cons, List.length_nil, List.replicate, List.getElem?_cons_zero, List.getElem?_cons_succ, List.set_cons_zero, List.set_cons_succ, Nat.reduceSub, Nat.reduceAdd, Int.reduceLT, Int.reduceLE, Int.reducePow, Int.reduceNeg, Nat.reducePow, List.cons.injEq, exists_eq_left', exists_eq_left, eq_self, if_false, if_true, ↓reduceIte, ite_not, forall_const, Option.join, Option.bind_some, id_eq])
    refine ⟨hN, ?_⟩
    split
    · rename_i h4
      have hm : m' + 1 ≤ 4799 := by
        by_cases z : m' = 4799
        · rw [z] at h4
          have e : (4799 : Int) + 1 = 4800 := by decide
          rw [e, FD_end] at h4; omega
        · omega
      exact ⟨_, fun σ' H' z => z, (4800 - (m' + 1)).toNat, by omega, m' + 1, rfl, rfl, by omega, hm, by omega, rfl⟩
    · rename_i h4
      rw [MO_of h3 (by omega)] at k
      exact k
def sp_start : Sp := sp1 fun x H Q _ => NoT H ∧ asI x fun y => Q (.int (365 * y + LD y)) H
theorem ok__law_start (T : Txt K mg a) : FnOk P w K mg base (XE P w) 1 a.f__law_start a.fd__law_start ["_law_year"] sp_start := by
  refine T.F__law_start.okG sc__law_start (fun vs H Q E h => sp1.len h) (fun cdv A outer s H vs Q E hr h => ?_)
  obtain ⟨x0, rfl, h⟩ := sp1.inv h
  have ND := sc__law_start.nd
  have PX : Passes' (XE P w) (cxOf (XE P w) P w K mg base ["_law_year"] "_law_start" (defScope s__law_start) a.f__law_start cdv A outer s H (gcE H E)) (fun _ => (gcE H E)) := passB
  have RX : Raises (cxOf (XE P w) P w K mg base ["_law_year"] "_law_start" (defScope s__law_start) a.f__law_start cdv A outer s H (gcE H E)) (fun _ => (gcE H E)) := raisesB
  have HU : (cxOf (XE P w) P w K mg base ["_law_year"] "_law_start" (defScope s__law_start) a.f__law_start cdv A outer s H (gcE H E)).A.units + 100 < cLine := units100 hr
  obtain ⟨hN, h1⟩ := h
  obtain ⟨y, rfl, k⟩ := asI.inv h1
  refine ⟨hN, _, (pss_one (ps_ret (pe_op fo_add (pe_op fo_sub (pe_op fo_add (pe_op fo_mul pe_int (fv 0)) (pe_op fo_fdiv (pe_op fo_add (fv 0) pe_int) pe_int)) (pe_op fo_fdiv (pe_op fo_add (fv 0) pe_int) pe_int)) (pe_op fo_fdiv (pe_op fo_add (fv 0) pe_int) pe_int)))), ?_⟩
  ((try dsimp only [sp_is_whole, sp_is_among, sp_is_month, sp_leap_days, sp_first_day, sp_last_day, sp_month_of]); try simp only [rdAll, rdI, V.int.injEq, V.ref.injEq, eqQ_int, eqQ_bl, eqQ_str, eqQ_ref, eqQ_nn, eqQ_ni, eqQ_in, eqQ_is, eqQ_si, L2.start, List.map_cons, List.map_nil, List.cons_append, List.nil_append, List.append_nil, List.length_cons, List.length_nil, List.replicate, List.getElem?_cons_zero, List.getElem?_cons_succ, List.set_cons_zero, List.set_cons_succ, Nat.reduceSub, Nat.reduceAdd, Int.reduceLT, Int.reduceLE, Int.reducePow, Int.reduceNeg, Nat.reducePow, List.cons.injEq, exists_eq_left', exists_eq_left, eq_self, if_false, if_true, ↓reduceIte, ite_not, forall_const, Option.join, Option.bind_some, id_eq])
  have e : 365 * y + (y + 3) / 4 - (y + 99) / 100 + (y + 399) / 400 = 365 * y + LD y := by unfold LD; omega
  rw [e]; exact k
end
end K13
set_option Elab.async false
set_option linter.all false
set_option maxRecDepth 100000
set_option maxHeartbeats 400000
namespace K13
open PySem L2
seal L2.PE L2.PT L2.PW L2.PA L2.PS L2.PSs L2.PI L2.PG L2.PGs L2.PO
section
variable {pS : Addr} {ns : List Int} {P : Program} {w : World} {K : PySem.W.Frag} {mg : Str → Option Value} {base : Heap} {a : Adr}
open K3
theorem amg_inv {x : V} {lo hi : Int} (h : amg x lo hi = true) : ∃ i, x = .int i ∧ lo ≤ i ∧ i ≤ hi := by
  unfold amg at h
  split at h
  · rename_i i; simp at h; exact ⟨i, rfl, h.1, h.2⟩
  · cases h
def gateO (C dx : Addr) (v : V) : HO := .ins C dx [("last_closed", v)]
def sp_g_init (C : Addr) : Sp := sp1 fun x H Q _ => asR x fun p => ∃ dx, H p = some (.ins C dx []) ∧ Q .non (upd H p (gateO C dx .non))
theorem ok_Gate___init__ (T : Txt K mg a) : FnOk P w K mg base (XE P w) 1 a.f_Gate___init__ a.fd_Gate___init__ ["self"] (sp_g_init a.c_Gate) := by
  refine T.F_Gate___init__.okX sc_Gate___init__ (fun vs H Q E h => sp1.len h) (fun cdv A outer s H vs Q E hr h => ?_)
  obtain ⟨x0, rfl, h⟩ := sp1.inv h
  have ND := sc_Gate___init__.nd
  have PX : Passes' (XE P w) (cxOf (XE P w) P w K mg base ["self"] "Gate.__init__" (defScope s_Gate___init__) a.f_Gate___init__ cdv A outer s H E) (fun _ => E) := passB
  have RX : Raises (cxOf (XE P w) P w K mg base ["self"] "Gate.__init__" (defScope s_Gate___init__) a.f_Gate___init__ cdv A outer s H E) (fun _ => E) := raisesB
  have HU : (cxOf (XE P w) P w K mg base ["self"] "Gate.__init__" (defScope s_Gate___init__) a.f_Gate___init__ cdv A outer s H E).A.units + 100 < cLine := units100 hr
  obtain ⟨p, rfl, dx, hp, k⟩ := asR.inv h
  refine ⟨_, (pss_one (ps_fldK K (fv 0) pe_non)), ?_⟩
  ((try dsimp only [sp_is_whole, sp_is_among, sp_is_month, sp_leap_days, sp_first_day, sp_last_day, sp_month_of, sp_start]); try simp only [rdAll, rdI, V.int.injEq, V.ref.injEq, eqQ_int, eqQ_bl, eqQ_str, eqQ_ref, eqQ_nn, eqQ_ni, eqQ_in, eqQ_is, eqQ_si, L2.start, List.map_cons, List.map_nil, List.cons_append, List.nil_append, List.append_nil, List.length_cons, List.length_nil, List.replicate, List.getElem?_cons_zero, List.getElem?_cons_succ, List.set_cons_zero, List.set_cons_succ, Nat.reduceSub, Nat.reduceAdd, Int.reduceLT, Int.reduceLE, Int.reducePow, Int.reduceNeg, Nat.reducePow, List.cons.injEq, exists_eq_left', exists_eq_left, eq_self, if_false, if_true, ↓reduceIte, ite_not, forall_const, Option.join, Option.bind_some, id_eq])
  exact ⟨_, _, _, hp, T.cl_Gate, T.n_Gate_last_closed, by decide, k⟩
theorem lk1 (v : V) : List.lookup (Str.ofString "last_closed") [(Str.ofString "last_closed", v)] = some v := by simp [List.lookup]
def sp_g_closed (C : Addr) : Sp := sp1 fun x H Q _ => NoT H ∧ asR x fun p => ∃ dx v, H p = some (gateO C dx v) ∧ Q v H
theorem ok_Gate_closed (T : Txt K mg a) : FnOk P w K mg base (XE P w) 1 a.f_Gate_closed a.fd_Gate_closed ["self"] (sp_g_closed a.c_Gate) := by
  refine T.F_Gate_closed.okG sc_Gate_closed (fun vs H Q E h => sp1.len h) (fun cdv A outer s H vs Q E hr h => ?_)
  obtain ⟨x0, rfl, h⟩ := sp1.inv h
  have ND := sc_Gate_closed.nd
  have PX : Passes' (XE P w) (cxOf (XE P w) P w K mg base ["self"] "Gate.closed" (defScope s_Gate_closed) a.f_Gate_closed cdv A outer s H (gcE H E)) (fun _ => (gcE H E)) := passB
  have RX : Raises (cxOf (XE P w) P w K mg base ["self"] "Gate.closed" (defScope s_Gate_closed) a.f_Gate_closed cdv A outer s H (gcE H E)) (fun _ => (gcE H E)) := raisesB
  have HU : (cxOf (XE P w) P w K mg base ["self"] "Gate.closed" (defScope s_Gate_closed) a.f_Gate_closed cdv A outer s H (gcE H E)).A.units + 100 < cLine := units100 hr
  obtain ⟨hN, h1⟩ := h
  obtain ⟨p, rfl, dx, v, hp, k⟩ := asR.inv h1
  refine ⟨hN, _, (pss_one (ps_ret (pe_fldK K (fv 0)))), ?_⟩
  ((try dsimp only [sp_is_whole, sp_is_among, sp_is_month, sp_leap_days, sp_first_day, sp_last_day, sp_month_of, sp_start, sp_g_init]); try simp only [rdAll, rdI, V.int.injEq, V.ref.injEq, eqQ_int, eqQ_bl, eqQ_str, eqQ_ref, eqQ_nn, eqQ_ni, eqQ_in, eqQ_is, eqQ_si, L2.start, List.map_cons, List.map_nil, List.cons_append, List.nil_append, List.append_nil, List.length_cons, List.length_nil, List.replicate, List.getElem?_cons_zero, List.getElem?_cons_succ, List.set_cons_zero, List.set_cons_succ, Nat.reduceSub, Nat.reduceAdd, Int.reduceLT, Int.reduceLE, Int.reducePow, Int.reduceNeg, Nat.reducePow, List.cons.injEq, exists_eq_left', exists_eq_left, eq_self, if_false, if_true, ↓reduceIte, ite_not, forall_const, Option.join, Option.bind_some, id_eq])
  exact ⟨_, _, _, _, hp, T.cl_Gate, T.n_Gate_last_closed, lk1 v, k⟩
def cl : Option Int → V
  | none => .non
  | some m => .int m
def sp_g_lets (C : Addr) : Sp := sp2 fun x y H Q _ => NoT H ∧ asR x fun p => asI y fun d => (0 ≤ d ∧ d ≤ 146096) ∧ ∃ dx o, H p = some (gateO C dx (cl o)) ∧ Q (.bl (match o with | none => true | some m => decide (m < MO d))) H
theorem ok_Gate_lets (T : Txt K mg a) : FnOk P w K mg base (XE P w) 5 a.f_Gate_lets a.fd_Gate_lets ["self", "day"] (sp_g_lets a.c_Gate) := by
  refine T.F_Gate_lets.okG sc_Gate_lets (fun vs H Q E h => sp2.len h) (fun cdv A outer s H vs Q E hr h => ?_)
  obtain ⟨x0, x1, rfl, h⟩ := sp2.inv h
  have ND := sc_Gate_lets.nd
  have PX : Passes' (XE P w) (cxOf (XE P w) P w K mg base ["self", "day"] "Gate.lets" (defScope s_Gate_lets) a.f_Gate_lets cdv A outer s H (gcE H E)) (fun _ => (gcE H E)) := passB
  have RX : Raises (cxOf (XE P w) P w K mg base ["self", "day"] "Gate.lets" (defScope s_Gate_lets) a.f_Gate_lets cdv A outer s H (gcE H E)) (fun _ => (gcE H E)) := raisesB
  have HU : (cxOf (XE P w) P w K mg base ["self", "day"] "Gate.lets" (defScope s_Gate_lets) a.f_Gate_lets cdv A outer s H (gcE H E)).A.units + 100 < cLine := units100 hr
  obtain ⟨hN, h1⟩ := h
  obtain ⟨p, rfl, h2⟩ := asR.inv h1
  obtain ⟨d, rfl, hd, dx, o, hp, k⟩ := asI.inv h2
  have G_month_of := ok_month_of (P := P) (w := w) (base := base) T
  have b_month_of := bn_month_of T.F_month_of
  refine ⟨hN, _, (pss_one (ps_ret (fe_or (pe_cmp (pc_isN (pe_fldK K (fv 0)))) (pe_one (pe_cmpR fo_gt (pe_callX G_month_of (hr.mono (by decide)) rfl T.m_month_of T.F_month_of.kp b_month_of .nil PX (FA.pa (fa_cons (fv 1) fa_nil))) (pe_fldK K (fv 0)) (nomark _)))))), ?_⟩
  ((try dsimp only [sp_is_whole, sp_is_among, sp_is_month, sp_leap_days, sp_first_day, sp_last_day, sp_month_of, sp_start, sp_g_init, sp_g_closed]); try simp only [rdAll, rdI, V.int.injEq, V.ref.injEq, eqQ_int, eqQ_bl, eqQ_str, eqQ_ref, eqQ_nn, eqQ_ni, eqQ_in, eqQ_is, eqQ_si, L2.start, List.map_cons, List.map_nil, List.cons_append, List.nil_append, List.append_nil, List.length_cons, List.length_nil, List.replicate, List.getElem?_cons_zero, List.getElem?_cons_succ, List.set_cons_zero, List.set_cons_succ, Nat.reduceSub, Nat.reduceAdd, Int.reduceLT, Int.reduceLE, Int.reducePow, Int.reduceNeg, Nat.reducePow, List.cons.injEq, exists_eq_left', exists_eq_left, eq_self, if_false, if_true, ↓reduceIte, ite_not, forall_const, Option.join, Option.bind_some, id_eq])
  refine ⟨_, _, _, _, hp, T.cl_Gate, T.n_Gate_last_closed, lk1 _, ?_⟩
  cases o with
  | none => exact k
  | some m =>
    rw [if_neg (by intro z; cases z)]
    exact ⟨hN, hd, _, _, _, _, hp, T.cl_Gate, T.n_Gate_last_closed, lk1 _, H, Gc.refl, k⟩
def sp_g_need (C bm nn : Addr) : Sp := sp2 fun x y H Q E => NoT H ∧ asR x fun p => asK H y fun _ => ∃ dx o, H p = some (gateO C dx (cl o)) ∧ if amg y 0 4799 = true then (match o with | none => Q .non H | some m => if y = .int (m + 1) then Q .non H else E (.ref nn) none H) else E (.ref bm) none H
theorem ok_Gate_need_next (T : Txt K mg a) : FnOk P w K mg base (XE P w) 4 a.f_Gate_need_next a.fd_Gate_need_next ["self", "month"] (sp_g_need a.c_Gate a.c_BadMonth a.c_NotNext) := by
  refine T.F_Gate_need_next.okG sc_Gate_need_next (fun vs H Q E h => sp2.len h) (fun cdv A outer s H vs Q E hr h => ?_)
  obtain ⟨x0, x1, rfl, h⟩ := sp2.inv h
  have ND := sc_Gate_need_next.nd
  have PX : Passes' (XE P w) (cxOf (XE P w) P w K mg base ["self", "month"] "Gate.need_next" (defScope s_Gate_need_next) a.f_Gate_need_next cdv A outer s H (gcE H E)) (fun _ => (gcE H E)) := passB
  have RX : Raises (cxOf (XE P w) P w K mg base ["self", "month"] "Gate.need_next" (defScope s_Gate_need_next) a.f_Gate_need_next cdv A outer s H (gcE H E)) (fun _ => (gcE H E)) := raisesB
  have HU : (cxOf (XE P w) P w K mg base ["self", "month"] "Gate.need_next" (defScope s_Gate_need_next) a.f_Gate_need_next cdv A outer s H (gcE H E)).A.units + 100 < cLine := units100 hr
  obtain ⟨hN, h1⟩ := h
  obtain ⟨p, rfl, h2⟩ := asR.inv h1
  obtain ⟨t, ht, hb, dx, o, hp, k⟩ := asK.inv h2
  have G_is_month := ok_is_month (P := P) (w := w) (base := base) T
  have b_is_month := bn_is_month T.F_is_month
  refine ⟨hN, _, (pss_cons (ps_if (pt_not (ft_val (pe_callX G_is_month (hr.mono (by decide)) rfl T.m_is_month T.F_is_month.kp b_is_month .nil PX (FA.pa (fa_cons (fv 1) fa_nil))))) (pss_one (ps_raise T.e_BadMonth PySem.F.excBase_ValueError rfl rfl T.m_BadMonth RX (FA.pa (fa_cons (pe_strT [116, 104, 105, 115, 32, 105, 115, 32, 110, 111, 32, 109, 111, 110, 116, 104]) fa_nil)))) pss_nil)
      (pss_one (ps_if (L2.PW.pt (pw_and (ft_is (pc_notN (pe_fldK K (fv 0)))) (pw_and1 (ft_cmp (fo_neQ K HU) (fv 1) (pe_op fo_add (pe_fldK K (fv 0)) pe_int) (nomark _))))) (pss_one (ps_raise T.e_NotNext PySem.F.excBase_ValueError rfl rfl T.m_NotNext RX (FA.pa (fa_cons (pe_strT [109, 111, 110, 116, 104, 115, 32, 97, 114, 101, 32, 99, 108, 111, 115, 101, 100, 32, 111, 110, 101, 32, 98, 101, 104, 105, 110, 100, 32, 116, 104, 101, 32, 111, 116, 104, 101, 114]) fa_nil)))) pss_nil))), ?_⟩
  ((try dsimp only [sp_is_whole, sp_is_among, sp_is_month, sp_leap_days, sp_first_day, sp_last_day, sp_month_of, sp_start, sp_g_init, sp_g_closed, sp_g_lets]); try simp only [rdAll, rdI, V.int.injEq, V.ref.injEq, eqQ_int, eqQ_bl, eqQ_str, eqQ_ref, eqQ_nn, eqQ_ni, eqQ_in, eqQ_is, eqQ_si, L2.start, List.map_cons, List.map_nil, List.cons_append, List.nil_append, List.append_nil, List.length_cons, List.length_nil, List.replicate, List.getElem?_cons_zero, List.getElem?_cons_succ, List.set_cons_zero, List.set_cons_succ, Nat.reduceSub, Nat.reduceAdd, Int.reduceLT, Int.reduceLE, Int.reducePow, Int.reduceNeg, Nat.reducePow, List.cons.injEq, exists_eq_left', exists_eq_left, eq_self, if_false, if_true, ↓reduceIte, ite_not, forall_const, Option.join, Option.bind_some, id_eq])
  have one : 1 ≤ sizeLine := by rw [sizeLine_eq]; decide
  refine ⟨hN, asK.of ht ?_⟩
  cases e : amg x1 0 4799 with
  | false =>
    rw [e, if_neg (by decide)] at k
    exact ite00 ⟨one, k⟩
  | true =>
    rw [e, if_pos rfl] at k
    obtain ⟨i, rfl, i0, i1⟩ := amg_inv e
    refine ite10 ⟨_, _, _, _, hp, T.cl_Gate, T.n_Gate_last_closed, lk1 _, ?_⟩
    cases o with
    | none => exact k
    | some m =>
      rw [if_neg (by intro z; cases z)]
      refine ⟨_, _, _, _, hp, T.cl_Gate, T.n_Gate_last_closed, lk1 _, ?_⟩
      show gAdd (.int m) (.int 1) H _
      ((try dsimp only [sp_is_whole, sp_is_among, sp_is_month, sp_leap_days, sp_first_day, sp_last_day, sp_month_of, sp_start, sp_g_init, sp_g_closed, sp_g_lets]); try simp only [rdAll, rdI, V.int.injEq, V.ref.injEq, eqQ_int, eqQ_bl, eqQ_str, eqQ_ref, eqQ_nn, eqQ_ni, eqQ_in, eqQ_is, eqQ_si, L2.start, List.map_cons, List.map_nil, List.cons_append, List.nil_append, List.append_nil, List.length_cons, List.length_nil, List.replicate, List.getElem?_cons_zero, List.getElem?_cons_succ, List.set_cons_zero, List.set_cons_succ, Nat.reduceSub, Nat.reduceAdd, Int.reduceLT, Int.reduceLE, Int.reducePow, Int.reduceNeg, Nat.reducePow, List.cons.injEq, exists_eq_left', exists_eq_left, eq_self, if_false, if_true, ↓reduceIte, ite_not, forall_const, Option.join, Option.bind_some, id_eq])
      have k2 : if (V.int i) = V.int (m + 1) then Q .non H else E (.ref a.c_NotNext) none H := k
      by_cases h : i = m + 1
      · subst h
        rw [if_pos rfl] at k2
        rw [if_pos rfl]; exact k2
      · rw [if_neg (fun z => h (by cases z; rfl))] at k2
        rw [if_neg h]; exact ⟨one, k2⟩
def sp_g_shut (C bm nn : Addr) : Sp := sp2 fun x y H Q E => NoT H ∧ asR x fun p => asK H y fun _ => ∃ dx o, H p = some (gateO C dx (cl o)) ∧ if amg y 0 4799 = true then (match o with | none => Q .non (upd H p (gateO C dx y)) | some m => if y = .int (m + 1) then Q .non (upd H p (gateO C dx y)) else E (.ref nn) none H) else E (.ref bm) none H
theorem ok_Gate_shut (T : Txt K mg a) : FnOk P w K mg base (XE P w) 5 a.f_Gate_shut a.fd_Gate_shut ["self", "month"] (sp_g_shut a.c_Gate a.c_BadMonth a.c_NotNext) := by
  refine T.F_Gate_shut.okX sc_Gate_shut (fun vs H Q E h => sp2.len h) (fun cdv A outer s H vs Q E hr h => ?_)
  obtain ⟨x0, x1, rfl, h⟩ := sp2.inv h
  have ND := sc_Gate_shut.nd
  have PX : Passes' (XE P w) (cxOf (XE P w) P w K mg base ["self", "month"] "Gate.shut" (defScope s_Gate_shut) a.f_Gate_shut cdv A outer s H E) (fun _ => E) := passB
  have RX : Raises (cxOf (XE P w) P w K mg base ["self", "month"] "Gate.shut" (defScope s_Gate_shut) a.f_Gate_shut cdv A outer s H E) (fun _ => E) := raisesB
  have HU : (cxOf (XE P w) P w K mg base ["self", "month"] "Gate.shut" (defScope s_Gate_shut) a.f_Gate_shut cdv A outer s H E).A.units + 100 < cLine := units100 hr
  obtain ⟨hN, h1⟩ := h
  obtain ⟨p, rfl, h2⟩ := asR.inv h1
  obtain ⟨t, ht, hb, dx, o, hp, k⟩ := asK.inv h2
  have G_Gate_need_next := ok_Gate_need_next (P := P) (w := w) (base := base) T
  have b_Gate_need_next := bn_Gate_need_next T.F_Gate_need_next
  refine ⟨_, (pss_cons (ps_expr (pe_methX (fv 0) T.cl_Gate T.mt_Gate_need_next G_Gate_need_next (hr.mono (by decide)) b_Gate_need_next .nil PX (FA.pa (fa_cons (fv 1) fa_nil))))
      (pss_one (ps_fldK K (fv 0) (fv 1)))), ?_⟩
  ((try dsimp only [sp_is_whole, sp_is_among, sp_is_month, sp_leap_days, sp_first_day, sp_last_day, sp_month_of, sp_start, sp_g_init, sp_g_closed, sp_g_lets, sp_g_need]); try simp only [rdAll, rdI, V.int.injEq, V.ref.injEq, eqQ_int, eqQ_bl, eqQ_str, eqQ_ref, eqQ_nn, eqQ_ni, eqQ_in, eqQ_is, eqQ_si, L2.start, List.map_cons, List.map_nil, List.cons_append, List.nil_append, List.append_nil, List.length_cons, List.length_nil, List.replicate, List.getElem?_cons_zero, List.getElem?_cons_succ, List.set_cons_zero, List.set_cons_succ, Nat.reduceSub, Nat.reduceAdd, Int.reduceLT, Int.reduceLE, Int.reducePow, Int.reduceNeg, Nat.reducePow, List.cons.injEq, exists_eq_left', exists_eq_left, eq_self, if_false, if_true, ↓reduceIte, ite_not, forall_const, Option.join, Option.bind_some, id_eq])
  have pf : putF (Str.ofString "last_closed") x1 [(Str.ofString "last_closed", cl o)] = [(Str.ofString "last_closed", x1)] := by simp [putF]
  refine ⟨_, _, hp, lk_miss (by decide +kernel), hN, asK.of ht ⟨dx, o, hp, ?_⟩⟩
  have fin : Q .non (upd H p (gateO a.c_Gate dx x1)) → ∃ C dx fs, H p = some (HO.ins C dx fs) ∧ Cls K C ∧ NoAttr K C (Str.ofString "last_closed") ∧ fs.length < 1000 ∧ Q V.non (upd H p (HO.ins C dx (putF (Str.ofString "last_closed") x1 fs))) := fun q => ⟨_, _, _, hp, T.cl_Gate, T.n_Gate_last_closed, by show 1 < 1000; decide, by rw [pf]; exact q⟩
  split
  · rename_i e
    rw [if_pos e] at k
    cases o with
    | none => exact fin k
    | some m =>
      dsimp only at k ⊢
      split
      · rename_i e2
        rw [if_pos e2] at k; exact fin k
      · rename_i e2
        rw [if_neg e2] at k; exact k
  · rename_i e
    rw [if_neg e] at k; exact k
def jourO (C dx b u : Addr) : HO := .ins C dx [("bookings", .ref b), ("undoings", .ref u)]
theorem lkb (x y : V) : List.lookup (Str.ofString "bookings") [(Str.ofString "bookings", x), (Str.ofString "undoings", y)] = some x := by simp [List.lookup]
theorem lku (x y : V) : List.lookup (Str.ofString "undoings") [(Str.ofString "bookings", x), (Str.ofString "undoings", y)] = some y := by rw [lk_miss (by decide +kernel)]; exact lk_hit
def Keep (S : List Addr) (H H' : Hp) : Prop := ∀ c z, H c = some z → c ∉ S → H' c = some z
theorem Keep.refl {S : List Addr} {H : Hp} : Keep S H H := fun _ _ e _ => e
theorem Keep.trans {S : List Addr} {H H1 H2 : Hp} (x : Keep S H H1) (y : Keep S H1 H2) : Keep S H H2 := fun c z e n => y c z (x c z e n) n
theorem Keep.mono {S S' : List Addr} {H H' : Hp} (x : Keep S H H') (h : ∀ c, c ∈ S → c ∈ S') : Keep S' H H' := fun c z e n => x c z e fun m => n (h c m)
theorem Keep.new {S : List Addr} {H H1 : Hp} {p : Addr} {o : HO} (x : Keep S H H1) (h : H1 p = none) : Keep S H (upd H1 p o) := fun c z e n => by
  rw [upd_ne (ne_of_none (x c z e n) h)]; exact x c z e n
theorem Keep.put {S : List Addr} {H H1 : Hp} {p : Addr} {o : HO} (x : Keep S H H1) (h : p ∈ S) : Keep S H (upd H1 p o) := fun c z e n => by
  rw [upd_ne (by rintro rfl; exact n h)]; exact x c z e n
theorem Keep.same {S : List Addr} {H H' : Hp} (x : Same H H') : Keep S H H' := fun c z e _ => x c z e
theorem Keep.free {S : List Addr} {H H' : Hp} {p : Addr} (x : Keep S H H') (h : H' p = none) (n : p ∉ S) : H p = none := by
  cases e : H p with
  | none => rfl
  | some z => rw [x p z e n] at h; cases h
structure JAt (C : Addr) (H : Hp) (p b u : Addr) (bs : List V) (kvs : List (Key × V)) : Prop where
  ob : ∃ dx, H p = some (jourO C dx b u)
  ls : H b = some (.lst bs)
  dc : H u = some (.dK kvs)
theorem JAt.keep {C : Addr} {S : List Addr} {H H' : Hp} {p b u : Addr} {bs : List V} {kvs : List (Key × V)} (j : JAt C H p b u bs kvs) (x : Keep S H H') (hp : p ∉ S) (hb : b ∉ S) (hu : u ∉ S) : JAt C H' p b u bs kvs :=
  ⟨by obtain ⟨dx, e⟩ := j.ob; exact ⟨dx, x _ _ e hp⟩, x _ _ j.ls hb, x _ _ j.dc hu⟩
theorem ne_at {H : Hp} {p q : Addr} {x y : HO} (h : H p = some x) (g : H q = some y) (n : x ≠ y) : p ≠ q := by
  rintro rfl; rw [h] at g; cases g; exact n rfl
def sp_j_init (C : Addr) : Sp := sp1 fun x H Q _ => NoT H ∧ asR x fun p => ∃ dx, H p = some (.ins C dx []) ∧ ∀ b u H', H b = none → H u = none → JAt C H' p b u [] [] → Keep [p] H H' → NoT H' → Q .non H'
theorem ok_Journal___init__ (T : Txt K mg a) : FnOk P w K mg base (XE P w) 1 a.f_Journal___init__ a.fd_Journal___init__ ["self"] (sp_j_init a.c_Journal) := by
  refine T.F_Journal___init__.okX sc_Journal___init__ (fun vs H Q E h => sp1.len h) (fun cdv A outer s H vs Q E hr h => ?_)
  obtain ⟨x0, rfl, h⟩ := sp1.inv h
  have ND := sc_Journal___init__.nd
  have PX : Passes' (XE P w) (cxOf (XE P w) P w K mg base ["self"] "Journal.__init__" (defScope s_Journal___init__) a.f_Journal___init__ cdv A outer s H E) (fun _ => E) := passB
  have RX : Raises (cxOf (XE P w) P w K mg base ["self"] "Journal.__init__" (defScope s_Journal___init__) a.f_Journal___init__ cdv A outer s H E) (fun _ => E) := raisesB
  have HU : (cxOf (XE P w) P w K mg base ["self"] "Journal.__init__" (defScope s_Journal___init__) a.f_Journal___init__ cdv A outer s H E).A.units + 100 < cLine := units100 hr
  obtain ⟨hN, h1⟩ := h
  obtain ⟨p, rfl, dx, hp, k⟩ := asR.inv h1
  refine ⟨_, (pss_cons (ps_fldK K (fv 0) (pe_lst (FA.pa fa_nil)))
      (pss_one (ps_fldK K (fv 0) fe_dnew))), ?_⟩
  ((try dsimp only [sp_is_whole, sp_is_among, sp_is_month, sp_leap_days, sp_first_day, sp_last_day, sp_month_of, sp_start, sp_g_init, sp_g_closed, sp_g_lets, sp_g_need, sp_g_shut]); try simp only [rdAll, rdI, V.int.injEq, V.ref.injEq, eqQ_int, eqQ_bl, eqQ_str, eqQ_ref, eqQ_nn, eqQ_ni, eqQ_in, eqQ_is, eqQ_si, L2.start, List.map_cons, List.map_nil, List.cons_append, List.nil_append, List.append_nil, List.length_cons, List.length_nil, List.replicate, List.getElem?_cons_zero, List.getElem?_cons_succ, List.set_cons_zero, List.set_cons_succ, Nat.reduceSub, Nat.reduceAdd, Int.reduceLT, Int.reduceLE, Int.reducePow, Int.reduceNeg, Nat.reducePow, List.cons.injEq, exists_eq_left', exists_eq_left, eq_self, if_false, if_true, ↓reduceIte, ite_not, forall_const, Option.join, Option.bind_some, id_eq])
  refine ⟨Nat.zero_le _, fun b hb => ?_⟩
  have np : p ≠ b := ne_of_none hp hb
  refine ⟨_, _, _, (upd_ne np).trans hp, T.cl_Journal, T.n_Journal_bookings, by show 0 < 1000; decide, fun u hu => ?_⟩
  have nu : p ≠ u := fun q => by rw [← q, upd_same] at hu; cases hu
  have nb : b ≠ u := fun q => by rw [← q, upd_ne (Ne.symm np), upd_same] at hu; cases hu
  refine ⟨_, _, _, (upd_ne nu).trans upd_same, T.cl_Journal, T.n_Journal_undoings, by show 1 < 1000; decide, ?_⟩
  have hu0 : H u = none := by
    rw [upd_ne (Ne.symm nu), upd_ne (Ne.symm nb)] at hu; exact hu
  refine k b u _ hb hu0 ⟨⟨dx, ?_⟩, ?_, ?_⟩ ?_ ?_
  · rw [upd_same]
    have e : putF (Str.ofString "undoings") (V.ref u) (putF (Str.ofString "bookings") (V.ref b) []) = [(Str.ofString "bookings", .ref b), (Str.ofString "undoings", .ref u)] := by
      have q : ¬ (Str.ofString "bookings" = Str.ofString "undoings") := by decide +kernel
      simp [putF, q]
    rw [e]; rfl
  · rw [upd_ne (Ne.symm np), upd_ne nb, upd_ne (Ne.symm np), upd_same]
  · rw [upd_ne (Ne.symm nu), upd_same]
  · exact (((Keep.refl.new hb).put (List.mem_singleton.2 rfl)).new hu).put (List.mem_singleton.2 rfl)
  · exact noT_upd (noT_upd (noT_upd (noT_upd hN rfl) rfl) rfl) rfl
def sp_j_put (K : PySem.W.Frag) (C : Addr) : Sp := sp5 fun x d n r o H Q _ => NoT H ∧ asR x fun p => asR r fun r => ∃ b u bs kvs rs, JAt C H p b u bs kvs ∧ bs.length ≤ 100 ∧ kvs.length ≤ 100 ∧ (SqL K H r rs ∨ H r = some (.tup rs)) ∧ rs.length ≤ 100 ∧ (o = .non ∨ ∃ i, o = .int i) ∧
  ∀ t q H', H t = none ∨ H t = some (.tup rs) → H' t = some (.tup rs) → H q = none → H' q = some (.tup [.int bs.length, d, n, .ref t, o]) → JAt C H' p b u (bs ++ [.ref q]) (match o with | .int i => putK kvs (.inl i) (.int bs.length) | _ => kvs) → Keep [b, u] H H' → NoT H' → Q (.int bs.length) H'
theorem ok_Journal_put (T : Txt K mg a) : FnOk P w K mg base (XE P w) 1 a.f_Journal_put a.fd_Journal_put ["self", "day", "note", "rows", "undoes"] (sp_j_put K a.c_Journal) := by
  refine T.F_Journal_put.okX sc_Journal_put (fun vs H Q E h => sp5.len h) (fun cdv A outer s H vs Q E hr h => ?_)
  obtain ⟨x0, x1, x2, x3, x4, rfl, h⟩ := sp5.inv h
  have ND := sc_Journal_put.nd
  have PX : Passes' (XE P w) (cxOf (XE P w) P w K mg base ["self", "day", "note", "rows", "undoes", "number"] "Journal.put" (defScope s_Journal_put) a.f_Journal_put cdv A outer s H E) (fun _ => E) := passB
  have RX : Raises (cxOf (XE P w) P w K mg base ["self", "day", "note", "rows", "undoes", "number"] "Journal.put" (defScope s_Journal_put) a.f_Journal_put cdv A outer s H E) (fun _ => E) := raisesB
  have HU : (cxOf (XE P w) P w K mg base ["self", "day", "note", "rows", "undoes", "number"] "Journal.put" (defScope s_Journal_put) a.f_Journal_put cdv A outer s H E).A.units + 100 < cLine := units100 hr
  obtain ⟨hN, h1⟩ := h
  obtain ⟨p, rfl, h2⟩ := asR.inv h1
  obtain ⟨r, rfl, b, u, bs, kvs, rs, J, l1, l2, hs, l3, ho, k⟩ := asR.inv h2
  obtain ⟨dx, hp⟩ := J.ob
  refine ⟨_, (pss_cons (ps_set (i := 5) ND rfl (Or.inl rfl) (pe_callB (fc_lenK K) rfl T.z_len bb_len (FA.pa (fa_cons (pe_fldK K (fv 0)) fa_nil))))
      (pss_cons (ps_expr (pe_bmK K PySem.F.plainAttrs_list PySem.F.slot_list_append PySem.F.type_list_append mt_append (pe_fldK K (fv 0)) (FA.pa (fa_cons (pe_tup (FA.pa (fa_cons (fv 5) (fa_cons (fv 1) (fa_cons (fv 2) (fa_cons (pe_callTy (fc_tuple K) rfl T.z_tuple bb_tuple (FA.pa (fa_cons (fv 3) fa_nil))) (fa_cons (fv 4) fa_nil))))))) fa_nil))))
      (pss_cons (ps_if (ft_is (pc_notN (fv 4))) (pss_one (ps_dput (Nat.lt_of_le_of_lt (Nat.add_le_add_left (by decide) _) HU) (pe_fldK K (fv 0)) (fv 4) (fv 5) rfl)) pss_nil)
      (pss_one (ps_ret (fv 5)))))), ?_⟩
  ((try dsimp only [sp_is_whole, sp_is_among, sp_is_month, sp_leap_days, sp_first_day, sp_last_day, sp_month_of, sp_start, sp_g_init, sp_g_closed, sp_g_lets, sp_g_need, sp_g_shut, sp_j_init, sp5]); try simp only [rdAll, rdI, V.int.injEq, V.ref.injEq, eqQ_int, eqQ_bl, eqQ_str, eqQ_ref, eqQ_nn, eqQ_ni, eqQ_in, eqQ_is, eqQ_si, L2.start, List.map_cons, List.map_nil, List.cons_append, List.nil_append, List.append_nil, List.length_cons, List.length_nil, List.replicate, List.getElem?_cons_zero, List.getElem?_cons_succ, List.set_cons_zero, List.set_cons_succ, Nat.reduceSub, Nat.reduceAdd, Int.reduceLT, Int.reduceLE, Int.reducePow, Int.reduceNeg, Nat.reducePow, List.cons.injEq, exists_eq_left', exists_eq_left, eq_self, if_false, if_true, ↓reduceIte, ite_not, forall_const, Option.join, Option.bind_some, id_eq])
  refine ⟨_, _, _, _, hp, T.cl_Journal, T.n_Journal_bookings, lkb _ _, bs, .inl (.inl (.inl J.ls)), _, _, _, _, hp, T.cl_Journal, T.n_Journal_bookings, lkb _ _, .inl ⟨rfl, bs, .inl (.inl J.ls)⟩, rs, ?_⟩
  have five : 5 ≤ sizeLine := by rw [sizeLine_eq]; decide
  have sml : bs.length < sizeLine := by rw [sizeLine_eq]; omega
  have smk : kvs.length < sizeLine := by rw [sizeLine_eq]; omega
  have nb : p ≠ b := ne_at hp J.ls (by intro z; cases z)
  have nu : p ≠ u := ne_at hp J.dc (by intro z; cases z)
  have bu : b ≠ u := ne_at J.ls J.dc (by intro z; cases z)
  have fin : ∀ t H1, H t = none ∨ H t = some (.tup rs) → H1 t = some (.tup rs) → Same H H1 → NoT H1 → ∀ q, H1 q = none → ∃ l xs y, V.ref b = V.ref l ∧ V.ref q = y ∧ upd H1 q (HO.tup [.int bs.length, x1, x2, V.ref t, x4]) l = some (HO.lst xs) ∧ xs.length < sizeLine ∧
      if x4 = V.non then Q (.int bs.length) (upd (upd H1 q (HO.tup [.int bs.length, x1, x2, V.ref t, x4])) l (HO.lst (xs ++ [y]))) else
        ∃ C dx fs v, upd (upd H1 q (HO.tup [V.int bs.length, x1, x2, V.ref t, x4])) l (HO.lst (xs ++ [y])) p = some (HO.ins C dx fs) ∧ Cls K C ∧ NoAttr K C (Str.ofString "undoings") ∧ List.lookup (Str.ofString "undoings") fs = some v ∧
          ∃ a H4, v = V.ref a ∧ DPut (upd (upd H1 q (HO.tup [V.int bs.length, x1, x2, V.ref t, x4])) l (HO.lst (xs ++ [y]))) a x4 (V.int bs.length) H4 ∧ Q (V.int bs.length) H4 := by
    intro t H1 ht1 ht2 kp n1 q hq
    have mb : b ∈ [b, u] := .head _
    have mu : u ∈ [b, u] := .tail _ (.head _)
    have hp1 := kp _ _ hp
    have hb1 := kp _ _ J.ls
    have hu1 := kp _ _ J.dc
    have qb : b ≠ q := ne_of_none hb1 hq
    have qu : u ≠ q := ne_of_none hu1 hq
    have qp : p ≠ q := ne_of_none hp1 hq
    have qt : t ≠ q := ne_of_none ht2 hq
    have tb : t ≠ b := ne_at ht2 hb1 (by intro z; cases z)
    have tu : t ≠ u := ne_at ht2 hu1 (by intro z; cases z)
    have q0 : H q = none := kp.free hq
    generalize hz : HO.tup [V.int bs.length, x1, x2, V.ref t, x4] = z at *
    have dz : dTfree z = true := by rw [← hz]; rfl
    refine ⟨b, bs, _, rfl, rfl, (upd_ne qb).trans hb1, sml, ?_⟩
    have K2 : Keep [b, u] H (upd (upd H1 q z) b (.lst (bs ++ [.ref q]))) := ((Keep.same kp).new hq).put mb
    have N2 : NoT (upd (upd H1 q z) b (.lst (bs ++ [.ref q]))) := noT_upd (noT_upd n1 dz) rfl
    rcases ho with rfl | ⟨i, rfl⟩
    · rw [if_pos rfl]
      refine k t q _ ht1 ?_ q0 ?_ ⟨⟨dx, ?_⟩, upd_same, ?_⟩ K2 N2
      · rw [upd_ne tb, upd_ne qt]; exact ht2
      · rw [upd_ne (Ne.symm qb), upd_same, hz]
      · rw [upd_ne nb, upd_ne qp]; exact hp1
      · rw [upd_ne (Ne.symm bu), upd_ne qu]; exact hu1
    · rw [if_neg (by intro z; cases z)]
      refine ⟨_, dx, [(Str.ofString "bookings", .ref b), (Str.ofString "undoings", .ref u)], _, ?_, T.cl_Journal, T.n_Journal_undoings, lku _ _, u, _, rfl, DPut.k (k := .inl i) (kvs := kvs) ?_ smk, ?_⟩
      · rw [upd_ne nb, upd_ne qp]; exact hp1
      · rw [upd_ne (Ne.symm bu), upd_ne qu]; exact hu1
      · refine k t q _ ht1 ?_ q0 ?_ ⟨⟨dx, ?_⟩, ?_, upd_same⟩ (K2.put mu) (noT_upd N2 rfl)
        · rw [upd_ne tu, upd_ne tb, upd_ne qt]; exact ht2
        · rw [upd_ne (Ne.symm qu), upd_ne (Ne.symm qb), upd_same, hz]
        · rw [upd_ne nu, upd_ne nb, upd_ne qp]; exact hp1
        · rw [upd_ne bu, upd_same]
  rcases hs with hs | hs
  · refine .inl ⟨hs, fun l hl => ⟨five, fin l _ (.inl hl) upd_same (same_upd _ hl) (noT_upd hN rfl)⟩⟩
  · exact .inr ⟨.inl (.inl hs), five, fin r _ (.inr hs) hs (Same.refl _) hN⟩
def sp_j_many (C : Addr) : Sp := sp1 fun x H Q _ => NoT H ∧ asR x fun p => ∃ b u bs kvs, JAt C H p b u bs kvs ∧ Q (.int bs.length) H
theorem ok_Journal_many (T : Txt K mg a) : FnOk P w K mg base (XE P w) 1 a.f_Journal_many a.fd_Journal_many ["self"] (sp_j_many a.c_Journal) := by
  refine T.F_Journal_many.okG sc_Journal_many (fun vs H Q E h => sp1.len h) (fun cdv A outer s H vs Q E hr h => ?_)
  obtain ⟨x0, rfl, h⟩ := sp1.inv h
  have ND := sc_Journal_many.nd
  have PX : Passes' (XE P w) (cxOf (XE P w) P w K mg base ["self"] "Journal.many" (defScope s_Journal_many) a.f_Journal_many cdv A outer s H (gcE H E)) (fun _ => (gcE H E)) := passB
  have RX : Raises (cxOf (XE P w) P w K mg base ["self"] "Journal.many" (defScope s_Journal_many) a.f_Journal_many cdv A outer s H (gcE H E)) (fun _ => (gcE H E)) := raisesB
  have HU : (cxOf (XE P w) P w K mg base ["self"] "Journal.many" (defScope s_Journal_many) a.f_Journal_many cdv A outer s H (gcE H E)).A.units + 100 < cLine := units100 hr
  obtain ⟨hN, h1⟩ := h
  obtain ⟨p, rfl, b, u, bs, kvs, J, k⟩ := asR.inv h1
  obtain ⟨dx, hp⟩ := J.ob
  refine ⟨hN, _, (pss_one (ps_ret (pe_callB (fc_lenK K) rfl T.z_len bb_len (FA.pa (fa_cons (pe_fldK K (fv 0)) fa_nil))))), ?_⟩
  ((try dsimp only [sp_is_whole, sp_is_among, sp_is_month, sp_leap_days, sp_first_day, sp_last_day, sp_month_of, sp_start, sp_g_init, sp_g_closed, sp_g_lets, sp_g_need, sp_g_shut, sp_j_init, sp5, sp_j_put]); try simp only [rdAll, rdI, V.int.injEq, V.ref.injEq, eqQ_int, eqQ_bl, eqQ_str, eqQ_ref, eqQ_nn, eqQ_ni, eqQ_in, eqQ_is, eqQ_si, L2.start, List.map_cons, List.map_nil, List.cons_append, List.nil_append, List.append_nil, List.length_cons, List.length_nil, List.replicate, List.getElem?_cons_zero, List.getElem?_cons_succ, List.set_cons_zero, List.set_cons_succ, Nat.reduceSub, Nat.reduceAdd, Int.reduceLT, Int.reduceLE, Int.reducePow, Int.reduceNeg, Nat.reducePow, List.cons.injEq, exists_eq_left', exists_eq_left, eq_self, if_false, if_true, ↓reduceIte, ite_not, forall_const, Option.join, Option.bind_some, id_eq])
  exact ⟨_, _, _, _, hp, T.cl_Journal, T.n_Journal_bookings, lkb _ _, bs, .inl (.inl (.inl J.ls)), H, Gc.refl, k⟩
def sp_j_booking (C nb : Addr) : Sp := sp2 fun x y H Q E => NoT H ∧ asR x fun p => asK H y fun _ => ∃ b u bs kvs, JAt C H p b u bs kvs ∧ bs.length ≤ 100 ∧ if amg y 0 (bs.length - 1) = true then (∀ (i : Nat) v, y = .int i → bs[i]? = some v → Q v H) else E (.ref nb) none H
theorem ok_Journal_booking (T : Txt K mg a) : FnOk P w K mg base (XE P w) 3 a.f_Journal_booking a.fd_Journal_booking ["self", "number"] (sp_j_booking a.c_Journal a.c_NoBooking) := by
  refine T.F_Journal_booking.okG sc_Journal_booking (fun vs H Q E h => sp2.len h) (fun cdv A outer s H vs Q E hr h => ?_)
  obtain ⟨x0, x1, rfl, h⟩ := sp2.inv h
  have ND := sc_Journal_booking.nd
  have PX : Passes' (XE P w) (cxOf (XE P w) P w K mg base ["self", "number"] "Journal.booking" (defScope s_Journal_booking) a.f_Journal_booking cdv A outer s H (gcE H E)) (fun _ => (gcE H E)) := passB
  have RX : Raises (cxOf (XE P w) P w K mg base ["self", "number"] "Journal.booking" (defScope s_Journal_booking) a.f_Journal_booking cdv A outer s H (gcE H E)) (fun _ => (gcE H E)) := raisesB
  have HU : (cxOf (XE P w) P w K mg base ["self", "number"] "Journal.booking" (defScope s_Journal_booking) a.f_Journal_booking cdv A outer s H (gcE H E)).A.units + 100 < cLine := units100 hr
  obtain ⟨hN, h1⟩ := h
  obtain ⟨p, rfl, h2⟩ := asR.inv h1
  obtain ⟨t, ht, hb, b, u, bs, kvs, J, l1, k⟩ := asK.inv h2
  obtain ⟨dx, hp⟩ := J.ob
  have G_is_among := ok_is_among (P := P) (w := w) (base := base) T
  have b_is_among := bn_is_among T.F_is_among
  refine ⟨hN, _, (pss_cons (ps_if (pt_not (ft_val (pe_callX G_is_among (hr.mono (by decide)) rfl T.m_is_among T.F_is_among.kp b_is_among .nil PX (FA.pa (fa_cons (fv 1) (fa_cons pe_int (fa_cons (pe_op fo_sub (pe_callB (fc_lenK K) rfl T.z_len bb_len (FA.pa (fa_cons (pe_fldK K (fv 0)) fa_nil))) pe_int) fa_nil))))))) (pss_one (ps_raise T.e_NoBooking PySem.F.excBase_ValueError rfl rfl T.m_NoBooking RX (FA.pa (fa_cons (pe_strT [116, 104, 101, 114, 101, 32, 105, 115, 32, 110, 111, 32, 115, 117, 99, 104, 32, 98, 111, 111, 107, 105, 110, 103]) fa_nil)))) pss_nil)
      (pss_one (ps_ret (pe_ix (fx_seqK K) (pe_fldK K (fv 0)) (fv 1) (fun _ _ => rfl))))), ?_⟩
  ((try dsimp only [sp_is_whole, sp_is_among, sp_is_month, sp_leap_days, sp_first_day, sp_last_day, sp_month_of, sp_start, sp_g_init, sp_g_closed, sp_g_lets, sp_g_need, sp_g_shut, sp_j_init, sp5, sp_j_put, sp_j_many]); try simp only [rdAll, rdI, V.int.injEq, V.ref.injEq, eqQ_int, eqQ_bl, eqQ_str, eqQ_ref, eqQ_nn, eqQ_ni, eqQ_in, eqQ_is, eqQ_si, L2.start, List.map_cons, List.map_nil, List.cons_append, List.nil_append, List.append_nil, List.length_cons, List.length_nil, List.replicate, List.getElem?_cons_zero, List.getElem?_cons_succ, List.set_cons_zero, List.set_cons_succ, Nat.reduceSub, Nat.reduceAdd, Int.reduceLT, Int.reduceLE, Int.reducePow, Int.reduceNeg, Nat.reducePow, List.cons.injEq, exists_eq_left', exists_eq_left, eq_self, if_false, if_true, ↓reduceIte, ite_not, forall_const, Option.join, Option.bind_some, id_eq])
  have one : 1 ≤ sizeLine := by rw [sizeLine_eq]; decide
  refine ⟨_, _, _, _, hp, T.cl_Journal, T.n_Journal_bookings, lkb _ _, bs, .inl (.inl (.inl J.ls)), ?_⟩
  show gI _ (.int _) (.int 1) H _
  ((try dsimp only [sp_is_whole, sp_is_among, sp_is_month, sp_leap_days, sp_first_day, sp_last_day, sp_month_of, sp_start, sp_g_init, sp_g_closed, sp_g_lets, sp_g_need, sp_g_shut, sp_j_init, sp5, sp_j_put, sp_j_many]); try simp only [rdAll, rdI, V.int.injEq, V.ref.injEq, eqQ_int, eqQ_bl, eqQ_str, eqQ_ref, eqQ_nn, eqQ_ni, eqQ_in, eqQ_is, eqQ_si, L2.start, List.map_cons, List.map_nil, List.cons_append, List.nil_append, List.append_nil, List.length_cons, List.length_nil, List.replicate, List.getElem?_cons_zero, List.getElem?_cons_succ, List.set_cons_zero, List.set_cons_succ, Nat.reduceSub, Nat.reduceAdd, Int.reduceLT, Int.reduceLE, Int.reducePow, Int.reduceNeg, Nat.reducePow, List.cons.injEq, exists_eq_left', exists_eq_left, eq_self, if_false, if_true, ↓reduceIte, ite_not, forall_const, Option.join, Option.bind_some, id_eq])
  refine ⟨hN, asK.of ht ?_⟩
  cases e : amg x1 0 ((bs.length : Int) - 1) with
  | false =>
    rw [e, if_neg (by decide)] at k
    exact ite00 ⟨one, k⟩
  | true =>
    rw [e, if_pos rfl] at k
    obtain ⟨i, rfl, i0, i1⟩ := amg_inv e
    obtain ⟨n, rfl⟩ := Int.eq_ofNat_of_zero_le i0
    have hn : n < bs.length := by omega
    refine ite10 ⟨_, _, _, _, hp, T.cl_Journal, T.n_Journal_bookings, lkb _ _, bs, bs[n], .inl (.inl (.inl J.ls)), ?_, H, Gc.refl, k n _ rfl (List.getElem?_eq_getElem hn)⟩
    exact atI_nat (List.getElem?_eq_getElem hn)
def sp_j_every (C : Addr) : Sp := sp1 fun x H Q _ => NoT H ∧ asR x fun p => ∃ b u bs kvs, JAt C H p b u bs kvs ∧ bs.length ≤ 100 ∧ ∀ q, H q = none → Q (.ref q) (upd H q (.lst bs))
theorem ok_Journal_every (T : Txt K mg a) : FnOk P w K mg base (XE P w) 1 a.f_Journal_every a.fd_Journal_every ["self"] (sp_j_every a.c_Journal) := by
  refine T.F_Journal_every.okG sc_Journal_every (fun vs H Q E h => sp1.len h) (fun cdv A outer s H vs Q E hr h => ?_)
  obtain ⟨x0, rfl, h⟩ := sp1.inv h
  have ND := sc_Journal_every.nd
  have PX : Passes' (XE P w) (cxOf (XE P w) P w K mg base ["self"] "Journal.every" (defScope s_Journal_every) a.f_Journal_every cdv A outer s H (gcE H E)) (fun _ => (gcE H E)) := passB
  have RX : Raises (cxOf (XE P w) P w K mg base ["self"] "Journal.every" (defScope s_Journal_every) a.f_Journal_every cdv A outer s H (gcE H E)) (fun _ => (gcE H E)) := raisesB
  have HU : (cxOf (XE P w) P w K mg base ["self"] "Journal.every" (defScope s_Journal_every) a.f_Journal_every cdv A outer s H (gcE H E)).A.units + 100 < cLine := units100 hr
  obtain ⟨hN, h1⟩ := h
  obtain ⟨p, rfl, b, u, bs, kvs, J, l1, k⟩ := asR.inv h1
  obtain ⟨dx, hp⟩ := J.ob
  refine ⟨hN, _, (pss_one (ps_ret (pe_callTy (fc_list K) rfl T.z_list bb_list (FA.pa (fa_cons (pe_fldK K (fv 0)) fa_nil))))), ?_⟩
  ((try dsimp only [sp_is_whole, sp_is_among, sp_is_month, sp_leap_days, sp_first_day, sp_last_day, sp_month_of, sp_start, sp_g_init, sp_g_closed, sp_g_lets, sp_g_need, sp_g_shut, sp_j_init, sp5, sp_j_put, sp_j_many, sp_j_booking]); try simp only [rdAll, rdI, V.int.injEq, V.ref.injEq, eqQ_int, eqQ_bl, eqQ_str, eqQ_ref, eqQ_nn, eqQ_ni, eqQ_in, eqQ_is, eqQ_si, L2.start, List.map_cons, List.map_nil, List.cons_append, List.nil_append, List.append_nil, List.length_cons, List.length_nil, List.replicate, List.getElem?_cons_zero, List.getElem?_cons_succ, List.set_cons_zero, List.set_cons_succ, Nat.reduceSub, Nat.reduceAdd, Int.reduceLT, Int.reduceLE, Int.reducePow, Int.reduceNeg, Nat.reducePow, List.cons.injEq, exists_eq_left', exists_eq_left, eq_self, if_false, if_true, ↓reduceIte, ite_not, forall_const, Option.join, Option.bind_some, id_eq])
  exact ⟨_, _, _, _, hp, T.cl_Journal, T.n_Journal_bookings, lkb _ _, bs, .inl (.inl (.inl J.ls)), fun l hl => ⟨_, Gc.one (same_upd _ hl) hl upd_same rfl, k l hl⟩⟩
def sp_j_undone (C nb : Addr) : Sp := sp2 fun x y H Q E => NoT H ∧ asR x fun p => asK H y fun _ => ∃ b u bs kvs, JAt C H p b u bs kvs ∧ bs.length ≤ 100 ∧ if amg y 0 (bs.length - 1) = true then (∃ (i : Nat) (q : Addr) (j : Int) (l : List V), y = .int i ∧ bs[i]? = some (.ref q) ∧ H q = some (.tup (.int j :: l)) ∧ Q ((valV kvs (.inl j)).getD .non) H) else E (.ref nb) none H
theorem ok_Journal_undone_by (T : Txt K mg a) : FnOk P w K mg base (XE P w) 4 a.f_Journal_undone_by a.fd_Journal_undone_by ["self", "number"] (sp_j_undone a.c_Journal a.c_NoBooking) := by
  refine T.F_Journal_undone_by.okG sc_Journal_undone_by (fun vs H Q E h => sp2.len h) (fun cdv A outer s H vs Q E hr h => ?_)
  obtain ⟨x0, x1, rfl, h⟩ := sp2.inv h
  have ND := sc_Journal_undone_by.nd
  have PX : Passes' (XE P w) (cxOf (XE P w) P w K mg base ["self", "number"] "Journal.undone_by" (defScope s_Journal_undone_by) a.f_Journal_undone_by cdv A outer s H (gcE H E)) (fun _ => (gcE H E)) := passB
  have RX : Raises (cxOf (XE P w) P w K mg base ["self", "number"] "Journal.undone_by" (defScope s_Journal_undone_by) a.f_Journal_undone_by cdv A outer s H (gcE H E)) (fun _ => (gcE H E)) := raisesB
  have HU : (cxOf (XE P w) P w K mg base ["self", "number"] "Journal.undone_by" (defScope s_Journal_undone_by) a.f_Journal_undone_by cdv A outer s H (gcE H E)).A.units + 100 < cLine := units100 hr
  obtain ⟨hN, h1⟩ := h
  obtain ⟨p, rfl, h2⟩ := asR.inv h1
  obtain ⟨t, ht, hb, b, u, bs, kvs, J, l1, k⟩ := asK.inv h2
  obtain ⟨dx, hp⟩ := J.ob
  have G_Journal_booking := ok_Journal_booking (P := P) (w := w) (base := base) T
  have b_Journal_booking := bn_Journal_booking T.F_Journal_booking
  refine ⟨hN, _, (pss_one (ps_ret (pe_dget1 (Nat.lt_of_le_of_lt (Nat.add_le_add_left (by decide) _) HU) (pe_fldK K (fv 0)) (pe_ix (fx_seqK K) (pe_methX (fv 0) T.cl_Journal T.mt_Journal_booking G_Journal_booking (hr.mono (by decide)) b_Journal_booking .nil PX (FA.pa (fa_cons (fv 1) fa_nil))) pe_int (fun _ _ => rfl)) ⟨rfl, rfl, rfl, rfl⟩))), ?_⟩
  ((try dsimp only [sp_is_whole, sp_is_among, sp_is_month, sp_leap_days, sp_first_day, sp_last_day, sp_month_of, sp_start, sp_g_init, sp_g_closed, sp_g_lets, sp_g_need, sp_g_shut, sp_j_init, sp5, sp_j_put, sp_j_many, sp_j_booking, sp_j_every]); try simp only [rdAll, rdI, V.int.injEq, V.ref.injEq, eqQ_int, eqQ_bl, eqQ_str, eqQ_ref, eqQ_nn, eqQ_ni, eqQ_in, eqQ_is, eqQ_si, L2.start, List.map_cons, List.map_nil, List.cons_append, List.nil_append, List.append_nil, List.length_cons, List.length_nil, List.replicate, List.getElem?_cons_zero, List.getElem?_cons_succ, List.set_cons_zero, List.set_cons_succ, Nat.reduceSub, Nat.reduceAdd, Int.reduceLT, Int.reduceLE, Int.reducePow, Int.reduceNeg, Nat.reducePow, List.cons.injEq, exists_eq_left', exists_eq_left, eq_self, if_false, if_true, ↓reduceIte, ite_not, forall_const, Option.join, Option.bind_some, id_eq])
  refine ⟨_, _, _, _, hp, T.cl_Journal, T.n_Journal_undoings, lku _ _, u, rfl, .inl ⟨_, .inl J.dc⟩, _, _, hp, ?_, hN, asK.of ht ⟨b, u, bs, kvs, J, l1, ?_⟩⟩
  · rw [lk_miss (by decide +kernel), lk_miss (by decide +kernel)]; rfl
  · split
    · rename_i e
      rw [if_pos e] at k
      obtain ⟨i, q, j, l, rfl, h1, h2, k⟩ := k
      intro i' v e1 e2
      cases e1
      rw [h1] at e2; cases e2
      exact ⟨_, .int j, .inr (.inl (.inl h2)), atI_nat (j := 0) rfl, _, DGet.k (k := .inl j) J.dc, H, Gc.refl, k⟩
    · rename_i e
      rw [if_neg e] at k; exact k
end
end K13
set_option Elab.async false
set_option linter.all false
set_option maxRecDepth 100000
set_option maxHeartbeats 400000
namespace K13
open PySem L2
seal L2.PE L2.PT L2.PW L2.PA L2.PS L2.PSs L2.PI L2.PG L2.PGs L2.PO
section
variable {pS : Addr} {ns : List Int} {P : Program} {w : World} {K : PySem.W.Frag} {mg : Str → Option Value} {base : Heap} {a : Adr}
open K3
def CA (ns : List Int) (k : Int) : Int := ns.getD k.toNat 0 + ns.getD k.toNat 0 % 251 * 381840
def sp_at (K : PySem.W.Frag) (p0 : Addr) (ns : List Int) : Sp := sp2 fun x y H Q _ => asR x fun p => asI y fun k => NoT H ∧ p0 = p ∧ SqL K H p0 (ns.map V.int) ∧ 0 ≤ k ∧ Q (.int (CA ns k)) H
theorem ok__law_cell_at (T : Txt K mg a) : FnOk P w K mg base (XE P w) 1 a.f__law_cell_at a.fd__law_cell_at ["_law_script", "_law_k"] (sp_at K pS ns) := by
  refine T.F__law_cell_at.okG sc__law_cell_at (fun vs H Q E h => sp2.len h) (fun cdv A outer s H vs Q E hr h => ?_)
  obtain ⟨x0, x1, rfl, h⟩ := sp2.inv h
  have ND := sc__law_cell_at.nd
  have PX : Passes' (XE P w) (cxOf (XE P w) P w K mg base ["_law_script", "_law_k"] "_law_cell_at" (defScope s__law_cell_at) a.f__law_cell_at cdv A outer s H (gcE H E)) (fun _ => (gcE H E)) := passB
  have RX : Raises (cxOf (XE P w) P w K mg base ["_law_script", "_law_k"] "_law_cell_at" (defScope s__law_cell_at) a.f__law_cell_at cdv A outer s H (gcE H E)) (fun _ => (gcE H E)) := raisesB
  have HU : (cxOf (XE P w) P w K mg base ["_law_script", "_law_k"] "_law_cell_at" (defScope s__law_cell_at) a.f__law_cell_at cdv A outer s H (gcE H E)).A.units + 100 < cLine := units100 hr
  obtain ⟨p, rfl, h1⟩ := asR.inv h
  obtain ⟨k, rfl, hN, rfl, hS, k0, q⟩ := asI.inv h1
  refine ⟨hN, _, (pss_cons (ps_if (ft_cmp fo_lt (fv 1) (pe_callB (fc_lenK K) rfl T.z_len bb_len (FA.pa (fa_cons (fv 0) fa_nil))) (nomark _)) (pss_one (ps_ret (pe_op fo_add (pe_ix (fx_seqK K) (fv 0) (fv 1) (fun _ _ => rfl)) (pe_op fo_mul (pe_op fo_mod (pe_ix (fx_seqK K) (fv 0) (fv 1) (fun _ _ => rfl)) pe_int) pe_int)))) pss_nil)
      (pss_one (ps_ret pe_int))), ?_⟩
  ((try dsimp only [sp_is_whole, sp_start, sp_first_day, sp_last_day]); try simp only [rdAll, rdI, V.int.injEq, V.ref.injEq, eqQ_int, eqQ_bl, eqQ_str, eqQ_ref, eqQ_nn, eqQ_ni, eqQ_in, eqQ_is, eqQ_si, L2.start, List.map_cons, List.map_nil, List.cons_append, List.nil_append, List.append_nil, List.length_cons, List.length_nil, List.replicate, List.getElem?_cons_zero, List.getElem?_cons_succ, List.set_cons_zero, List.set_cons_succ, Nat.reduceSub, Nat.reduceAdd, Int.reduceLT, Int.reduceLE, Int.reducePow, Int.reduceNeg, Nat.reducePow, List.cons.injEq, exists_eq_left', exists_eq_left, eq_self, if_false, if_true, ↓reduceIte, ite_not, forall_const, Option.join, Option.bind_some, id_eq])
  refine ⟨ns.map V.int, .inl hS, ?_⟩
  rw [List.length_map]
  split
  · rename_i h2
    refine ⟨_, _, .inl hS, at_get k0 h2, _, _, .inl hS, at_get k0 h2, ?_⟩
    show gIC _ _ (.int _) (.int 251) H _
    ((try dsimp only [sp_is_whole, sp_start, sp_first_day, sp_last_day]); try simp only [rdAll, rdI, V.int.injEq, V.ref.injEq, eqQ_int, eqQ_bl, eqQ_str, eqQ_ref, eqQ_nn, eqQ_ni, eqQ_in, eqQ_is, eqQ_si, L2.start, List.map_cons, List.map_nil, List.cons_append, List.nil_append, List.append_nil, List.length_cons, List.length_nil, List.replicate, List.getElem?_cons_zero, List.getElem?_cons_succ, List.set_cons_zero, List.set_cons_succ, Nat.reduceSub, Nat.reduceAdd, Int.reduceLT, Int.reduceLE, Int.reducePow, Int.reduceNeg, Nat.reducePow, List.cons.injEq, exists_eq_left', exists_eq_left, eq_self, if_false, if_true, ↓reduceIte, ite_not, forall_const, Option.join, Option.bind_some, id_eq])
    exact q
  · rename_i h2
    have g : CA ns k = 0 := by
      have l : ns.length ≤ k.toNat := by omega
      simp [CA, List.getD, l]
    rw [g] at q
    exact q
def L12 (y : Int) : List Int := [31, 28 + (if 365 * (y + 1) + LD (y + 1) - (365 * y + LD y) = 366 then 1 else 0), 31, 30, 31, 30, 31, 31, 30, 31, 30, 31]
def sp_lengths : Sp := sp1 fun x H Q _ => NoT H ∧ asI x fun y => ∀ q, H q = none → Q (.ref q) (upd H q (.lst ((L12 y).map V.int)))
theorem ok__law_lengths (T : Txt K mg a) : FnOk P w K mg base (XE P w) 2 a.f__law_lengths a.fd__law_lengths ["_law_year"] sp_lengths := by
  refine T.F__law_lengths.okG sc__law_lengths (fun vs H Q E h => sp1.len h) (fun cdv A outer s H vs Q E hr h => ?_)
  obtain ⟨x0, rfl, h⟩ := sp1.inv h
  have ND := sc__law_lengths.nd
  have PX : Passes' (XE P w) (cxOf (XE P w) P w K mg base ["_law_year", "_law_second"] "_law_lengths" (defScope s__law_lengths) a.f__law_lengths cdv A outer s H (gcE H E)) (fun _ => (gcE H E)) := passB
  have RX : Raises (cxOf (XE P w) P w K mg base ["_law_year", "_law_second"] "_law_lengths" (defScope s__law_lengths) a.f__law_lengths cdv A outer s H (gcE H E)) (fun _ => (gcE H E)) := raisesB
  have HU : (cxOf (XE P w) P w K mg base ["_law_year", "_law_second"] "_law_lengths" (defScope s__law_lengths) a.f__law_lengths cdv A outer s H (gcE H E)).A.units + 100 < cLine := units100 hr
  obtain ⟨hN, h1⟩ := h
  obtain ⟨y, rfl, k⟩ := asI.inv h1
  have G__law_start := ok__law_start (P := P) (w := w) (base := base) T
  have b__law_start := bn__law_start T.F__law_start
  refine ⟨hN, _, (pss_cons (ps_set (i := 1) ND rfl (Or.inl rfl) (pe_op fo_add pe_int (pe_callTy fc_int2 rfl T.z_int bb_int (FA.pa (fa_cons (pe_cmpR (fo_eqQ K HU) (pe_op fo_sub (pe_callX G__law_start (hr.mono (by decide)) rfl T.m__law_start T.F__law_start.kp b__law_start .nil PX (FA.pa (fa_cons (pe_op fo_add (fv 0) pe_int) fa_nil))) (pe_callX G__law_start (hr.mono (by decide)) rfl T.m__law_start T.F__law_start.kp b__law_start .nil PX (FA.pa (fa_cons (fv 0) fa_nil)))) pe_int (nomark _)) fa_nil)))))
      (pss_one (ps_ret (pe_lst (FA.pa (fa_cons pe_int (fa_cons (fv 1) (fa_cons pe_int (fa_cons pe_int (fa_cons pe_int (fa_cons pe_int (fa_cons pe_int (fa_cons pe_int (fa_cons pe_int (fa_cons pe_int (fa_cons pe_int (fa_cons pe_int fa_nil))))))))))))))))), ?_⟩
  ((try dsimp only [sp_is_whole, sp_start, sp_first_day, sp_last_day, sp_at]); try simp only [rdAll, rdI, V.int.injEq, V.ref.injEq, eqQ_int, eqQ_bl, eqQ_str, eqQ_ref, eqQ_nn, eqQ_ni, eqQ_in, eqQ_is, eqQ_si, L2.start, List.map_cons, List.map_nil, List.cons_append, List.nil_append, List.append_nil, List.length_cons, List.length_nil, List.replicate, List.getElem?_cons_zero, List.getElem?_cons_succ, List.set_cons_zero, List.set_cons_succ, Nat.reduceSub, Nat.reduceAdd, Int.reduceLT, Int.reduceLE, Int.reducePow, Int.reduceNeg, Nat.reducePow, List.cons.injEq, exists_eq_left', exists_eq_left, eq_self, if_false, if_true, ↓reduceIte, ite_not, forall_const, Option.join, Option.bind_some, id_eq])
  exact ⟨hN, hN, by rw [sizeLine_eq]; decide, fun p hp => ⟨_, Gc.one (same_upd _ hp) hp upd_same rfl, k p hp⟩⟩
theorem L12_two (y : Int) : 28 + (if 365 * (y + 1) + LD (y + 1) - (365 * y + LD y) = 366 then 1 else 0) = 28 + (LD (y + 1) - LD y) := by
  have h := LD_step y
  rw [h]
  split <;> split <;> omega
theorem L12_sum (m : Int) : 365 * (m / 12) + LD (m / 12) + ((L12 (m / 12)).take (m % 12).toNat).sum = FD m := by
  unfold L12
  rw [L12_two]
  exact R_sum m
theorem L12_at (m : Int) : (L12 (m / 12)).getD (m % 12).toNat 0 = LG (2000 + m / 12) (1 + m % 12) := by
  unfold L12
  rw [L12_two]
  exact R_at m
def sp_ends : Sp := sp1 fun x H Q _ => NoT H ∧ asI x fun m => 0 ≤ m ∧ ∀ q, H q = none → Q (.ref q) (upd H q (.tup [.int (FD m), .int (FD (m + 1) - 1)]))
theorem ok__law_month_ends (T : Txt K mg a) : FnOk P w K mg base (XE P w) 3 a.f__law_month_ends a.fd__law_month_ends ["_law_month"] sp_ends := by
  refine T.F__law_month_ends.okG sc__law_month_ends (fun vs H Q E h => sp1.len h) (fun cdv A outer s H vs Q E hr h => ?_)
  obtain ⟨x0, rfl, h⟩ := sp1.inv h
  have ND := sc__law_month_ends.nd
  have PX : Passes' (XE P w) (cxOf (XE P w) P w K mg base ["_law_month", "_law_lengths_here", "_law_first"] "_law_month_ends" (defScope s__law_month_ends) a.f__law_month_ends cdv A outer s H (gcE H E)) (fun _ => (gcE H E)) := passB
  have RX : Raises (cxOf (XE P w) P w K mg base ["_law_month", "_law_lengths_here", "_law_first"] "_law_month_ends" (defScope s__law_month_ends) a.f__law_month_ends cdv A outer s H (gcE H E)) (fun _ => (gcE H E)) := raisesB
  have HU : (cxOf (XE P w) P w K mg base ["_law_month", "_law_lengths_here", "_law_first"] "_law_month_ends" (defScope s__law_month_ends) a.f__law_month_ends cdv A outer s H (gcE H E)).A.units + 100 < cLine := units100 hr
  obtain ⟨hN, h1⟩ := h
  obtain ⟨m, rfl, m0, k⟩ := asI.inv h1
  have G__law_start := ok__law_start (P := P) (w := w) (base := base) T
  have b__law_start := bn__law_start T.F__law_start
  have G__law_lengths := ok__law_lengths (P := P) (w := w) (base := base) T
  have b__law_lengths := bn__law_lengths T.F__law_lengths
  refine ⟨hN, _, (pss_cons (ps_set (i := 1) ND rfl (Or.inl rfl) (pe_callX G__law_lengths (hr.mono (by decide)) rfl T.m__law_lengths T.F__law_lengths.kp b__law_lengths .nil PX (FA.pa (fa_cons (pe_op fo_fdiv (fv 0) pe_int) fa_nil))))
      (pss_cons (ps_set (i := 2) ND rfl (Or.inl rfl) (pe_op fo_add (pe_callX G__law_start (hr.mono (by decide)) rfl T.m__law_start T.F__law_start.kp b__law_start .nil PX (FA.pa (fa_cons (pe_op fo_fdiv (fv 0) pe_int) fa_nil))) (pe_callB (fc_sumA K rfl) rfl T.z_sum bb_sum (FA.pa (fa_cons (pe_slice (fs_listK K) (fv 1) po_none (po_some (pe_op fo_mod (fv 0) pe_int))) fa_nil)))))
      (pss_one (ps_ret (pe_tup (FA.pa (fa_cons (fv 2) (fa_cons (pe_op fo_sub (pe_op fo_add (fv 2) (pe_ix (fx_seqK K) (fv 1) (pe_op fo_mod (fv 0) pe_int) (fun _ _ => rfl))) pe_int) fa_nil)))))))), ?_⟩
  ((try dsimp only [sp_is_whole, sp_start, sp_first_day, sp_last_day, sp_at, sp_lengths]); try simp only [rdAll, rdI, V.int.injEq, V.ref.injEq, eqQ_int, eqQ_bl, eqQ_str, eqQ_ref, eqQ_nn, eqQ_ni, eqQ_in, eqQ_is, eqQ_si, L2.start, List.map_cons, List.map_nil, List.cons_append, List.nil_append, List.append_nil, List.length_cons, List.length_nil, List.replicate, List.getElem?_cons_zero, List.getElem?_cons_succ, List.set_cons_zero, List.set_cons_succ, Nat.reduceSub, Nat.reduceAdd, Int.reduceLT, Int.reduceLE, Int.reducePow, Int.reduceNeg, Nat.reducePow, List.cons.injEq, exists_eq_left', exists_eq_left, eq_self, if_false, if_true, ↓reduceIte, ite_not, forall_const, Option.join, Option.bind_some, id_eq])
  refine ⟨hN, fun q hq => ⟨noT_upd hN rfl, ?_⟩⟩
  have b0 : 0 ≤ m % 12 := Int.emod_nonneg _ (by decide)
  have b1 : m % 12 < 12 := Int.emod_lt_of_pos _ (by decide)
  refine ⟨q, _, rfl, .inl (.inl upd_same), fun q2 hq2 => ?_⟩
  rw [cut_take _ b0, ← List.map_take]
  refine ⟨_, .inl (.inl (.inl upd_same)), ?_⟩
  show gAdd (.int _) (.int _) _ _
  ((try dsimp only [sp_is_whole, sp_start, sp_first_day, sp_last_day, sp_at, sp_lengths]); try simp only [rdAll, rdI, V.int.injEq, V.ref.injEq, eqQ_int, eqQ_bl, eqQ_str, eqQ_ref, eqQ_nn, eqQ_ni, eqQ_in, eqQ_is, eqQ_si, L2.start, List.map_cons, List.map_nil, List.cons_append, List.nil_append, List.append_nil, List.length_cons, List.length_nil, List.replicate, List.getElem?_cons_zero, List.getElem?_cons_succ, List.set_cons_zero, List.set_cons_succ, Nat.reduceSub, Nat.reduceAdd, Int.reduceLT, Int.reduceLE, Int.reducePow, Int.reduceNeg, Nat.reducePow, List.cons.injEq, exists_eq_left', exists_eq_left, eq_self, if_false, if_true, ↓reduceIte, ite_not, forall_const, Option.join, Option.bind_some, id_eq])
  have n2 : q ≠ q2 := fun z => by rw [← z, upd_same] at hq2; cases hq2
  refine ⟨_, .int ((L12 (m / 12)).getD (m % 12).toNat 0), .inl (.inl (.inl ((upd_ne n2).trans upd_same))), at_get b0 b1, ?_⟩
  ((try dsimp only [sp_is_whole, sp_start, sp_first_day, sp_last_day, sp_at, sp_lengths]); try simp only [rdAll, rdI, V.int.injEq, V.ref.injEq, eqQ_int, eqQ_bl, eqQ_str, eqQ_ref, eqQ_nn, eqQ_ni, eqQ_in, eqQ_is, eqQ_si, L2.start, List.map_cons, List.map_nil, List.cons_append, List.nil_append, List.append_nil, List.length_cons, List.length_nil, List.replicate, List.getElem?_cons_zero, List.getElem?_cons_succ, List.set_cons_zero, List.set_cons_succ, Nat.reduceSub, Nat.reduceAdd, Int.reduceLT, Int.reduceLE, Int.reducePow, Int.reduceNeg, Nat.reducePow, List.cons.injEq, exists_eq_left', exists_eq_left, eq_self, if_false, if_true, ↓reduceIte, ite_not, forall_const, Option.join, Option.bind_some, id_eq])
  refine ⟨by rw [sizeLine_eq]; decide, fun p hp => ?_⟩
  have h0 : H p = none := by
    have n1 : p ≠ q2 := fun z => by rw [z, upd_same] at hp; cases hp
    rw [upd_ne n1] at hp
    have n3 : p ≠ q := fun z => by rw [z, upd_same] at hp; cases hp
    rw [upd_ne n3] at hp; exact hp
  have e1 : 365 * (m / 12) + LD (m / 12) + ((L12 (m / 12)).take (m % 12).toNat).sum = FD m := L12_sum m
  have e2 : FD m + (L12 (m / 12)).getD (m % 12).toNat 0 - 1 = FD (m + 1) - 1 := by rw [FD_step, L12_at]
  rw [e1, e2]
  exact ⟨_, Gc.one (((same_upd _ hq).trans (same_upd _ hq2)).trans (same_upd _ hp)) h0 upd_same rfl, k p h0⟩
def wM : List Nat := [109, 111, 110, 116, 104]
def wN : List Nat := [110, 101, 120, 116]
def wB : List Nat := [98, 111, 111, 107, 105, 110, 103]
def sp_word (bm nn nb : Addr) : Sp := sp1 fun x H Q _ => NoT H ∧ asR x fun e => ∃ C, H e = some (ExcIs (.ref C) e) ∧ ((C = bm ∧ Q (L2.T wM) H) ∨ (C = nn ∧ Q (L2.T wN) H) ∨ (C = nb ∧ Q (L2.T wB) H))
theorem ok__law_word (T : Txt K mg a) : FnOkC P w K mg base (XE P w) 1 a.f__law_word a.fd__law_word ["_law_e"] (sp_word a.c_BadMonth a.c_NotNext a.c_NoBooking) := by
  refine T.F__law_word.okC sc__law_word (fun vs H Q E h => sp1.len h) (fun cdv A outer s H vs Q E hr h => ?_)
  obtain ⟨x0, rfl, h⟩ := sp1.inv h
  have ND := sc__law_word.nd
  obtain ⟨hN, h1⟩ := h
  obtain ⟨e, rfl, C, he, h2⟩ := asR.inv h1
  refine ⟨_, (pss_cons (ps_set (i := 1) ND rfl (Or.inl rfl) (pe_op fo_add (pe_op fo_mulT (pe_strT [109, 111, 110, 116, 104]) (pe_callTy fc_int2 rfl T.z_int bb_int (FA.pa (fa_cons (pe_callB (fc_isiK K) rfl T.z_isinstance bb_isinstance (FA.pa (fa_cons (fv 0) (fa_cons (pe_glob (v := .ref a.c_BadMonth) rfl T.m_BadMonth rfl) fa_nil)))) fa_nil)))) (pe_op fo_mulT (pe_strT [110, 101, 120, 116]) (pe_callTy fc_int2 rfl T.z_int bb_int (FA.pa (fa_cons (pe_callB (fc_isiK K) rfl T.z_isinstance bb_isinstance (FA.pa (fa_cons (fv 0) (fa_cons (pe_glob (v := .ref a.c_NotNext) rfl T.m_NotNext rfl) fa_nil)))) fa_nil))))))
      (pss_one (ps_ret (pe_op fo_mulT (pe_op fo_add (fv 1) (pe_op fo_mulT (pe_strT [98, 111, 111, 107, 105, 110, 103]) (pe_callTy fc_int2 rfl T.z_int bb_int (FA.pa (fa_cons (pe_callB (fc_isiK K) rfl T.z_isinstance bb_isinstance (FA.pa (fa_cons (fv 0) (fa_cons (pe_glob (v := .ref a.c_NoBooking) rfl T.m_NoBooking rfl) fa_nil)))) fa_nil))))) (pe_callTy fc_int2 rfl T.z_int bb_int (FA.pa (fa_cons (pe_callB (fc_isiK K) rfl T.z_isinstance bb_isinstance (FA.pa (fa_cons (fv 0) (fa_cons (pe_bltn (v := .ty "ValueError") rfl T.z_ValueError bb_ValueError rfl) fa_nil)))) fa_nil))))))), ?_⟩
  ((try dsimp only [sp_is_whole, sp_start, sp_first_day, sp_last_day, sp_at, sp_lengths, sp_ends]); try simp only [rdAll, rdI, V.int.injEq, V.ref.injEq, eqQ_int, eqQ_bl, eqQ_str, eqQ_ref, eqQ_nn, eqQ_ni, eqQ_in, eqQ_is, eqQ_si, L2.start, List.map_cons, List.map_nil, List.cons_append, List.nil_append, List.append_nil, List.length_cons, List.length_nil, List.replicate, List.getElem?_cons_zero, List.getElem?_cons_succ, List.set_cons_zero, List.set_cons_succ, Nat.reduceSub, Nat.reduceAdd, Int.reduceLT, Int.reduceLE, Int.reducePow, Int.reduceNeg, Nat.reducePow, List.cons.injEq, exists_eq_left', exists_eq_left, eq_self, if_false, if_true, ↓reduceIte, ite_not, forall_const, Option.join, Option.bind_some, id_eq])
  have ke : kindV H (.ref e) = none := by simp [kindV, he, ExcIs]
  rcases h2 with ⟨rfl, k⟩ | ⟨rfl, k⟩ | ⟨rfl, k⟩
  · refine ⟨_, true, he, T.x_BadMonth, T.s_BadMonth_BadMonth, ?_⟩
    ((try dsimp only [sp_is_whole, sp_start, sp_first_day, sp_last_day, sp_at, sp_lengths, sp_ends]); try simp only [rdAll, rdI, V.int.injEq, V.ref.injEq, eqQ_int, eqQ_bl, eqQ_str, eqQ_ref, eqQ_nn, eqQ_ni, eqQ_in, eqQ_is, eqQ_si, L2.start, List.map_cons, List.map_nil, List.cons_append, List.nil_append, List.append_nil, List.length_cons, List.length_nil, List.replicate, List.getElem?_cons_zero, List.getElem?_cons_succ, List.set_cons_zero, List.set_cons_succ, Nat.reduceSub, Nat.reduceAdd, Int.reduceLT, Int.reduceLE, Int.reducePow, Int.reduceNeg, Nat.reducePow, List.cons.injEq, exists_eq_left', exists_eq_left, eq_self, if_false, if_true, ↓reduceIte, ite_not, forall_const, Option.join, Option.bind_some, id_eq])
    refine ⟨by decide, _, false, he, T.x_BadMonth, T.s_BadMonth_NotNext, by decide, by rw [sizeLine_eq]; decide, _, false, he, T.x_BadMonth, T.s_BadMonth_NoBooking, by decide, by rw [sizeLine_eq]; decide, ?_⟩
    simp only [ke]
    exact ⟨e, _, true, rfl, he, T.x_BadMonth, T.s_BadMonth_ValueError, by decide, k⟩
  · refine ⟨_, false, he, T.x_NotNext, T.s_NotNext_BadMonth, ?_⟩
    ((try dsimp only [sp_is_whole, sp_start, sp_first_day, sp_last_day, sp_at, sp_lengths, sp_ends]); try simp only [rdAll, rdI, V.int.injEq, V.ref.injEq, eqQ_int, eqQ_bl, eqQ_str, eqQ_ref, eqQ_nn, eqQ_ni, eqQ_in, eqQ_is, eqQ_si, L2.start, List.map_cons, List.map_nil, List.cons_append, List.nil_append, List.append_nil, List.length_cons, List.length_nil, List.replicate, List.getElem?_cons_zero, List.getElem?_cons_succ, List.set_cons_zero, List.set_cons_succ, Nat.reduceSub, Nat.reduceAdd, Int.reduceLT, Int.reduceLE, Int.reducePow, Int.reduceNeg, Nat.reducePow, List.cons.injEq, exists_eq_left', exists_eq_left, eq_self, if_false, if_true, ↓reduceIte, ite_not, forall_const, Option.join, Option.bind_some, id_eq])
    refine ⟨by decide, _, true, he, T.x_NotNext, T.s_NotNext_NotNext, by decide, by rw [sizeLine_eq]; decide, _, false, he, T.x_NotNext, T.s_NotNext_NoBooking, by decide, by rw [sizeLine_eq]; decide, ?_⟩
    simp only [ke]
    exact ⟨e, _, true, rfl, he, T.x_NotNext, T.s_NotNext_ValueError, by decide, k⟩
  · refine ⟨_, false, he, T.x_NoBooking, T.s_NoBooking_BadMonth, ?_⟩
    ((try dsimp only [sp_is_whole, sp_start, sp_first_day, sp_last_day, sp_at, sp_lengths, sp_ends]); try simp only [rdAll, rdI, V.int.injEq, V.ref.injEq, eqQ_int, eqQ_bl, eqQ_str, eqQ_ref, eqQ_nn, eqQ_ni, eqQ_in, eqQ_is, eqQ_si, L2.start, List.map_cons, List.map_nil, List.cons_append, List.nil_append, List.append_nil, List.length_cons, List.length_nil, List.replicate, List.getElem?_cons_zero, List.getElem?_cons_succ, List.set_cons_zero, List.set_cons_succ, Nat.reduceSub, Nat.reduceAdd, Int.reduceLT, Int.reduceLE, Int.reducePow, Int.reduceNeg, Nat.reducePow, List.cons.injEq, exists_eq_left', exists_eq_left, eq_self, if_false, if_true, ↓reduceIte, ite_not, forall_const, Option.join, Option.bind_some, id_eq])
    refine ⟨by decide, _, false, he, T.x_NoBooking, T.s_NoBooking_NotNext, by decide, by rw [sizeLine_eq]; decide, _, true, he, T.x_NoBooking, T.s_NoBooking_NoBooking, by decide, by rw [sizeLine_eq]; decide, ?_⟩
    simp only [ke]
    exact ⟨e, _, true, rfl, he, T.x_NoBooking, T.s_NoBooking_ValueError, by decide, k⟩
end
end K13
set_option Elab.async false
set_option linter.all false
set_option maxRecDepth 100000
set_option maxHeartbeats 400000
namespace K13
open PySem L2
seal L2.PE L2.PT L2.PW L2.PA L2.PS L2.PSs L2.PI L2.PG L2.PGs L2.PO
section
variable {pS : Addr} {ns : List Int} {P : Program} {w : World} {K : PySem.W.Frag} {mg : Str → Option Value} {base : Heap} {a : Adr}
open K3
def flP : V → Prop
  | .int _ => True
  | .bl _ => True
  | .non => True
  | .str _ => True
  | _ => False
theorem flat_kind {x : V} (h : flP x) (H : Hp) : ∃ t, kindV H x = some t := by
  cases x with
  | int _ => exact ⟨_, rfl⟩
  | bl _ => exact ⟨_, rfl⟩
  | non => exact ⟨_, rfl⟩
  | str _ => exact ⟨_, rfl⟩
  | _ => exact h.elim
theorem atI_pos {xs : List V} {i : Int} (h0 : 0 ≤ i) (h1 : i < xs.length) : ∃ v, v ∈ xs ∧ atI xs i = some v := by
  obtain ⟨n, rfl⟩ := Int.eq_ofNat_of_zero_le h0
  have hn : n < xs.length := by omega
  exact ⟨xs[n], List.getElem_mem hn, atI_nat (List.getElem?_eq_getElem hn)⟩
theorem pick_flat {xs : List V} {H H1 : Hp} {Q : VK} {i : Int} (h0 : 0 ≤ i) (h1 : i < xs.length) (hf : ∀ x ∈ xs, flP x) (k : ∀ x, flP x → Q x H) : kPick xs H H1 Q (.int i) := by
  obtain ⟨v, hv, e⟩ := atI_pos h0 h1
  have f := hf v hv
  unfold kPick
  dsimp only
  rw [e]
  cases v with
  | int _ => exact k _ f
  | bl _ => exact k _ f
  | non => exact k _ f
  | str _ => exact k _ f
  | _ => exact f.elim
structure GAt (C : Addr) (H : Hp) (g n : Addr) (ms : List Int) : Prop where
  ob : ∃ dx, H g = some (gateO C dx (cl ms.getLast?))
  ls : H n = some (.lst (ms.map V.int))
  ok : ∀ m ∈ ms, 0 ≤ m ∧ m ≤ 4799
theorem GAt.keep {C : Addr} {S : List Addr} {H H' : Hp} {g n : Addr} {ms : List Int} (j : GAt C H g n ms) (x : Keep S H H') (hg : g ∉ S) (hn : n ∉ S) : GAt C H' g n ms :=
  ⟨by obtain ⟨dx, e⟩ := j.ob; exact ⟨dx, x _ _ e hg⟩, x _ _ j.ls hn, j.ok⟩
theorem eqR_nil {K : PySem.W.Frag} {H : Hp} {p q : Addr} {xs : List V} (hx : SqL K H p xs) (hq : SqL K H q []) : EqR K H p q xs.isEmpty := by
  cases xs with
  | nil => exact EqR.lst (e := fun _ => true) hx hq rfl fun j x y g _ => by simp at g
  | cons a r => exact EqR.len hx hq (by simp)
theorem at_last {ms : List Int} {l : Int} (h : ms.getLast? = some l) : atI (ms.map V.int) (-1) = some (.int l) := by
  rcases List.eq_nil_or_concat ms with e | ⟨i, z, e⟩
  · subst e; cases h
  · subst e
    rw [List.concat_eq_append, List.getLast?_concat] at h
    cases h
    rw [List.concat_eq_append, List.map_append]
    exact atI_last _ _
theorem emp_last {ms : List Int} : (ms.map V.int).isEmpty = ms.getLast?.isNone := by
  cases ms with
  | nil => rfl
  | cons a r => simp
def due (ms : List Int) (x : V) : List Nat := if amg x 0 4799 = true then (match ms.getLast? with | none => [] | some m => if x = .int (m + 1) then [] else wN) else wM
def sp_shut (C : Addr) : Sp := sp4 fun x y z u H Q _ => NoT H ∧ asR x fun g => asR y fun n => asI z fun _ => asI u fun _ => ∃ ms, GAt C H g n ms ∧ ms.length ≤ 100 ∧ ∀ ms' H', ms'.length ≤ ms.length + 1 → GAt C H' g n ms' → Keep [g, n] H H' → NoT H' → Q (.bl true) H'
theorem ok__law_shut (T : Txt K mg a) : FnOk P w K mg base (XE P w) 8 a.f__law_shut a.fd__law_shut ["_law_gate", "_law_months", "_law_cell", "_law_more"] (sp_shut a.c_Gate) := by
  refine T.F__law_shut.okX sc__law_shut (fun vs H Q E h => sp4.len h) (fun cdv A outer s H vs Q E hr h => ?_)
  obtain ⟨x0, x1, x2, x3, rfl, h⟩ := sp4.inv h
  have ND := sc__law_shut.nd
  have PX : Passes' (XE P w) (cxOf (XE P w) P w K mg base ["_law_gate", "_law_months", "_law_cell", "_law_more", "_law_month", "_law_due", "_law_e"] "_law_shut" (defScope s__law_shut) a.f__law_shut cdv A outer s H E) (fun _ => E) := passB
  have RX : Raises (cxOf (XE P w) P w K mg base ["_law_gate", "_law_months", "_law_cell", "_law_more", "_law_month", "_law_due", "_law_e"] "_law_shut" (defScope s__law_shut) a.f__law_shut cdv A outer s H E) (fun _ => E) := raisesB
  have HU : (cxOf (XE P w) P w K mg base ["_law_gate", "_law_months", "_law_cell", "_law_more", "_law_month", "_law_due", "_law_e"] "_law_shut" (defScope s__law_shut) a.f__law_shut cdv A outer s H E).A.units + 100 < cLine := units100 hr
  obtain ⟨hN, h1⟩ := h
  obtain ⟨g, rfl, h2⟩ := asR.inv h1
  obtain ⟨n, rfl, h3⟩ := asR.inv h2
  obtain ⟨c, rfl, h4⟩ := asI.inv h3
  obtain ⟨m, rfl, ms, G, l1, k⟩ := asI.inv h4
  obtain ⟨dx, hg⟩ := G.ob
  have G_Gate_shut := ok_Gate_shut (P := P) (w := w) (base := base) T
  have b_Gate_shut := bn_Gate_shut T.F_Gate_shut
  have G__law_word := ok__law_word (P := P) (w := w) (base := base) T
  have b__law_word := bn__law_word T.F__law_word
  have G__law_whole := ok__law_whole (P := P) (w := w) (base := base) T
  have b__law_whole := bn__law_whole T.F__law_whole
  have one : 1 ≤ sizeLine := by rw [sizeLine_eq]; decide
  have sm : (ms.map V.int).length < sizeLine := by rw [List.length_map, sizeLine_eq]; omega
  have gn : g ≠ n := ne_at hg G.ls (by intro z; cases z)
  have lks : List.lookup (Str.ofString "shut") [(Str.ofString "last_closed", cl ms.getLast?)] = none := by rw [lk_miss (by decide +kernel)]; rfl
  have refu : ∀ C e, H e = none → Q (.bl true) (upd H e (ExcIs (.ref C) e)) := fun C e he =>
    k ms _ (Nat.le_succ _) (G.keep (S := []) (Keep.same (same_upd _ he)) List.not_mem_nil List.not_mem_nil) (Keep.same (same_upd _ he)) (noT_upd hN rfl)
  have done : ∀ i : Int, amg (.int i) 0 4799 = true → Q (.bl true) (upd (upd H g (gateO a.c_Gate dx (.int i))) n (.lst (ms.map V.int ++ [.int i]))) := fun i hi => by
    refine k (ms ++ [i]) _ (by simp) ⟨⟨dx, ?_⟩, ?_, ?_⟩ ((Keep.refl.put (.head _)).put (.tail _ (.head _))) (noT_upd (noT_upd hN rfl) rfl)
    · rw [upd_ne gn, upd_same, List.getLast?_concat]; rfl
    · rw [upd_same, List.map_append]; rfl
    · intro m hm
      rcases List.mem_append.mp hm with h | h
      · exact G.ok m h
      · simp at h; subst h
        obtain ⟨i', e, h0, h1⟩ := amg_inv hi
        cases e; exact ⟨h0, h1⟩
  have c5 : ∃ u, PSs (cxOf (XE P w) P w K mg base ["_law_gate", "_law_months", "_law_cell", "_law_more", "_law_month", "_law_due", "_law_e"] "_law_shut" (defScope s__law_shut) a.f__law_shut cdv A outer s H E) (List.drop 5 (defBody s__law_shut)) u ∧ ∀ x, flP x → u { nx := fun _ H' => Q .non H', rt := fun v H' => Q v H' } [some (.ref g), some (.ref n), some (.int c), some (.int m), some x, some (L2.T (due ms x)), none] H := by
    refine ⟨_, (pss_cons (ps_try (i := 6) ND rfl rfl rfl T.m_HouseError rfl rfl rfl (fun pn Ee Ex PX => (pss_one (ps_if (ft_is (pc_notN (pe_methX (fv 0) T.cl_Gate T.mt_Gate_shut G_Gate_shut (hr.mono (by decide)) b_Gate_shut .nil PX (FA.pa (fa_cons (fv 4) fa_nil))))) (pss_one (ps_ret pe_bl)) pss_nil))) (fun e => (pss_one (ps_ret (fe_and (pe_cmpR (fo_neQ K HU) (fv 5) (pe_strT []) (nomark _)) (pe_one (pe_cmpR (fo_eqQ K HU) (pe_callC G__law_word (Room.toC hr (by decide)) rfl T.m__law_word T.F__law_word.kp b__law_word .nil passF (FA.pa (fa_cons (fv 6) fa_nil))) (fv 5) (nomark _))))))))
      (pss_cons (ps_expr (pe_bmK K PySem.F.plainAttrs_list PySem.F.slot_list_append PySem.F.type_list_append mt_append (fv 1) (FA.pa (fa_cons (fv 4) fa_nil))))
      (pss_one (ps_ret (pe_cmpR (fo_eqQ K HU) (fv 5) (pe_strT []) (nomark _)))))), fun x fx => ?_⟩
    obtain ⟨t, ht⟩ := flat_kind fx H
    ((try dsimp only [sp_is_whole, sp_start, sp_first_day, sp_last_day, sp5, sp_g_init, sp_g_closed, sp_g_lets, sp_g_need, sp_g_shut, sp_j_init, sp_j_put, sp_j_many, sp_j_booking, sp_j_every, sp_j_undone, sp_at, sp_lengths, sp_ends, sp_word]); try simp only [rdAll, rdI, V.int.injEq, V.ref.injEq, eqQ_int, eqQ_bl, eqQ_str, eqQ_ref, eqQ_nn, eqQ_ni, eqQ_in, eqQ_is, eqQ_si, L2.start, List.map_cons, List.map_nil, List.cons_append, List.nil_append, List.append_nil, List.length_cons, List.length_nil, List.replicate, List.getElem?_cons_zero, List.getElem?_cons_succ, List.set_cons_zero, List.set_cons_succ, Nat.reduceSub, Nat.reduceAdd, Int.reduceLT, Int.reduceLE, Int.reducePow, Int.reduceNeg, Nat.reducePow, List.cons.injEq, exists_eq_left', exists_eq_left, eq_self, if_false, if_true, ↓reduceIte, ite_not, forall_const, Option.join, Option.bind_some, id_eq])
    refine ⟨_, _, hg, lks, hN, asK.of ht ⟨dx, _, hg, ?_⟩⟩
    unfold due
    cases e : amg x 0 4799 with
    | false =>
      rw [if_neg (by decide), if_neg (by decide)]
      refine ⟨_, rfl, T.t_BadMonth_HouseError, fun e he => ?_⟩
      rw [if_neg (by decide)]
      exact ⟨noT_upd hN rfl, _, upd_same, .inl ⟨rfl, refu _ _ he⟩⟩
    | true =>
      rw [if_pos rfl, if_pos rfl]
      obtain ⟨i, rfl, i0, i1⟩ := amg_inv e
      have hn1 : upd H g (gateO a.c_Gate dx (.int i)) n = some (.lst (ms.map V.int)) := (upd_ne (Ne.symm gn)).trans G.ls
      cases el : ms.getLast? with
      | none =>
        dsimp only
        exact ⟨.inl ⟨_, .inl (.inl hn1)⟩, _, _, _, rfl, rfl, hn1, sm, done i e⟩
      | some l =>
        dsimp only
        split
        · exact ⟨.inl ⟨_, .inl (.inl hn1)⟩, _, _, _, rfl, rfl, hn1, sm, done i e⟩
        · refine ⟨_, rfl, T.t_NotNext_HouseError, fun e he => ?_⟩
          rw [if_neg (by decide)]
          exact ⟨noT_upd hN rfl, _, upd_same, .inr (.inl ⟨rfl, refu _ _ he⟩)⟩
  obtain ⟨u5, hu5, c5⟩ := c5
  have c3 : ∃ u, PSs (cxOf (XE P w) P w K mg base ["_law_gate", "_law_months", "_law_cell", "_law_more", "_law_month", "_law_due", "_law_e"] "_law_shut" (defScope s__law_shut) a.f__law_shut cdv A outer s H E) (List.drop 3 (defBody s__law_shut)) u ∧ ∀ x, flP x → u { nx := fun _ H' => Q .non H', rt := fun v H' => Q v H' } [some (.ref g), some (.ref n), some (.int c), some (.int m), some x, none, none] H := by
    refine ⟨_, (pss_cons (ps_set (i := 5) ND rfl (Or.inl rfl) (pe_strT []))
      (pss_cons (ps_if (L2.PW.pt (pw_or (pt_not (ft_val (pe_callX G__law_whole (hr.mono (by decide)) rfl T.m__law_whole T.F__law_whole.kp b__law_whole .nil PX (FA.pa (fa_cons (fv 4) fa_nil))))) (pw_or1 (pt_not (ft_chain fo_le fo_le pe_int (fv 4) pe_int))))) (pss_one (ps_set (i := 5) ND rfl (Or.inl rfl) (pe_strT [109, 111, 110, 116, 104]))) (pss_one (ps_if (pt_gc (L2.PW.pt (pw_and (ft_cmp (fo_neQ K HU) (fv 1) (pe_lst (FA.pa fa_nil)) (nomark _)) (pw_and1 (ft_cmp (fo_neQ K HU) (fv 4) (pe_op fo_add (pe_ix (fx_seqK K) (fv 1) (pe_un fu_neg pe_int) (fun _ _ => rfl)) pe_int) (nomark _)))))) (pss_one (ps_set (i := 5) ND rfl (Or.inl rfl) (pe_strT [110, 101, 120, 116]))) pss_nil)))
      hu5)), fun x fx => ?_⟩
    have k5 := c5 x fx
    obtain ⟨t, ht⟩ := flat_kind fx H
    ((try dsimp only [sp_is_whole, sp_start, sp_first_day, sp_last_day, sp5, sp_g_init, sp_g_closed, sp_g_lets, sp_g_need, sp_g_shut, sp_j_init, sp_j_put, sp_j_many, sp_j_booking, sp_j_every, sp_j_undone, sp_at, sp_lengths, sp_ends, sp_word]); try simp only [rdAll, rdI, V.int.injEq, V.ref.injEq, eqQ_int, eqQ_bl, eqQ_str, eqQ_ref, eqQ_nn, eqQ_ni, eqQ_in, eqQ_is, eqQ_si, L2.start, List.map_cons, List.map_nil, List.cons_append, List.nil_append, List.append_nil, List.length_cons, List.length_nil, List.replicate, List.getElem?_cons_zero, List.getElem?_cons_succ, List.set_cons_zero, List.set_cons_succ, Nat.reduceSub, Nat.reduceAdd, Int.reduceLT, Int.reduceLE, Int.reducePow, Int.reduceNeg, Nat.reducePow, List.cons.injEq, exists_eq_left', exists_eq_left, eq_self, if_false, if_true, ↓reduceIte, ite_not, forall_const, Option.join, Option.bind_some, id_eq])
    refine ⟨hN, asK.of ht ?_⟩
    have bad : amg x 0 4799 = false → u5 { nx := fun _ H' => Q .non H', rt := fun v H' => Q v H' } [some (.ref g), some (.ref n), some (.int c), some (.int m), some x, some (L2.T [109, 111, 110, 116, 104]), none] H := fun e => by
      have e2 : due ms x = wM := by unfold due; rw [e]; rfl
      rw [e2] at k5; exact k5
    cases ei : isI x with
    | false => exact ite00 (bad (amg_not ei))
    | true =>
      refine ite10 ?_
      cases x with
      | int i =>
        ((try dsimp only [sp_is_whole, sp_start, sp_first_day, sp_last_day, sp5, sp_g_init, sp_g_closed, sp_g_lets, sp_g_need, sp_g_shut, sp_j_init, sp_j_put, sp_j_many, sp_j_booking, sp_j_every, sp_j_undone, sp_at, sp_lengths, sp_ends, sp_word]); try simp only [rdAll, rdI, V.int.injEq, V.ref.injEq, eqQ_int, eqQ_bl, eqQ_str, eqQ_ref, eqQ_nn, eqQ_ni, eqQ_in, eqQ_is, eqQ_si, L2.start, List.map_cons, List.map_nil, List.cons_append, List.nil_append, List.append_nil, List.length_cons, List.length_nil, List.replicate, List.getElem?_cons_zero, List.getElem?_cons_succ, List.set_cons_zero, List.set_cons_succ, Nat.reduceSub, Nat.reduceAdd, Int.reduceLT, Int.reduceLE, Int.reducePow, Int.reduceNeg, Nat.reducePow, List.cons.injEq, exists_eq_left', exists_eq_left, eq_self, if_false, if_true, ↓reduceIte, ite_not, forall_const, Option.join, Option.bind_some, id_eq])
        split
        · rename_i h0
          split
          · rename_i h1
            have hi : amg (.int i) 0 4799 = true := by simp [amg, h0, h1]
            refine ⟨hN, Nat.zero_le _, fun p hp => ?_⟩
            refine ⟨_, eqR_nil (.inl (.inl ((upd_ne (ne_of_none G.ls hp)).trans G.ls))) (.inl (.inl upd_same)), ?_⟩
            rw [emp_last]
            cases el : ms.getLast? with
            | none =>
              have e2 : due ms (.int i) = [] := by unfold due; rw [hi, el]; rfl
              rw [e2] at k5
              exact ite10 ⟨H, Gc.none (same_upd _ hp), k5⟩
            | some l =>
              refine ite00 ⟨_, _, .inl (.inl (.inl ((upd_ne (ne_of_none G.ls hp)).trans G.ls))), at_last el, ?_⟩
              ((try dsimp only [sp_is_whole, sp_start, sp_first_day, sp_last_day, sp5, sp_g_init, sp_g_closed, sp_g_lets, sp_g_need, sp_g_shut, sp_j_init, sp_j_put, sp_j_many, sp_j_booking, sp_j_every, sp_j_undone, sp_at, sp_lengths, sp_ends, sp_word]); try simp only [rdAll, rdI, V.int.injEq, V.ref.injEq, eqQ_int, eqQ_bl, eqQ_str, eqQ_ref, eqQ_nn, eqQ_ni, eqQ_in, eqQ_is, eqQ_si, L2.start, List.map_cons, List.map_nil, List.cons_append, List.nil_append, List.append_nil, List.length_cons, List.length_nil, List.replicate, List.getElem?_cons_zero, List.getElem?_cons_succ, List.set_cons_zero, List.set_cons_succ, Nat.reduceSub, Nat.reduceAdd, Int.reduceLT, Int.reduceLE, Int.reducePow, Int.reduceNeg, Nat.reducePow, List.cons.injEq, exists_eq_left', exists_eq_left, eq_self, if_false, if_true, ↓reduceIte, ite_not, forall_const, Option.join, Option.bind_some, id_eq])
              refine ⟨H, Gc.none (same_upd _ hp), ?_⟩
              have e2 : due ms (.int i) = if i = l + 1 then [] else wN := by
                unfold due; rw [hi, el]
                by_cases z : i = l + 1
                · rw [if_pos rfl, if_pos z]; simp [z]
                · rw [if_pos rfl, if_neg z]; simp [z]
              rw [e2] at k5
              split
              · rename_i z; rw [if_pos z] at k5; exact k5
              · rename_i z; rw [if_neg z] at k5; exact k5
          · rename_i h1
            exact bad (by simp [amg, h1])
        · rename_i h0
          exact bad (by simp [amg, h0])
      | _ => cases ei
  obtain ⟨u3, hu3, c3⟩ := c3
  refine ⟨_, (pss_cons (ps_set (i := 4) ND rfl (Or.inl rfl) (fe_pickL (FA.pa (fa_cons (pe_op fo_mod (fv 3) pe_int) (fa_cons pe_int (fa_cons pe_int (fa_cons (pe_op fo_sub (pe_un fu_neg pe_int) (pe_op fo_mod (fv 3) (pe_op fo_pow pe_int pe_int))) fa_nil))))) (pe_op fo_mod (fv 2) pe_int) (fun _ _ => rfl)))
      (pss_cons (ps_if (pt_gc (ft_cmp (fo_neQ K HU) (fv 1) (pe_lst (FA.pa fa_nil)) (nomark _))) (pss_one (ps_set (i := 4) ND rfl (Or.inl rfl) (fe_pickL (FA.pa (fa_cons (pe_op fo_add (pe_ix (fx_seqK K) (fv 1) (pe_un fu_neg pe_int) (fun _ _ => rfl)) pe_int) (fa_cons (pe_op fo_add (pe_ix (fx_seqK K) (fv 1) (pe_un fu_neg pe_int) (fun _ _ => rfl)) pe_int) (fa_cons (pe_ix (fx_seqK K) (fv 1) (pe_un fu_neg pe_int) (fun _ _ => rfl)) (fa_cons (pe_op fo_add (pe_ix (fx_seqK K) (fv 1) (pe_un fu_neg pe_int) (fun _ _ => rfl)) pe_int) (fa_cons (pe_op fo_sub (pe_ix (fx_seqK K) (fv 1) (pe_un fu_neg pe_int) (fun _ _ => rfl)) pe_int) (fa_cons (pe_op fo_mod (fv 3) pe_int) fa_nil))))))) (pe_op fo_mod (fv 2) pe_int) (fun _ _ => rfl)))) pss_nil)
      (pss_cons (ps_if (ft_cmp (fo_eqQ K HU) (pe_op fo_mod (pe_op fo_fdiv (fv 2) pe_int) pe_int) pe_int (nomark _)) (pss_one (ps_set (i := 4) ND rfl (Or.inl rfl) (fe_pickL (FA.pa (fa_cons (pe_un fu_neg pe_int) (fa_cons pe_int (fa_cons pe_bl (fa_cons pe_non (fa_cons (pe_strT [55]) (fa_cons (pe_op fo_add pe_int (pe_op fo_mod (fv 3) (pe_op fo_pow pe_int pe_int))) fa_nil))))))) (pe_op fo_mod (fv 3) pe_int) (fun _ _ => rfl)))) pss_nil)
      hu3))), ?_⟩
  ((try dsimp only [sp_is_whole, sp_start, sp_first_day, sp_last_day, sp5, sp_g_init, sp_g_closed, sp_g_lets, sp_g_need, sp_g_shut, sp_j_init, sp_j_put, sp_j_many, sp_j_booking, sp_j_every, sp_j_undone, sp_at, sp_lengths, sp_ends, sp_word]); try simp only [rdAll, rdI, V.int.injEq, V.ref.injEq, eqQ_int, eqQ_bl, eqQ_str, eqQ_ref, eqQ_nn, eqQ_ni, eqQ_in, eqQ_is, eqQ_si, L2.start, List.map_cons, List.map_nil, List.cons_append, List.nil_append, List.append_nil, List.length_cons, List.length_nil, List.replicate, List.getElem?_cons_zero, List.getElem?_cons_succ, List.set_cons_zero, List.set_cons_succ, Nat.reduceSub, Nat.reduceAdd, Int.reduceLT, Int.reduceLE, Int.reducePow, Int.reduceNeg, Nat.reducePow, List.cons.injEq, exists_eq_left', exists_eq_left, eq_self, if_false, if_true, ↓reduceIte, ite_not, forall_const, Option.join, Option.bind_some, id_eq])
  have em : ∀ (z y : Int), 0 < y → 0 ≤ z % y ∧ z % y < y := fun z y h => ⟨Int.emod_nonneg _ (by omega), Int.emod_lt_of_pos _ h⟩
  have flI : ∀ x : Int, flP (.int x) := fun _ => trivial
  have ten : Int.natAbs 10 < 18446744073709551616 := by decide
  have tw : (0 : Int) < 10 ^ Int.toNat 12 := by decide
  refine ⟨hN, ten, tw, by rw [sizeLine_eq]; decide, fun p hp => pick_flat (em _ _ (by decide)).1 (em _ _ (by decide)).2 (by simp [flP]) fun x fx => ?_⟩
  refine ⟨hN, Nat.zero_le _, fun p hp => ⟨_, eqR_nil (.inl (.inl ((upd_ne (ne_of_none G.ls hp)).trans G.ls))) (.inl (.inl upd_same)), H, Gc.none (same_upd _ hp), ?_⟩⟩
  rw [emp_last]
  cases el : ms.getLast? with
  | none =>
    refine ite10 ?_
    split
    · exact ⟨hN, ten, tw, by rw [sizeLine_eq]; decide, fun p hp => pick_flat (em _ _ (by decide)).1 (em _ _ (by decide)).2 (by simp [flP]) fun x fx => c3 x fx⟩
    · exact c3 x fx
  | some l =>
    refine ite00 ⟨hN, _, _, .inl (.inl (.inl G.ls)), at_last el, ?_⟩
    ((try dsimp only [sp_is_whole, sp_start, sp_first_day, sp_last_day, sp5, sp_g_init, sp_g_closed, sp_g_lets, sp_g_need, sp_g_shut, sp_j_init, sp_j_put, sp_j_many, sp_j_booking, sp_j_every, sp_j_undone, sp_at, sp_lengths, sp_ends, sp_word]); try simp only [rdAll, rdI, V.int.injEq, V.ref.injEq, eqQ_int, eqQ_bl, eqQ_str, eqQ_ref, eqQ_nn, eqQ_ni, eqQ_in, eqQ_is, eqQ_si, L2.start, List.map_cons, List.map_nil, List.cons_append, List.nil_append, List.append_nil, List.length_cons, List.length_nil, List.replicate, List.getElem?_cons_zero, List.getElem?_cons_succ, List.set_cons_zero, List.set_cons_succ, Nat.reduceSub, Nat.reduceAdd, Int.reduceLT, Int.reduceLE, Int.reducePow, Int.reduceNeg, Nat.reducePow, List.cons.injEq, exists_eq_left', exists_eq_left, eq_self, if_false, if_true, ↓reduceIte, ite_not, forall_const, Option.join, Option.bind_some, id_eq])
    refine ⟨_, _, .inl (.inl (.inl G.ls)), at_last el, ?_⟩
    ((try dsimp only [sp_is_whole, sp_start, sp_first_day, sp_last_day, sp5, sp_g_init, sp_g_closed, sp_g_lets, sp_g_need, sp_g_shut, sp_j_init, sp_j_put, sp_j_many, sp_j_booking, sp_j_every, sp_j_undone, sp_at, sp_lengths, sp_ends, sp_word]); try simp only [rdAll, rdI, V.int.injEq, V.ref.injEq, eqQ_int, eqQ_bl, eqQ_str, eqQ_ref, eqQ_nn, eqQ_ni, eqQ_in, eqQ_is, eqQ_si, L2.start, List.map_cons, List.map_nil, List.cons_append, List.nil_append, List.append_nil, List.length_cons, List.length_nil, List.replicate, List.getElem?_cons_zero, List.getElem?_cons_succ, List.set_cons_zero, List.set_cons_succ, Nat.reduceSub, Nat.reduceAdd, Int.reduceLT, Int.reduceLE, Int.reducePow, Int.reduceNeg, Nat.reducePow, List.cons.injEq, exists_eq_left', exists_eq_left, eq_self, if_false, if_true, ↓reduceIte, ite_not, forall_const, Option.join, Option.bind_some, id_eq])
    refine ⟨_, _, .inl (.inl (.inl G.ls)), at_last el, _, _, .inl (.inl (.inl G.ls)), at_last el, ?_⟩
    ((try dsimp only [sp_is_whole, sp_start, sp_first_day, sp_last_day, sp5, sp_g_init, sp_g_closed, sp_g_lets, sp_g_need, sp_g_shut, sp_j_init, sp_j_put, sp_j_many, sp_j_booking, sp_j_every, sp_j_undone, sp_at, sp_lengths, sp_ends, sp_word]); try simp only [rdAll, rdI, V.int.injEq, V.ref.injEq, eqQ_int, eqQ_bl, eqQ_str, eqQ_ref, eqQ_nn, eqQ_ni, eqQ_in, eqQ_is, eqQ_si, L2.start, List.map_cons, List.map_nil, List.cons_append, List.nil_append, List.append_nil, List.length_cons, List.length_nil, List.replicate, List.getElem?_cons_zero, List.getElem?_cons_succ, List.set_cons_zero, List.set_cons_succ, Nat.reduceSub, Nat.reduceAdd, Int.reduceLT, Int.reduceLE, Int.reducePow, Int.reduceNeg, Nat.reducePow, List.cons.injEq, exists_eq_left', exists_eq_left, eq_self, if_false, if_true, ↓reduceIte, ite_not, forall_const, Option.join, Option.bind_some, id_eq])
    refine ⟨_, _, .inl (.inl (.inl G.ls)), at_last el, ?_⟩
    ((try dsimp only [sp_is_whole, sp_start, sp_first_day, sp_last_day, sp5, sp_g_init, sp_g_closed, sp_g_lets, sp_g_need, sp_g_shut, sp_j_init, sp_j_put, sp_j_many, sp_j_booking, sp_j_every, sp_j_undone, sp_at, sp_lengths, sp_ends, sp_word]); try simp only [rdAll, rdI, V.int.injEq, V.ref.injEq, eqQ_int, eqQ_bl, eqQ_str, eqQ_ref, eqQ_nn, eqQ_ni, eqQ_in, eqQ_is, eqQ_si, L2.start, List.map_cons, List.map_nil, List.cons_append, List.nil_append, List.append_nil, List.length_cons, List.length_nil, List.replicate, List.getElem?_cons_zero, List.getElem?_cons_succ, List.set_cons_zero, List.set_cons_succ, Nat.reduceSub, Nat.reduceAdd, Int.reduceLT, Int.reduceLE, Int.reducePow, Int.reduceNeg, Nat.reducePow, List.cons.injEq, exists_eq_left', exists_eq_left, eq_self, if_false, if_true, ↓reduceIte, ite_not, forall_const, Option.join, Option.bind_some, id_eq])
    refine ⟨by rw [sizeLine_eq]; decide, fun p hp => pick_flat (em _ _ (by decide)).1 (em _ _ (by decide)).2 (by simp [flP]) fun x fx => ?_⟩
    split
    · exact ⟨hN, ten, tw, by rw [sizeLine_eq]; decide, fun p hp => pick_flat (em _ _ (by decide)).1 (em _ _ (by decide)).2 (by simp [flP]) fun x fx => c3 x fx⟩
    · exact c3 x fx
def sp_no (C nb : Addr) : Sp := sp2 fun x y H Q _ => NoT H ∧ asR x fun p => asK H y fun _ => ∃ b u bs kvs, JAt C H p b u bs kvs ∧ bs.length ≤ 100 ∧ amg y 0 (bs.length - 1) = false ∧ Q (.bl true) H
theorem ok__law_no_booking (T : Txt K mg a) : FnOk P w K mg base (XE P w) 8 a.f__law_no_booking a.fd__law_no_booking ["_law_journal", "_law_number"] (sp_no a.c_Journal a.c_NoBooking) := by
  refine T.F__law_no_booking.okG sc__law_no_booking (fun vs H Q E h => sp2.len h) (fun cdv A outer s H vs Q E hr h => ?_)
  obtain ⟨x0, x1, rfl, h⟩ := sp2.inv h
  have ND := sc__law_no_booking.nd
  have PX : Passes' (XE P w) (cxOf (XE P w) P w K mg base ["_law_journal", "_law_number", "_law_refused", "_law_way", "_law_e"] "_law_no_booking" (defScope s__law_no_booking) a.f__law_no_booking cdv A outer s H (gcE H E)) (fun _ => (gcE H E)) := passB
  have RX : Raises (cxOf (XE P w) P w K mg base ["_law_journal", "_law_number", "_law_refused", "_law_way", "_law_e"] "_law_no_booking" (defScope s__law_no_booking) a.f__law_no_booking cdv A outer s H (gcE H E)) (fun _ => (gcE H E)) := raisesB
  have HU : (cxOf (XE P w) P w K mg base ["_law_journal", "_law_number", "_law_refused", "_law_way", "_law_e"] "_law_no_booking" (defScope s__law_no_booking) a.f__law_no_booking cdv A outer s H (gcE H E)).A.units + 100 < cLine := units100 hr
  have PW : PassesOwn (model P w) (cxOf (XE P w) P w K mg base ["_law_journal", "_law_number", "_law_refused", "_law_way", "_law_e"] "_law_no_booking" (defScope s__law_no_booking) a.f__law_no_booking cdv A outer s H (gcE H E)).A (cxOf (XE P w) P w K mg base ["_law_journal", "_law_number", "_law_refused", "_law_way", "_law_e"] "_law_no_booking" (defScope s__law_no_booking) a.f__law_no_booking cdv A outer s H (gcE H E)).env (cxOf (XE P w) P w K mg base ["_law_journal", "_law_number", "_law_refused", "_law_way", "_law_e"] "_law_no_booking" (defScope s__law_no_booking) a.f__law_no_booking cdv A outer s H (gcE H E)).xe := by passes_own
  obtain ⟨hN, h1⟩ := h
  obtain ⟨p, rfl, h2⟩ := asR.inv h1
  obtain ⟨t, ht, hb, b, u, bs, kvs, J, l1, hf, k⟩ := asK.inv h2
  obtain ⟨dx, hp⟩ := J.ob
  have lk1 : List.lookup (Str.ofString "booking") [(Str.ofString "bookings", V.ref b), (Str.ofString "undoings", V.ref u)] = none := by rw [lk_miss (by decide +kernel), lk_miss (by decide +kernel)]; rfl
  have lk2 : List.lookup (Str.ofString "undone_by") [(Str.ofString "bookings", V.ref b), (Str.ofString "undoings", V.ref u)] = none := by rw [lk_miss (by decide +kernel), lk_miss (by decide +kernel)]; rfl
  have G_Journal_booking := ok_Journal_booking (P := P) (w := w) (base := base) T
  have b_Journal_booking := bn_Journal_booking T.F_Journal_booking
  have G_Journal_undone_by := ok_Journal_undone_by (P := P) (w := w) (base := base) T
  have b_Journal_undone_by := bn_Journal_undone_by T.F_Journal_undone_by
  have G__law_word := ok__law_word (P := P) (w := w) (base := base) T
  have b__law_word := bn__law_word T.F__law_word
  refine ⟨hN, _, (pss_cons (ps_set (i := 2) ND rfl (Or.inl rfl) pe_int)
      (pss_cons (ps_for PW rfl (pi_range1 rfl T.z_range (FA.pa (fa_cons pe_int fa_nil))) (pg_name (i := 3) ND rfl (Or.inl rfl)) (pss_one (ps_try (i := 4) ND rfl rfl rfl T.m_HouseError rfl rfl rfl (fun pn Ee Ex PX => (pss_one (ps_if (ft_cmp (fo_eqQ K HU) (fv 3) pe_int (nomark _)) (pss_one (ps_expr (pe_methX (fv 0) T.cl_Journal T.mt_Journal_booking G_Journal_booking (hr.mono (by decide)) b_Journal_booking .nil PX (FA.pa (fa_cons (fv 1) fa_nil))))) (pss_one (ps_expr (pe_methX (fv 0) T.cl_Journal T.mt_Journal_undone_by G_Journal_undone_by (hr.mono (by decide)) b_Journal_undone_by .nil PX (FA.pa (fa_cons (fv 1) fa_nil)))))))) (fun e => (pss_one (ps_set (i := 2) ND rfl (Or.inl rfl) (pe_op fo_add (fv 2) (pe_callTy fc_int2 rfl T.z_int bb_int (FA.pa (fa_cons (pe_cmpR (fo_eqQ K HU) (pe_callC G__law_word (Room.toC hr (by decide)) rfl T.m__law_word T.F__law_word.kp b__law_word .nil passF (FA.pa (fa_cons (fv 4) fa_nil))) (pe_strT [98, 111, 111, 107, 105, 110, 103]) (nomark _)) fa_nil))))))))))
      (pss_one (ps_ret (pe_cmpR (fo_eqQ K HU) (fv 2) pe_int (nomark _)))))), ?_⟩
  ((try dsimp only [sp_is_whole, sp_start, sp_first_day, sp_last_day, sp5, sp_g_init, sp_g_closed, sp_g_lets, sp_g_need, sp_g_shut, sp_j_init, sp_j_put, sp_j_many, sp_j_booking, sp_j_every, sp_j_undone, sp_at, sp_lengths, sp_ends, sp_word, sp_shut]); try simp only [rdAll, rdI, V.int.injEq, V.ref.injEq, eqQ_int, eqQ_bl, eqQ_str, eqQ_ref, eqQ_nn, eqQ_ni, eqQ_in, eqQ_is, eqQ_si, L2.start, List.map_cons, List.map_nil, List.cons_append, List.nil_append, List.append_nil, List.length_cons, List.length_nil, List.replicate, List.getElem?_cons_zero, List.getElem?_cons_succ, List.set_cons_zero, List.set_cons_succ, Nat.reduceSub, Nat.reduceAdd, Int.reduceLT, Int.reduceLE, Int.reducePow, Int.reduceNeg, Nat.reducePow, List.cons.injEq, exists_eq_left', exists_eq_left, eq_self, if_false, if_true, ↓reduceIte, ite_not, forall_const, Option.join, Option.bind_some, id_eq])
  refine ⟨_, rfl, by decide, by decide, for_range (fun i σ H1 => Same H H1 ∧ NoT H1 ∧ ∃ z, σ = [some (.ref p), some x1, some (.int i), z, none]) ⟨Same.refl _, hN, none, rfl⟩ ?_ ?_⟩
  · rintro i σ H1 hi ⟨sm, nT, z, rfl⟩
    have J1 : JAt a.c_Journal H1 p b u bs kvs := J.keep (S := []) (Keep.same sm) List.not_mem_nil List.not_mem_nil List.not_mem_nil
    ((try dsimp only [sp_is_whole, sp_start, sp_first_day, sp_last_day, sp5, sp_g_init, sp_g_closed, sp_g_lets, sp_g_need, sp_g_shut, sp_j_init, sp_j_put, sp_j_many, sp_j_booking, sp_j_every, sp_j_undone, sp_at, sp_lengths, sp_ends, sp_word, sp_shut]); try simp only [rdAll, rdI, V.int.injEq, V.ref.injEq, eqQ_int, eqQ_bl, eqQ_str, eqQ_ref, eqQ_nn, eqQ_ni, eqQ_in, eqQ_is, eqQ_si, L2.start, List.map_cons, List.map_nil, List.cons_append, List.nil_append, List.append_nil, List.length_cons, List.length_nil, List.replicate, List.getElem?_cons_zero, List.getElem?_cons_succ, List.set_cons_zero, List.set_cons_succ, Nat.reduceSub, Nat.reduceAdd, Int.reduceLT, Int.reduceLE, Int.reducePow, Int.reduceNeg, Nat.reducePow, List.cons.injEq, exists_eq_left', exists_eq_left, eq_self, if_false, if_true, ↓reduceIte, ite_not, forall_const, Option.join, Option.bind_some, id_eq])
    obtain ⟨dx, hp1⟩ := J1.ob
    have fin : ∀ e, H1 e = none → Same H (upd H1 e (ExcIs (Value.ref a.c_NoBooking) e)) ∧ NoT (upd H1 e (ExcIs (Value.ref a.c_NoBooking) e)) ∧ ∃ z, some (V.int (i + if wB = [98, 111, 111, 107, 105, 110, 103] then 1 else 0)) = some (V.int ((i + 1 : Nat) : Int)) ∧ some (V.int (0 + i)) = z := fun e he =>
      ⟨sm.trans (same_upd _ he), noT_upd nT rfl, _, by rw [if_pos (by decide)]; rfl, rfl⟩
    split
    · refine ⟨_, _, hp1, lk1, nT, asK.of (kind_same sm ht) ⟨b, u, bs, kvs, J1, l1, ?_⟩⟩
      rw [hf, if_neg (by decide)]
      exact ⟨_, rfl, T.t_NoBooking_HouseError, fun e he => ⟨noT_upd nT rfl, _, upd_same, .inr (.inr ⟨rfl, fin e he⟩)⟩⟩
    · refine ⟨_, _, hp1, lk2, nT, asK.of (kind_same sm ht) ⟨b, u, bs, kvs, J1, l1, ?_⟩⟩
      rw [hf, if_neg (by decide)]
      exact ⟨_, rfl, T.t_NoBooking_HouseError, fun e he => ⟨noT_upd nT rfl, _, upd_same, .inr (.inr ⟨rfl, fin e he⟩)⟩⟩
  · rintro σ H1 ⟨sm, nT, z, rfl⟩
    ((try dsimp only [sp_is_whole, sp_start, sp_first_day, sp_last_day, sp5, sp_g_init, sp_g_closed, sp_g_lets, sp_g_need, sp_g_shut, sp_j_init, sp_j_put, sp_j_many, sp_j_booking, sp_j_every, sp_j_undone, sp_at, sp_lengths, sp_ends, sp_word, sp_shut]); try simp only [rdAll, rdI, V.int.injEq, V.ref.injEq, eqQ_int, eqQ_bl, eqQ_str, eqQ_ref, eqQ_nn, eqQ_ni, eqQ_in, eqQ_is, eqQ_si, L2.start, List.map_cons, List.map_nil, List.cons_append, List.nil_append, List.append_nil, List.length_cons, List.length_nil, List.replicate, List.getElem?_cons_zero, List.getElem?_cons_succ, List.set_cons_zero, List.set_cons_succ, Nat.reduceSub, Nat.reduceAdd, Int.reduceLT, Int.reduceLE, Int.reducePow, Int.reduceNeg, Nat.reducePow, List.cons.injEq, exists_eq_left', exists_eq_left, eq_self, if_false, if_true, ↓reduceIte, ite_not, forall_const, Option.join, Option.bind_some, id_eq])
    exact ⟨H, Gc.none sm, k⟩
end
end K13
set_option Elab.async false
set_option linter.all false
set_option maxRecDepth 100000
set_option maxHeartbeats 400000
namespace K13
open PySem L2
seal L2.PE L2.PT L2.PW L2.PA L2.PS L2.PSs L2.PI L2.PG L2.PGs L2.PO
section
variable {pS : Addr} {ns : List Int} {P : Program} {w : World} {K : PySem.W.Frag} {mg : Str → Option Value} {base : Heap} {a : Adr}
open K3
noncomputable def lt (ms : List Int) (d : Int) : Bool := match ms.getLast? with | none => true | some m => decide (m < MO d)
structure DOk (H : Hp) (D : Addr) (ms : List Int) (ps : List (Addr × Int)) : Prop where
  ls : H D = some (.lst (ps.map fun p => V.ref p.1))
  it : ∀ p ∈ ps, H p.1 = some (.tup [.int p.2, .bl (lt ms p.2)]) ∧ 0 ≤ p.2 ∧ p.2 ≤ 146096
  sm : ps.length ≤ 10
def prj (H : Hp) (j : Nat) : V → V
  | .ref p => match H p with
    | some (.tup l) => l.getD j .non
    | _ => .non
  | _ => .non
theorem pick_refs {xs : List V} {H H1 : Hp} {Q : VK} {i : Int} (R : HO → Prop) (h0 : 0 ≤ i) (h1 : i < xs.length) (h : ∀ v ∈ xs, ∃ p o, v = .ref p ∧ H p = none ∧ H1 p = some o ∧ plainO o = true ∧ R o) (k : ∀ q o, H q = none → plainO o = true → R o → Q (.ref q) (upd H q o)) : kPick xs H H1 Q (.int i) := by
  obtain ⟨v, hv, e⟩ := atI_pos h0 h1
  obtain ⟨p, o, rfl, hp, ho, pl, r⟩ := h v hv
  exact pick_ref e hp ho pl (k p o hp pl r)
def waysO (n : Int) (o : HO) : Prop := ∃ xs : List Int, o = .tup (xs.map V.int) ∧ xs.length ≤ 10 ∧ ∀ x ∈ xs, 0 ≤ x ∧ x < n
theorem ways_of {n : Int} (xs : List Int) (h : xs.length ≤ 10) (h2 : ∀ x ∈ xs, 0 ≤ x ∧ x < n) : waysO n (.tup (xs.map V.int)) := ⟨xs, rfl, h, h2⟩
theorem alloc {H : Hp} {p : Addr} {o : HO} (hp : H p = none) (nT : NoT H) (d : dTfree o = true) : ∃ H', upd H p o = H' ∧ Same H H' ∧ H' p = some o ∧ NoT H' := ⟨_, rfl, same_upd _ hp, upd_same, noT_upd nT d⟩
theorem lt_some {ms : List Int} {l d : Int} (el : ms.getLast? = some l) (d0 : 0 ≤ d) (d1 : d ≤ 146096) : lt ms d = decide (FD (l + 1) ≤ d) := by
  unfold lt
  rw [el]
  obtain ⟨_, _, h1, h2⟩ := MO_in d0 d1
  by_cases h : l < MO d
  · have := FD_mono (m := l + 1) (n := MO d) (by omega)
    simp only [h, decide_true]
    exact (decide_eq_true (by omega)).symm
  · have := FD_mono (m := MO d + 1) (n := l + 1) (by omega)
    simp only [h, decide_false]
    exact (decide_eq_false (by omega)).symm
def sp_gr (C : Addr) : Sp := sp3 fun x y z H Q _ => NoT H ∧ asR x fun g => asR y fun n => asI z fun _ => ∃ ms, GAt C H g n ms ∧ ms.length ≤ 100 ∧ Q (.bl true) H
theorem ok__law_gate_right (T : Txt K mg a) : FnOk P w K mg base (XE P w) 8 a.f__law_gate_right a.fd__law_gate_right ["_law_gate", "_law_months", "_law_cell"] (sp_gr a.c_Gate) := by
  refine T.F__law_gate_right.okG sc__law_gate_right (fun vs H Q E h => sp3.len h) (fun cdv A outer s H vs Q E hr h => ?_)
  obtain ⟨x0, x1, x2, rfl, h⟩ := sp3.inv h
  have ND := sc__law_gate_right.nd
  have PX : Passes' (XE P w) (cxOf (XE P w) P w K mg base ["_law_gate", "_law_months", "_law_cell", "_law_days", "_law_first", "_law_last", "_law_way", "_law_told"] "_law_gate_right" (defScope s__law_gate_right) a.f__law_gate_right cdv A outer s H (gcE H E)) (fun _ => (gcE H E)) := passB
  have RX : Raises (cxOf (XE P w) P w K mg base ["_law_gate", "_law_months", "_law_cell", "_law_days", "_law_first", "_law_last", "_law_way", "_law_told"] "_law_gate_right" (defScope s__law_gate_right) a.f__law_gate_right cdv A outer s H (gcE H E)) (fun _ => (gcE H E)) := raisesB
  have HU : (cxOf (XE P w) P w K mg base ["_law_gate", "_law_months", "_law_cell", "_law_days", "_law_first", "_law_last", "_law_way", "_law_told"] "_law_gate_right" (defScope s__law_gate_right) a.f__law_gate_right cdv A outer s H (gcE H E)).A.units + 100 < cLine := units100 hr
  have PW : PassesOwn (model P w) (cxOf (XE P w) P w K mg base ["_law_gate", "_law_months", "_law_cell", "_law_days", "_law_first", "_law_last", "_law_way", "_law_told"] "_law_gate_right" (defScope s__law_gate_right) a.f__law_gate_right cdv A outer s H (gcE H E)).A (cxOf (XE P w) P w K mg base ["_law_gate", "_law_months", "_law_cell", "_law_days", "_law_first", "_law_last", "_law_way", "_law_told"] "_law_gate_right" (defScope s__law_gate_right) a.f__law_gate_right cdv A outer s H (gcE H E)).env (cxOf (XE P w) P w K mg base ["_law_gate", "_law_months", "_law_cell", "_law_days", "_law_first", "_law_last", "_law_way", "_law_told"] "_law_gate_right" (defScope s__law_gate_right) a.f__law_gate_right cdv A outer s H (gcE H E)).xe := by passes_own
  obtain ⟨hN, h1⟩ := h
  obtain ⟨g, rfl, h2⟩ := asR.inv h1
  obtain ⟨n, rfl, h3⟩ := asR.inv h2
  obtain ⟨c, rfl, ms, G, l1, k⟩ := asI.inv h3
  have G_Gate_lets := ok_Gate_lets (P := P) (w := w) (base := base) T
  have b_Gate_lets := bn_Gate_lets T.F_Gate_lets
  have G__law_whole := ok__law_whole (P := P) (w := w) (base := base) T
  have b__law_whole := bn__law_whole T.F__law_whole
  have G_Gate_closed := ok_Gate_closed (P := P) (w := w) (base := base) T
  have b_Gate_closed := bn_Gate_closed T.F_Gate_closed
  have G__law_month_ends := ok__law_month_ends (P := P) (w := w) (base := base) T
  have b__law_month_ends := bn__law_month_ends T.F__law_month_ends
  have c2 : ∃ u, PSs (cxOf (XE P w) P w K mg base ["_law_gate", "_law_months", "_law_cell", "_law_days", "_law_first", "_law_last", "_law_way", "_law_told"] "_law_gate_right" (defScope s__law_gate_right) a.f__law_gate_right cdv A outer s H (gcE H E)) (List.drop 2 (defBody s__law_gate_right)) u ∧ ∀ D ps x4 x5 H1, Same H H1 → NoT H1 → DOk H1 D ms ps → u { nx := fun _ H' => ∃ G, Gc H G H' ∧ Q .non G, rt := fun v H' => ∃ G, Gc H G H' ∧ Q v G } [some (.ref g), some (.ref n), some (.int c), some (.ref D), x4, x5, none, none] H1 := by
    refine ⟨_, (pss_cons (ps_for PW rfl (fi_tupK K (fe_pickL (FA.pa (fa_cons (pe_tup (FA.pa (fa_cons pe_int (fa_cons pe_int fa_nil)))) (fa_cons (pe_tup (FA.pa (fa_cons pe_int (fa_cons pe_int fa_nil)))) fa_nil))) (pe_op fo_mod (pe_op fo_fdiv (fv 2) pe_int) pe_int) (fun _ _ => rfl))) (pg_name (i := 6) ND rfl (Or.inl rfl)) (pss_cons (ps_if (pt_gc (L2.PW.pt (pw_and (ft_cmp (fo_eqQ K HU) (fv 6) pe_int (nomark _)) (pw_and (ft_cmp (fo_eqQ K HU) (fv 1) (pe_lst (FA.pa fa_nil)) (nomark _)) (pw_and1 (ft_is (pc_notN (pe_methX0 (fv 0) T.cl_Gate T.mt_Gate_closed G_Gate_closed (hr.mono (by decide)) b_Gate_closed .nil PX)))))))) (pss_one (ps_ret pe_bl)) pss_nil)
      (pss_cons (ps_if (pt_gc (L2.PW.pt (pw_and (ft_cmp (fo_eqQ K HU) (fv 6) pe_int (nomark _)) (pw_and (ft_cmp (fo_neQ K HU) (fv 1) (pe_lst (FA.pa fa_nil)) (nomark _)) (pw_and1 (L2.PW.pt (pw_or (pt_not (ft_val (pe_callX G__law_whole (hr.mono (by decide)) rfl T.m__law_whole T.F__law_whole.kp b__law_whole .nil PX (FA.pa (fa_cons (pe_methX0 (fv 0) T.cl_Gate T.mt_Gate_closed G_Gate_closed (hr.mono (by decide)) b_Gate_closed .nil PX) fa_nil))))) (pw_or1 (ft_cmp (fo_neQ K HU) (pe_methX0 (fv 0) T.cl_Gate T.mt_Gate_closed G_Gate_closed (hr.mono (by decide)) b_Gate_closed .nil PX) (pe_ix (fx_seqK K) (fv 1) (pe_un fu_neg pe_int) (fun _ _ => rfl)) (nomark _)))))))))) (pss_one (ps_ret pe_bl)) pss_nil)
      (pss_one (ps_if (ft_cmp (fo_eqQ K HU) (fv 6) pe_int (nomark _)) (pss_cons (ps_setC (i0 := 7) ND rfl (Or.inl rfl) rfl (cl := _) (fr := ["_law_gate"]) (ks := [0]) (by exact ⟨rfl, by decide +kernel, rfl, by decide +kernel, rfl, keys_of rfl, rfl, kinds_of rfl, kinds_of (k := fun y => List.lookup y _) rfl, only_of rfl⟩) rfl (by decide) (fi_listK K (fv 3)) (fun _ _ _ _ _ => pts_nil) (fun _ _ _ _ _ => (pe_methX (fv 1) T.cl_Gate T.mt_Gate_lets G_Gate_lets (hr.mono (by decide)) b_Gate_lets .nil passF (FA.pa (fa_cons (pe_ix (fx_seqK K) (fv 0) pe_int (fun _ _ => rfl)) fa_nil)))))
      (pss_one (ps_if (pt_gc (L2.PW.pt (pw_or (ft_cmp (fo_neQ K HU) (fv 7) (pe_comp rfl (cl := _) (fr := []) (ks := []) (by exact ⟨rfl, by decide +kernel, rfl, by decide +kernel, rfl, keys_of rfl, rfl, kinds_of rfl, kinds_of (k := fun y => List.lookup y _) rfl, only_of rfl⟩) rfl (by decide) (fi_listK K (fv 3)) (fun _ _ _ _ _ => pts_nil) (fun _ _ _ _ _ => (pe_ix (fx_seqK K) (fv 0) pe_int (fun _ _ => rfl)))) (nomark _)) (pw_or1 (pt_not (ft_val (pe_callB (fc_allK K rfl) rfl T.z_all bb_all (FA.pa (fa_cons (pe_comp rfl (cl := _) (fr := []) (ks := []) (by exact ⟨rfl, by decide +kernel, rfl, by decide +kernel, rfl, keys_of rfl, rfl, kinds_of rfl, kinds_of (k := fun y => List.lookup y _) rfl, only_of rfl⟩) rfl (by decide) (fi_listK K (fv 7)) (fun _ _ _ _ _ => pts_nil) (fun _ _ _ _ _ => (pe_callB (fc_isiK K) rfl T.z_isinstance bb_isinstance (FA.pa (fa_cons (fv 0) (fa_cons (pe_bltn (v := .ty "bool") rfl T.z_bool bb_bool rfl) fa_nil)))))) fa_nil))))))))) (pss_one (ps_ret pe_bl)) pss_nil))) pss_nil)))))
      (pss_one (ps_ret pe_bl))), fun D ps x4 x5 H1 sm nT hD => ?_⟩
    ((try dsimp only [sp_is_whole, sp_start, sp_first_day, sp_last_day, sp5, sp_g_init, sp_g_closed, sp_g_lets, sp_g_need, sp_g_shut, sp_j_init, sp_j_put, sp_j_many, sp_j_booking, sp_j_every, sp_j_undone, sp_at, sp_lengths, sp_ends, sp_word, sp_shut, sp_no]); try simp only [rdAll, rdI, V.int.injEq, V.ref.injEq, eqQ_int, eqQ_bl, eqQ_str, eqQ_ref, eqQ_nn, eqQ_ni, eqQ_in, eqQ_is, eqQ_si, L2.start, List.map_cons, List.map_nil, List.cons_append, List.nil_append, List.append_nil, List.length_cons, List.length_nil, List.replicate, List.getElem?_cons_zero, List.getElem?_cons_succ, List.set_cons_zero, List.set_cons_succ, Nat.reduceSub, Nat.reduceAdd, Int.reduceLT, Int.reduceLE, Int.reducePow, Int.reduceNeg, Nat.reducePow, List.cons.injEq, exists_eq_left', exists_eq_left, eq_self, if_false, if_true, ↓reduceIte, ite_not, forall_const, Option.join, Option.bind_some, id_eq])
    refine for_tupB ?_
    ((try dsimp only [sp_is_whole, sp_start, sp_first_day, sp_last_day, sp5, sp_g_init, sp_g_closed, sp_g_lets, sp_g_need, sp_g_shut, sp_j_init, sp_j_put, sp_j_many, sp_j_booking, sp_j_every, sp_j_undone, sp_at, sp_lengths, sp_ends, sp_word, sp_shut, sp_no]); try simp only [rdAll, rdI, V.int.injEq, V.ref.injEq, eqQ_int, eqQ_bl, eqQ_str, eqQ_ref, eqQ_nn, eqQ_ni, eqQ_in, eqQ_is, eqQ_si, L2.start, List.map_cons, List.map_nil, List.cons_append, List.nil_append, List.append_nil, List.length_cons, List.length_nil, List.replicate, List.getElem?_cons_zero, List.getElem?_cons_succ, List.set_cons_zero, List.set_cons_succ, Nat.reduceSub, Nat.reduceAdd, Int.reduceLT, Int.reduceLE, Int.reducePow, Int.reduceNeg, Nat.reducePow, List.cons.injEq, exists_eq_left', exists_eq_left, eq_self, if_false, if_true, ↓reduceIte, ite_not, forall_const, Option.join, Option.bind_some, id_eq])
    have two : 2 ≤ sizeLine := by rw [sizeLine_eq]; decide
    refine ⟨nT, two, fun p hp => ⟨two, fun p1 hp1 => ⟨(same_upd _ hp).trans (same_upd _ hp1), two, fun p2 hp2 => ?_⟩⟩⟩
    have ne1 : p ≠ p1 := fun z => by rw [← z, upd_same] at hp1; cases hp1
    refine pick_refs (waysO 2) (Int.emod_nonneg _ (by decide)) (Int.emod_lt_of_pos _ (by decide)) (fun v hv => ?_) fun q o hq po hw => ?_
    · simp at hv
      rcases hv with rfl | rfl
      · exact ⟨_, _, rfl, hp, (upd_ne ne1).trans upd_same, rfl, ways_of [0, 1] (by decide) (by decide)⟩
      · exact ⟨_, _, rfl, (by rw [upd_ne (Ne.symm ne1)] at hp1; exact hp1), upd_same, rfl, ways_of [1, 0] (by decide) (by decide)⟩
    obtain ⟨xs, rfl, lx, hx⟩ := hw
    have m2 := same_upd (HO.tup (xs.map V.int)) hq
    refine for_tupC (SqT.of upd_same) (for_tup (xs := xs.map V.int) (fun i σ H' => Same (upd H1 q (.tup (xs.map V.int))) H' ∧ NoT H' ∧ ∃ y6 y7, σ = [some (.ref g), some (.ref n), some (.int c), some (.ref D), x4, x5, y6, y7]) ⟨Same.refl _, noT_upd nT rfl, none, none, rfl⟩ (fun i σ H' _ ⟨s, _⟩ => SqT.of (s _ _ upd_same)) ?_ ?_)
    · rintro i x σ H' hx' ⟨s4, nT', y6, y7, rfl⟩
      obtain ⟨x, hxm, rfl⟩ := List.mem_map.mp (List.mem_of_getElem? hx')
      have sH := (sm.trans m2).trans s4
      have G1 : GAt a.c_Gate H' g n ms := G.keep (S := []) (Keep.same sH) List.not_mem_nil List.not_mem_nil
      obtain ⟨dx, hg⟩ := G1.ob
      have hb := hx x hxm
      have lkc : ∀ v, List.lookup (Str.ofString "closed") [(Str.ofString "last_closed", v)] = none := fun v => by rw [lk_miss (by decide +kernel)]; rfl
      have lkl : ∀ v, List.lookup (Str.ofString "lets") [(Str.ofString "last_closed", v)] = none := fun v => by rw [lk_miss (by decide +kernel)]; rfl
      have gg : ∀ p o, H' p = none → upd H' p o g = some (gateO a.c_Gate dx (cl ms.getLast?)) := fun p o hp => (upd_ne (ne_of_none hg hp)).trans hg
      have ee : ∀ p, H' p = none → EqR K (upd H' p (HO.lst [])) n p ms.getLast?.isNone := fun p hp => by
        rw [← emp_last]; exact eqR_nil (.inl (.inl ((upd_ne (ne_of_none G1.ls hp)).trans G1.ls))) (.inl (.inl upd_same))
      rcases (show x = 0 ∨ x = 1 by omega) with rfl | rfl
      · ((try dsimp only [sp_is_whole, sp_start, sp_first_day, sp_last_day, sp5, sp_g_init, sp_g_closed, sp_g_lets, sp_g_need, sp_g_shut, sp_j_init, sp_j_put, sp_j_many, sp_j_booking, sp_j_every, sp_j_undone, sp_at, sp_lengths, sp_ends, sp_word, sp_shut, sp_no]); try simp only [rdAll, rdI, V.int.injEq, V.ref.injEq, eqQ_int, eqQ_bl, eqQ_str, eqQ_ref, eqQ_nn, eqQ_ni, eqQ_in, eqQ_is, eqQ_si, L2.start, List.map_cons, List.map_nil, List.cons_append, List.nil_append, List.append_nil, List.length_cons, List.length_nil, List.replicate, List.getElem?_cons_zero, List.getElem?_cons_succ, List.set_cons_zero, List.set_cons_succ, Nat.reduceSub, Nat.reduceAdd, Int.reduceLT, Int.reduceLE, Int.reducePow, Int.reduceNeg, Nat.reducePow, List.cons.injEq, exists_eq_left', exists_eq_left, eq_self, if_false, if_true, ↓reduceIte, ite_not, forall_const, Option.join, Option.bind_some, id_eq])
        refine ⟨nT', Nat.zero_le _, fun p hp => ⟨_, ee p hp, ?_⟩⟩
        cases el : ms.getLast? with
        | none =>
          rw [el] at ee gg
          refine iteT ⟨_, _, gg _ _ hp, lkc _, noT_upd nT' rfl, _, _, gg _ _ hp, H', Gc.none (same_upd _ hp), ?_⟩
          show if V.non = V.non then _ else _
          rw [if_pos rfl]
          refine ⟨nT', Nat.zero_le _, fun p hp => ⟨_, ee p hp, ite10 ⟨H', Gc.none (same_upd _ hp), ?_⟩⟩⟩
          rw [if_neg (by decide)]
          exact ⟨s4, nT', _, _, rfl, rfl⟩
        | some l =>
          rw [el] at ee gg
          refine iteF ⟨H', Gc.none (same_upd _ hp), nT', Nat.zero_le _, fun p hp => ⟨_, ee p hp, ite00 ⟨_, _, gg _ _ hp, lkc _, noT_upd nT' rfl, _, _, gg _ _ hp, noT_upd nT' rfl, ?_⟩⟩⟩
          show asK _ (.int l) _
          refine asK.of rfl (ite10 ?_)
          refine ⟨_, _, gg _ _ hp, lkc _, noT_upd nT' rfl, _, _, gg _ _ hp, _, _, .inl (.inl (.inl ((upd_ne (ne_of_none G1.ls hp)).trans G1.ls))), at_last el, ?_⟩
          show gEqQ K true (.int l) (.int l) _ _
          ((try dsimp only [sp_is_whole, sp_start, sp_first_day, sp_last_day, sp5, sp_g_init, sp_g_closed, sp_g_lets, sp_g_need, sp_g_shut, sp_j_init, sp_j_put, sp_j_many, sp_j_booking, sp_j_every, sp_j_undone, sp_at, sp_lengths, sp_ends, sp_word, sp_shut, sp_no]); try simp only [rdAll, rdI, V.int.injEq, V.ref.injEq, eqQ_int, eqQ_bl, eqQ_str, eqQ_ref, eqQ_nn, eqQ_ni, eqQ_in, eqQ_is, eqQ_si, L2.start, List.map_cons, List.map_nil, List.cons_append, List.nil_append, List.append_nil, List.length_cons, List.length_nil, List.replicate, List.getElem?_cons_zero, List.getElem?_cons_succ, List.set_cons_zero, List.set_cons_succ, Nat.reduceSub, Nat.reduceAdd, Int.reduceLT, Int.reduceLE, Int.reducePow, Int.reduceNeg, Nat.reducePow, List.cons.injEq, exists_eq_left', exists_eq_left, eq_self, if_false, if_true, ↓reduceIte, ite_not, forall_const, Option.join, Option.bind_some, id_eq])
          refine ⟨H', Gc.none (same_upd _ hp), ?_⟩
          rw [if_neg (by decide)]
          exact ⟨s4, nT', _, _, rfl, rfl⟩
      · ((try dsimp only [sp_is_whole, sp_start, sp_first_day, sp_last_day, sp5, sp_g_init, sp_g_closed, sp_g_lets, sp_g_need, sp_g_shut, sp_j_init, sp_j_put, sp_j_many, sp_j_booking, sp_j_every, sp_j_undone, sp_at, sp_lengths, sp_ends, sp_word, sp_shut, sp_no]); try simp only [rdAll, rdI, V.int.injEq, V.ref.injEq, eqQ_int, eqQ_bl, eqQ_str, eqQ_ref, eqQ_nn, eqQ_ni, eqQ_in, eqQ_is, eqQ_si, L2.start, List.map_cons, List.map_nil, List.cons_append, List.nil_append, List.append_nil, List.length_cons, List.length_nil, List.replicate, List.getElem?_cons_zero, List.getElem?_cons_succ, List.set_cons_zero, List.set_cons_succ, Nat.reduceSub, Nat.reduceAdd, Int.reduceLT, Int.reduceLE, Int.reducePow, Int.reduceNeg, Nat.reducePow, List.cons.injEq, exists_eq_left', exists_eq_left, eq_self, if_false, if_true, ↓reduceIte, ite_not, forall_const, Option.join, Option.bind_some, id_eq])
        refine ⟨nT', ?_⟩
        rw [if_neg (by decide)]
        refine ⟨nT', ?_⟩
        rw [if_neg (by decide)]
        have s1 : Same H1 H' := m2.trans s4
        have hL : ∀ H2, Same H' H2 → SqL K H2 D (ps.map fun p => V.ref p.1) := fun H2 s => .inl (.inl (s _ _ (s1 _ _ hD.ls)))
        have hz : (ps.map fun p => V.ref p.1).length ≤ sizeLine := by rw [List.length_map, sizeLine_eq]; have := hD.sm; omega
        have hit : ∀ x ∈ (ps.map fun p => V.ref p.1), ∃ p ∈ ps, x = .ref p.1 ∧ prj H1 0 x = .int p.2 ∧ prj H1 1 x = .bl (lt ms p.2) := fun x hx => by
          obtain ⟨p, hp, rfl⟩ := List.mem_map.mp hx
          have h := (hD.it p hp).1
          exact ⟨p, hp, rfl, by simp [prj, h], by simp [prj, h]⟩
        have e1 : ((ps.map fun p => V.ref p.1).filter fun _ => true).map (fun x => V.bl (lt ms (match prj H1 0 x with | .int d => d | _ => 0))) = ps.map fun p => V.bl (lt ms p.2) := by
          rw [List.filter_eq_self.2 (fun _ _ => rfl), List.map_map]
          refine List.map_congr_left fun p hp => ?_
          obtain ⟨_, h⟩ : ∃ u : Unit, prj H1 0 (V.ref p.1) = .int p.2 := ⟨(), by simp [prj, (hD.it p hp).1]⟩
          simp only [Function.comp, h]
        have e2 : ((ps.map fun p => V.ref p.1).filter fun _ => true).map (fun x => prj H1 1 x) = ps.map fun p => V.bl (lt ms p.2) := by
          rw [List.filter_eq_self.2 (fun _ _ => rfl), List.map_map]
          refine List.map_congr_left fun p hp => ?_
          simp [prj, (hD.it p hp).1]
        refine comp_lst D _ (fun H2 => Same H' H2 ∧ NoT H2) (fun D' ys hD' => ⟨same_upd _ hD', noT_upd nT' rfl⟩) (fun H2 c => hL H2 c.1) (fun _ => true) (fun x => .bl (lt ms (match prj H1 0 x with | .int d => d | _ => 0))) (fun R r => r) (hL _ (Same.refl _)) hz (fun x _ H2 R _ r => r) (fun x hx _ H2 R c r => ?_) (fun D1 hD1 => ?_)
        · obtain ⟨p, hp, rfl, h0, h1⟩ := hit x hx
          obtain ⟨hi, d0, d1⟩ := hD.it p hp
          rw [h0] at r
          ((try dsimp only [sp_is_whole, sp_start, sp_first_day, sp_last_day, sp5, sp_g_init, sp_g_closed, sp_g_lets, sp_g_need, sp_g_shut, sp_j_init, sp_j_put, sp_j_many, sp_j_booking, sp_j_every, sp_j_undone, sp_at, sp_lengths, sp_ends, sp_word, sp_shut, sp_no]); try simp only [rdAll, rdI, V.int.injEq, V.ref.injEq, eqQ_int, eqQ_bl, eqQ_str, eqQ_ref, eqQ_nn, eqQ_ni, eqQ_in, eqQ_is, eqQ_si, L2.start, List.map_cons, List.map_nil, List.cons_append, List.nil_append, List.append_nil, List.length_cons, List.length_nil, List.replicate, List.getElem?_cons_zero, List.getElem?_cons_succ, List.set_cons_zero, List.set_cons_succ, Nat.reduceSub, Nat.reduceAdd, Int.reduceLT, Int.reduceLE, Int.reducePow, Int.reduceNeg, Nat.reducePow, List.cons.injEq, exists_eq_left', exists_eq_left, eq_self, if_false, if_true, ↓reduceIte, ite_not, forall_const, Option.join, Option.bind_some, id_eq])
          refine ⟨_, _, c.1 _ _ hg, lkl _, _, _, .inr (.inl (.inl (c.1 _ _ (s1 _ _ hi)))), atI_nat (j := 0) rfl, ?_⟩
          refine ⟨c.2, ⟨d0, d1⟩, dx, _, c.1 _ _ hg, r⟩
        · rw [e1]
          have sD := same_upd (HO.lst (ps.map fun p => V.bl (lt ms p.2))) hD1
          refine ⟨noT_upd nT' rfl, ?_⟩
          refine comp_lst D _ (fun H2 => Same H' H2) (fun D' ys hD' => sD.trans (same_upd _ hD')) (fun H2 c => hL H2 c) (fun _ => true) (fun x => prj H1 1 x) (fun R r => r) (hL _ sD) hz (fun x _ H2 R _ r => r) (fun x hx _ H2 R c r => ?_) (fun D2 hD2 => ?_)
          · obtain ⟨p, hp, rfl, h0, h1⟩ := hit x hx
            obtain ⟨hi, d0, d1⟩ := hD.it p hp
            rw [h1] at r
            ((try dsimp only [sp_is_whole, sp_start, sp_first_day, sp_last_day, sp5, sp_g_init, sp_g_closed, sp_g_lets, sp_g_need, sp_g_shut, sp_j_init, sp_j_put, sp_j_many, sp_j_booking, sp_j_every, sp_j_undone, sp_at, sp_lengths, sp_ends, sp_word, sp_shut, sp_no]); try simp only [rdAll, rdI, V.int.injEq, V.ref.injEq, eqQ_int, eqQ_bl, eqQ_str, eqQ_ref, eqQ_nn, eqQ_ni, eqQ_in, eqQ_is, eqQ_si, L2.start, List.map_cons, List.map_nil, List.cons_append, List.nil_append, List.append_nil, List.length_cons, List.length_nil, List.replicate, List.getElem?_cons_zero, List.getElem?_cons_succ, List.set_cons_zero, List.set_cons_succ, Nat.reduceSub, Nat.reduceAdd, Int.reduceLT, Int.reduceLE, Int.reducePow, Int.reduceNeg, Nat.reducePow, List.cons.injEq, exists_eq_left', exists_eq_left, eq_self, if_false, if_true, ↓reduceIte, ite_not, forall_const, Option.join, Option.bind_some, id_eq])
            exact ⟨_, _, .inr (.inl (.inl (c _ _ (s1 _ _ hi)))), atI_nat (j := 1) rfl, r⟩
          · rw [e2]
            have sD2 := same_upd (HO.lst (ps.map fun p => V.bl (lt ms p.2))) hD2
            ((try dsimp only [sp_is_whole, sp_start, sp_first_day, sp_last_day, sp5, sp_g_init, sp_g_closed, sp_g_lets, sp_g_need, sp_g_shut, sp_j_init, sp_j_put, sp_j_many, sp_j_booking, sp_j_every, sp_j_undone, sp_at, sp_lengths, sp_ends, sp_word, sp_shut, sp_no]); try simp only [rdAll, rdI, V.int.injEq, V.ref.injEq, eqQ_int, eqQ_bl, eqQ_str, eqQ_ref, eqQ_nn, eqQ_ni, eqQ_in, eqQ_is, eqQ_si, L2.start, List.map_cons, List.map_nil, List.cons_append, List.nil_append, List.append_nil, List.length_cons, List.length_nil, List.replicate, List.getElem?_cons_zero, List.getElem?_cons_succ, List.set_cons_zero, List.set_cons_succ, Nat.reduceSub, Nat.reduceAdd, Int.reduceLT, Int.reduceLE, Int.reducePow, Int.reduceNeg, Nat.reducePow, List.cons.injEq, exists_eq_left', exists_eq_left, eq_self, if_false, if_true, ↓reduceIte, ite_not, forall_const, Option.join, Option.bind_some, id_eq])
            refine ⟨true, EqR.flatL (.inl (.inl (sD2 _ _ upd_same))) (.inl (.inl upd_same)) (by simp [flatV]), ?_⟩
            rw [if_neg (by decide)]
            have sD3 := sD.trans sD2
            have hD1' : SqL K (upd (upd H' D1 (HO.lst (ps.map fun p => V.bl (lt ms p.2)))) D2 (HO.lst (ps.map fun p => V.bl (lt ms p.2)))) D1 (ps.map fun p => V.bl (lt ms p.2)) := .inl (.inl (sD2 _ _ upd_same))
            refine comp_lst D1 (ps.map fun p => V.bl (lt ms p.2)) (fun H2 => Same (upd (upd H' D1 (HO.lst (ps.map fun p => V.bl (lt ms p.2)))) D2 (HO.lst (ps.map fun p => V.bl (lt ms p.2)))) H2) (fun D' ys hD' => same_upd _ hD') (fun H2 c => hD1'.same c) (fun _ => true) (fun x => .bl true) (fun R r => r) hD1' (by rw [List.length_map] at hz ⊢; exact hz) (fun x _ H2 R _ r => r) (fun x hx _ H2 R c r => ?_) (fun D3 hD3 => ?_)
            · obtain ⟨p, hp, rfl⟩ := List.mem_map.mp hx
              ((try dsimp only [sp_is_whole, sp_start, sp_first_day, sp_last_day, sp5, sp_g_init, sp_g_closed, sp_g_lets, sp_g_need, sp_g_shut, sp_j_init, sp_j_put, sp_j_many, sp_j_booking, sp_j_every, sp_j_undone, sp_at, sp_lengths, sp_ends, sp_word, sp_shut, sp_no]); try simp only [rdAll, rdI, V.int.injEq, V.ref.injEq, eqQ_int, eqQ_bl, eqQ_str, eqQ_ref, eqQ_nn, eqQ_ni, eqQ_in, eqQ_is, eqQ_si, L2.start, List.map_cons, List.map_nil, List.cons_append, List.nil_append, List.append_nil, List.length_cons, List.length_nil, List.replicate, List.getElem?_cons_zero, List.getElem?_cons_succ, List.set_cons_zero, List.set_cons_succ, Nat.reduceSub, Nat.reduceAdd, Int.reduceLT, Int.reduceLE, Int.reducePow, Int.reduceNeg, Nat.reducePow, List.cons.injEq, exists_eq_left', exists_eq_left, eq_self, if_false, if_true, ↓reduceIte, ite_not, forall_const, Option.join, Option.bind_some, id_eq])
              exact r
            · rw [List.filter_eq_self.2 (fun _ _ => rfl), List.map_map]
              have sD4 := same_upd (HO.lst (ps.map ((fun _ => V.bl true) ∘ fun p => V.bl (lt ms p.2)))) hD3
              refine ⟨ps.map fun _ => true, .inl (.inl (by rw [upd_same, List.map_map]; rfl)), ?_⟩
              have e3 : (ps.map fun _ => true).all id = true := by simp
              rw [e3]
              refine ⟨_, Gc.none (sD2.trans sD4), ?_⟩
              rw [if_neg (by decide)]
              exact ⟨s4.trans sD, noT_upd nT' rfl, _, _, rfl, rfl⟩
    · rintro σ H' ⟨s4, nT', y6, y7, rfl⟩
      ((try dsimp only [sp_is_whole, sp_start, sp_first_day, sp_last_day, sp5, sp_g_init, sp_g_closed, sp_g_lets, sp_g_need, sp_g_shut, sp_j_init, sp_j_put, sp_j_many, sp_j_booking, sp_j_every, sp_j_undone, sp_at, sp_lengths, sp_ends, sp_word, sp_shut, sp_no]); try simp only [rdAll, rdI, V.int.injEq, V.ref.injEq, eqQ_int, eqQ_bl, eqQ_str, eqQ_ref, eqQ_nn, eqQ_ni, eqQ_in, eqQ_is, eqQ_si, L2.start, List.map_cons, List.map_nil, List.cons_append, List.nil_append, List.append_nil, List.length_cons, List.length_nil, List.replicate, List.getElem?_cons_zero, List.getElem?_cons_succ, List.set_cons_zero, List.set_cons_succ, Nat.reduceSub, Nat.reduceAdd, Int.reduceLT, Int.reduceLE, Int.reducePow, Int.reduceNeg, Nat.reducePow, List.cons.injEq, exists_eq_left', exists_eq_left, eq_self, if_false, if_true, ↓reduceIte, ite_not, forall_const, Option.join, Option.bind_some, id_eq])
      exact ⟨H, Gc.none ((sm.trans m2).trans s4), k⟩
  obtain ⟨u2, hu2, c2⟩ := c2
  refine ⟨hN, _, (pss_cons (ps_set (i := 3) ND rfl (Or.inl rfl) (pe_lst (FA.pa (fa_cons (pe_tup (FA.pa (fa_cons (pe_op fo_mod (fv 2) pe_int) (fa_cons pe_bl fa_nil)))) fa_nil))))
      (pss_cons (ps_if (pt_gc (ft_cmp (fo_neQ K HU) (fv 1) (pe_lst (FA.pa fa_nil)) (nomark _))) (pss_cons (ps_asg (pe_callX G__law_month_ends (hr.mono (by decide)) rfl T.m__law_month_ends T.F__law_month_ends.kp b__law_month_ends .nil PX (FA.pa (fa_cons (pe_ix (fx_seqK K) (fv 1) (pe_un fu_neg pe_int) (fun _ _ => rfl)) fa_nil))) (fg_tupK K (n := 2) rfl (pgs_cons (pg_name (i := 4) ND rfl (Or.inl rfl)) (pgs_cons (pg_name (i := 5) ND rfl (Or.inl rfl)) pgs_nil))))
      (pss_cons (ps_set (i := 3) ND rfl (Or.inl rfl) (pe_lst (FA.pa (fa_cons (pe_tup (FA.pa (fa_cons (fv 4) (fa_cons pe_bl fa_nil)))) (fa_cons (pe_tup (FA.pa (fa_cons (fv 5) (fa_cons pe_bl fa_nil)))) (fa_cons (pe_tup (FA.pa (fa_cons (pe_op fo_mod (fv 2) (pe_op fo_add (fv 5) pe_int)) (fa_cons pe_bl fa_nil)))) fa_nil))))))
      (pss_one (ps_if (ft_cmp fo_lt (fv 5) pe_int (nomark _)) (pss_one (ps_set (i := 3) ND rfl (Or.inl rfl) (pe_op fo_cat (fv 3) (pe_lst (FA.pa (fa_cons (pe_tup (FA.pa (fa_cons (pe_op fo_add (fv 5) pe_int) (fa_cons pe_bl fa_nil)))) (fa_cons (pe_tup (FA.pa (fa_cons (pe_op fo_add (pe_op fo_add (fv 5) pe_int) (pe_op fo_mod (fv 2) (pe_op fo_sub pe_int (fv 5)))) (fa_cons pe_bl fa_nil)))) fa_nil))))))) pss_nil)))) pss_nil)
      hu2)), ?_⟩
  ((try dsimp only [sp_is_whole, sp_start, sp_first_day, sp_last_day, sp5, sp_g_init, sp_g_closed, sp_g_lets, sp_g_need, sp_g_shut, sp_j_init, sp_j_put, sp_j_many, sp_j_booking, sp_j_every, sp_j_undone, sp_at, sp_lengths, sp_ends, sp_word, sp_shut, sp_no]); try simp only [rdAll, rdI, V.int.injEq, V.ref.injEq, eqQ_int, eqQ_bl, eqQ_str, eqQ_ref, eqQ_nn, eqQ_ni, eqQ_in, eqQ_is, eqQ_si, L2.start, List.map_cons, List.map_nil, List.cons_append, List.nil_append, List.append_nil, List.length_cons, List.length_nil, List.replicate, List.getElem?_cons_zero, List.getElem?_cons_succ, List.set_cons_zero, List.set_cons_succ, Nat.reduceSub, Nat.reduceAdd, Int.reduceLT, Int.reduceLE, Int.reducePow, Int.reduceNeg, Nat.reducePow, List.cons.injEq, exists_eq_left', exists_eq_left, eq_self, if_false, if_true, ↓reduceIte, ite_not, forall_const, Option.join, Option.bind_some, id_eq])
  have sz : 100 ≤ sizeLine := by rw [sizeLine_eq]; decide
  have em : ∀ (z y : Int), 0 < y → 0 ≤ z % y ∧ z % y < y := fun z y h => ⟨Int.emod_nonneg _ (by omega), Int.emod_lt_of_pos _ h⟩
  refine ⟨by omega, fun p hp => ⟨by omega, fun p1 hp1 => ?_⟩⟩
  have s1 := same_upd (HO.tup [V.int (c % 146097), V.bl true]) hp
  have s2 := same_upd (HO.lst [V.ref p]) hp1
  have nT1 : NoT (upd (upd H p (HO.tup [V.int (c % 146097), V.bl true])) p1 (HO.lst [V.ref p])) := noT_upd (noT_upd hN rfl) rfl
  have hp' : (upd (upd H p (HO.tup [V.int (c % 146097), V.bl true])) p1 (HO.lst [V.ref p])) p = some (HO.tup [V.int (c % 146097), V.bl true]) := s2 _ _ upd_same
  have hp1' : (upd (upd H p (HO.tup [V.int (c % 146097), V.bl true])) p1 (HO.lst [V.ref p])) p1 = some (HO.lst [V.ref p]) := upd_same
  have sm := s1.trans s2
  generalize (upd (upd H p (HO.tup [V.int (c % 146097), V.bl true])) p1 (HO.lst [V.ref p])) = H1 at *
  have G1 : GAt a.c_Gate H1 g n ms := G.keep (S := []) (Keep.same sm) List.not_mem_nil List.not_mem_nil
  refine ⟨nT1, Nat.zero_le _, fun p2 hp2 => ⟨_, eqR_nil (.inl (.inl ((upd_ne (ne_of_none G1.ls hp2)).trans G1.ls))) (.inl (.inl upd_same)), H1, Gc.none (same_upd _ hp2), ?_⟩⟩
  rw [emp_last]
  cases el : ms.getLast? with
  | none =>
    refine ite10 (c2 p1 [(p, c % 146097)] _ _ H1 sm nT1 ⟨hp1', ?_, by simp⟩)
    intro q hq
    simp at hq; subst hq
    have := em c 146097 (by decide)
    exact ⟨by simpa [lt, el] using hp', this.1, by omega⟩
  | some l =>
    have hl := G.ok l (List.mem_of_getLast? el)
    refine ite00 ⟨_, _, .inl (.inl (.inl G1.ls)), at_last el, nT1, ?_⟩
    show asI (.int l) _
    refine ⟨hl.1, fun q hq => ⟨q, _, rfl, SqT.of upd_same, rfl, _, _, rfl, _, _, rfl, rfl, ?_⟩⟩
    ((try dsimp only [sp_is_whole, sp_start, sp_first_day, sp_last_day, sp5, sp_g_init, sp_g_closed, sp_g_lets, sp_g_need, sp_g_shut, sp_j_init, sp_j_put, sp_j_many, sp_j_booking, sp_j_every, sp_j_undone, sp_at, sp_lengths, sp_ends, sp_word, sp_shut, sp_no]); try simp only [rdAll, rdI, V.int.injEq, V.ref.injEq, eqQ_int, eqQ_bl, eqQ_str, eqQ_ref, eqQ_nn, eqQ_ni, eqQ_in, eqQ_is, eqQ_si, L2.start, List.map_cons, List.map_nil, List.cons_append, List.nil_append, List.append_nil, List.length_cons, List.length_nil, List.replicate, List.getElem?_cons_zero, List.getElem?_cons_succ, List.set_cons_zero, List.set_cons_succ, Nat.reduceSub, Nat.reduceAdd, Int.reduceLT, Int.reduceLE, Int.reducePow, Int.reduceNeg, Nat.reducePow, List.cons.injEq, exists_eq_left', exists_eq_left, eq_self, if_false, if_true, ↓reduceIte, ite_not, forall_const, Option.join, Option.bind_some, id_eq])
    have f0 := FD_nn hl.1
    have f1 := FD_lt l
    have f2 := FD_hi hl.2
    have lf : ∀ d, 0 ≤ d → d < FD (l + 1) → lt ms d = false := fun d d0 d1 => by rw [lt_some el d0 (by omega)]; exact decide_eq_false (by omega)
    have lu : ∀ d, FD (l + 1) ≤ d → d ≤ 146096 → lt ms d = true := fun d d0 d1 => by rw [lt_some el (by omega) d1]; exact decide_eq_true d0
    have hc := em c (FD (l + 1) - 1 + 1) (by omega)
    obtain ⟨H2, e2, t2, _, n2⟩ := alloc (o := HO.tup [V.int (FD l), V.int (FD (l + 1) - 1)]) hq nT1 rfl
    rw [e2]
    refine ⟨by omega, fun r1 hr1 => ⟨by omega, fun r2 hr2 => ⟨by omega, by omega, fun r3 hr3 => ⟨by omega, fun r4 hr4 => ?_⟩⟩⟩⟩
    obtain ⟨H3, e3, t3, a3, n3⟩ := alloc (o := HO.tup [V.int (FD l), V.bl false]) hr1 n2 rfl
    rw [e3] at hr2 hr3 hr4 ⊢
    obtain ⟨H4, e4, t4, a4, n4⟩ := alloc (o := HO.tup [V.int (FD (l + 1) - 1), V.bl false]) hr2 n3 rfl
    rw [e4] at hr3 hr4 ⊢
    obtain ⟨H5, e5, t5, a5, n5⟩ := alloc (o := HO.tup [V.int (c % (FD (l + 1) - 1 + 1)), V.bl false]) hr3 n4 rfl
    rw [e5] at hr4 ⊢
    obtain ⟨H6, e6, t6, a6, n6⟩ := alloc (o := HO.lst [V.ref r1, V.ref r2, V.ref r3]) hr4 n5 rfl
    rw [e6]
    have b3 := ((t4.trans t5).trans t6) _ _ a3
    have b4 := (t5.trans t6) _ _ a4
    have b5 := t6 _ _ a5
    have s6 := ((((sm.trans t2).trans t3).trans t4).trans t5).trans t6
    split
    · refine ⟨by omega, fun r5 hr5 => ⟨by omega, by omega, fun r6 hr6 => ⟨by omega, fun r7 hr7 => ?_⟩⟩⟩
      have hd := em c (146096 - (FD (l + 1) - 1)) (by omega)
      obtain ⟨H7, e7, t7, a7, n7⟩ := alloc (o := HO.tup [V.int (FD (l + 1) - 1 + 1), V.bl true]) hr5 n6 rfl
      rw [e7] at hr6 hr7 ⊢
      obtain ⟨H8, e8, t8, a8, n8⟩ := alloc (o := HO.tup [V.int (FD (l + 1) - 1 + 1 + c % (146096 - (FD (l + 1) - 1))), V.bl true]) hr6 n7 rfl
      rw [e8] at hr7 ⊢
      obtain ⟨H9, e9, t9, a9, n9⟩ := alloc (o := HO.lst [V.ref r5, V.ref r6]) hr7 n8 rfl
      rw [e9]
      have u9 := (t7.trans t8).trans t9
      refine ⟨_, _, u9 _ _ a6, a9, by simp; omega, fun r8 hr8 => ?_⟩
      obtain ⟨H10, e10, t10, a10, n10⟩ := alloc (o := HO.lst ([V.ref r1, V.ref r2, V.ref r3] ++ [V.ref r5, V.ref r6])) hr8 n9 rfl
      rw [show upd H9 r8 _ = H10 from e10]
      refine c2 r8 [(r1, FD l), (r2, FD (l + 1) - 1), (r3, c % (FD (l + 1) - 1 + 1)), (r5, FD (l + 1) - 1 + 1), (r6, FD (l + 1) - 1 + 1 + c % (146096 - (FD (l + 1) - 1)))] _ _ H10 ((s6.trans u9).trans t10) n10 ⟨a10, ?_, by simp⟩
      have u10 := u9.trans t10
      intro z hz
      simp only [List.mem_cons, List.not_mem_nil, or_false] at hz
      rcases hz with rfl | rfl | rfl | rfl | rfl
      · exact ⟨by rw [lf _ (by omega) (by show FD l < _; omega)]; exact u10 _ _ b3, by show 0 ≤ FD l; omega, by show FD l ≤ _; omega⟩
      · exact ⟨by rw [lf _ (by show 0 ≤ FD (l + 1) - 1; omega) (by show FD (l + 1) - 1 < _; omega)]; exact u10 _ _ b4, by show 0 ≤ FD (l + 1) - 1; omega, by show FD (l + 1) - 1 ≤ _; omega⟩
      · exact ⟨by rw [lf _ hc.1 (by have := hc.2; show c % (FD (l + 1) - 1 + 1) < _; omega)]; exact u10 _ _ b5, hc.1, by have := hc.2; show c % (FD (l + 1) - 1 + 1) ≤ _; omega⟩
      · exact ⟨by rw [lu _ (by show _ ≤ FD (l + 1) - 1 + 1; omega) (by show FD (l + 1) - 1 + 1 ≤ _; omega)]; exact ((t8.trans t9).trans t10) _ _ a7, by show 0 ≤ FD (l + 1) - 1 + 1; omega, by show FD (l + 1) - 1 + 1 ≤ _; omega⟩
      · have := hd.2
        exact ⟨by rw [lu _ (by show _ ≤ FD (l + 1) - 1 + 1 + c % (146096 - (FD (l + 1) - 1)); omega) (by show FD (l + 1) - 1 + 1 + c % (146096 - (FD (l + 1) - 1)) ≤ _; omega)]; exact (t9.trans t10) _ _ a8, by show 0 ≤ FD (l + 1) - 1 + 1 + c % (146096 - (FD (l + 1) - 1)); omega, by show FD (l + 1) - 1 + 1 + c % (146096 - (FD (l + 1) - 1)) ≤ _; omega⟩
    · refine c2 r4 [(r1, FD l), (r2, FD (l + 1) - 1), (r3, c % (FD (l + 1) - 1 + 1))] _ _ H6 s6 n6 ⟨a6, ?_, by simp⟩
      intro z hz
      simp only [List.mem_cons, List.not_mem_nil, or_false] at hz
      rcases hz with rfl | rfl | rfl
      · exact ⟨by rw [lf _ (by omega) (by show FD l < _; omega)]; exact b3, by show 0 ≤ FD l; omega, by show FD l ≤ _; omega⟩
      · exact ⟨by rw [lf _ (by show 0 ≤ FD (l + 1) - 1; omega) (by show FD (l + 1) - 1 < _; omega)]; exact b4, by show 0 ≤ FD (l + 1) - 1; omega, by show FD (l + 1) - 1 ≤ _; omega⟩
      · exact ⟨by rw [lf _ hc.1 (by have := hc.2; show c % (FD (l + 1) - 1 + 1) < _; omega)]; exact b5, hc.1, by have := hc.2; show c % (FD (l + 1) - 1 + 1) ≤ _; omega⟩
end
end K13
set_option Elab.async false
set_option linter.all false
set_option maxRecDepth 100000
set_option maxHeartbeats 400000
namespace K13
open PySem L2
seal L2.PE L2.PT L2.PW L2.PA L2.PS L2.PSs L2.PI L2.PG L2.PGs L2.PO
section
variable {pS : Addr} {ns : List Int} {P : Program} {w : World} {K : PySem.W.Frag} {mg : Str → Option Value} {base : Heap} {a : Adr}
open K3
structure Bk where
  d : Int
  n : List Nat
  rs : List V
  o : Option Int
def BAt (H : Hp) (v : V) (k : Nat) (b : Bk) : Prop := ∃ q t, v = .ref q ∧ H q = some (.tup [.int k, .int b.d, L2.T b.n, .ref t, cl b.o]) ∧ H t = some (.tup b.rs)
structure RAt (H : Hp) (vs : List V) (bs : List Bk) : Prop where
  len : vs.length = bs.length
  it : ∀ i v b, vs[i]? = some v → bs[i]? = some b → BAt H v i b
def undF (k : Nat) : List Bk → List (Key × V)
  | [] => []
  | b :: r => match b.o with
    | some i => (.inl i, .int k) :: undF (k + 1) r
    | none => undF (k + 1) r
structure JS (C : Addr) (H : Hp) (p b u m : Addr) (bks : List Bk) : Prop where
  jr : ∃ vs, JAt C H p b u vs (undF 0 bks) ∧ RAt H vs bks
  mn : ∃ ws, H m = some (.lst ws) ∧ RAt H ws bks
  rf : ∀ z ∈ bks, z.rs.length ≤ 10 ∧ z.n.length ≤ 100 ∧ ∀ x ∈ z.rs, ∃ r, x = .ref r
  nd : (bks.filterMap (·.o)).Nodup
  rg : ∀ i : Int, i ∈ bks.filterMap (·.o) → 0 ≤ i ∧ i < bks.length
theorem BAt.keep {S : List Addr} {H H' : Hp} {v : V} {k : Nat} {b : Bk} (h : BAt H v k b) (x : Keep S H H') (hS : ∀ s ∈ S, ∀ l, H s ≠ some (.tup l)) : BAt H' v k b := by
  obtain ⟨q, t, rfl, h1, h2⟩ := h
  exact ⟨q, t, rfl, x _ _ h1 fun z => hS _ z _ h1, x _ _ h2 fun z => hS _ z _ h2⟩
theorem RAt.keep {S : List Addr} {H H' : Hp} {vs : List V} {bs : List Bk} (h : RAt H vs bs) (x : Keep S H H') (hS : ∀ s ∈ S, ∀ l, H s ≠ some (.tup l)) : RAt H' vs bs :=
  ⟨h.len, fun i v b e1 e2 => (h.it i v b e1 e2).keep x hS⟩
theorem JS.keep {C : Addr} {S : List Addr} {H H' : Hp} {p b u m : Addr} {bks : List Bk} (j : JS C H p b u m bks) (x : Keep S H H') (hp : p ∉ S) (hb : b ∉ S) (hu : u ∉ S) (hm : m ∉ S) (hS : ∀ s ∈ S, ∀ l, H s ≠ some (.tup l)) : JS C H' p b u m bks := by
  obtain ⟨vs, h1, h2⟩ := j.jr
  obtain ⟨ws, h3, h4⟩ := j.mn
  exact ⟨⟨vs, h1.keep x hp hb hu, h2.keep x hS⟩, ⟨ws, x _ _ h3 hm, h4.keep x hS⟩, j.rf, j.nd, j.rg⟩
theorem RAt.snoc {H : Hp} {vs : List V} {bs : List Bk} {v : V} {b : Bk} (h : RAt H vs bs) (x : BAt H v bs.length b) : RAt H (vs ++ [v]) (bs ++ [b]) := by
  refine ⟨by simp [h.len], fun i y c e1 e2 => ?_⟩
  rcases Nat.lt_trichotomy i bs.length with hi | hi | hi
  · rw [List.getElem?_append_left (by rw [h.len]; exact hi)] at e1
    rw [List.getElem?_append_left hi] at e2
    exact h.it i y c e1 e2
  · subst hi
    rw [← h.len, List.getElem?_concat_length] at e1
    rw [List.getElem?_concat_length] at e2
    cases e1; cases e2; exact x
  · have : (bs ++ [b])[i]? = none := List.getElem?_eq_none (by simp; omega)
    rw [this] at e2; cases e2
theorem undF_snoc (b : Bk) : ∀ (l : List Bk) (k : Nat), undF k (l ++ [b]) = undF k l ++ (match b.o with | some i => [(.inl i, .int ((k + l.length : Nat) : Int))] | none => [])
  | [], k => by cases h : b.o <;> simp [undF, h]
  | c :: r, k => by
    have e : k + 1 + r.length = k + (c :: r).length := by simp; omega
    rw [List.cons_append]
    cases h : c.o <;> simp only [undF, h, undF_snoc b r (k + 1), e, List.cons_append]
theorem undF_keys : ∀ (l : List Bk) (k : Nat) (x : Key × V), x ∈ undF k l → ∃ i, x.1 = .inl i ∧ i ∈ l.filterMap (·.o)
  | [], k, x, h => by cases h
  | c :: r, k, x, h => by
    cases ho : c.o with
    | none =>
      simp only [undF, ho] at h
      obtain ⟨i, h1, h2⟩ := undF_keys r _ x h
      exact ⟨i, h1, by rw [List.filterMap_cons, ho]; exact h2⟩
    | some j =>
      simp only [undF, ho, List.mem_cons] at h
      rcases h with rfl | h
      · exact ⟨j, rfl, by rw [List.filterMap_cons, ho]; exact .head _⟩
      · obtain ⟨i, h1, h2⟩ := undF_keys r _ x h
        exact ⟨i, h1, by rw [List.filterMap_cons, ho]; exact .tail _ h2⟩
theorem undF_len : ∀ (l : List Bk) (k : Nat), (undF k l).length ≤ l.length
  | [], k => Nat.le_refl _
  | c :: r, k => by
    have := undF_len r (k + 1)
    cases ho : c.o <;> simp only [undF, ho, List.length_cons] <;> omega
theorem RAt.mem {H : Hp} {vs : List V} {bs : List Bk} (h : RAt H vs bs) {x : V} (hx : x ∈ vs) : ∃ (i : Nat) (b : Bk), bs[i]? = some b ∧ b ∈ bs ∧ i < bs.length ∧ BAt H x i b := by
  obtain ⟨i, hi, e⟩ := List.mem_iff_getElem.mp hx
  have hb : i < bs.length := by rw [← h.len]; exact hi
  exact ⟨i, bs[i], List.getElem?_eq_getElem hb, List.getElem_mem hb, hb, h.it i x _ (by rw [List.getElem?_eq_getElem hi, e]) (List.getElem?_eq_getElem hb)⟩
theorem RAt.prj4 {H : Hp} {vs : List V} {bs : List Bk} (h : RAt H vs bs) : vs.map (prj H 4) = bs.map fun b => cl b.o := by
  refine List.ext_getElem (by simp [h.len]) fun i h1 h2 => ?_
  rw [List.length_map] at h1 h2
  obtain ⟨q, t, e, e1, _⟩ := h.it i _ _ (List.getElem?_eq_getElem h1) (List.getElem?_eq_getElem h2)
  rw [List.getElem_map, List.getElem_map, e]
  simp [prj, e1]
theorem cl_flat (o : Option Int) : flatV (cl o) = true := by cases o <;> rfl
theorem in_und {bks : List Bk} {i : Int} (h : inV (.int i) (bks.map fun b => cl b.o) = false) : i ∉ bks.filterMap (·.o) := by
  intro hm
  obtain ⟨b, hb, ho⟩ := List.mem_filterMap.mp hm
  have : inV (.int i) (bks.map fun b => cl b.o) = true := by
    unfold inV
    refine List.any_eq_true.mpr ⟨cl b.o, List.mem_map.mpr ⟨b, hb, rfl⟩, ?_⟩
    rw [ho]; simp [cl, eqV]
  rw [h] at this; cases this
def sp_put (C : Addr) : Sp := sp4 fun x y z v H Q _ => NoT H ∧ asR x fun p => asR y fun m => asI z fun _ => asI v fun _ => ∃ b u bks, JS C H p b u m bks ∧ b ≠ m ∧ bks.length ≤ 50 ∧ ∀ bks' H', bks'.length ≤ bks.length + 1 → JS C H' p b u m bks' → Keep [b, u, m] H H' → NoT H' → Q (.bl true) H'
theorem ok__law_put (T : Txt K mg a) : FnOk P w K mg base (XE P w) 8 a.f__law_put a.fd__law_put ["_law_journal", "_law_own_rows", "_law_cell", "_law_more"] (sp_put a.c_Journal) := by
  refine T.F__law_put.okX sc__law_put (fun vs H Q E h => sp4.len h) (fun cdv A outer s H vs Q E hr h => ?_)
  obtain ⟨x0, x1, x2, x3, rfl, h⟩ := sp4.inv h
  have ND := sc__law_put.nd
  have PX : Passes' (XE P w) (cxOf (XE P w) P w K mg base ["_law_journal", "_law_own_rows", "_law_cell", "_law_more", "_law_rows", "_law_undoes", "_law_free", "_law_due", "_law_handed", "_law_found"] "_law_put" (defScope s__law_put) a.f__law_put cdv A outer s H E) (fun _ => E) := passB
  have RX : Raises (cxOf (XE P w) P w K mg base ["_law_journal", "_law_own_rows", "_law_cell", "_law_more", "_law_rows", "_law_undoes", "_law_free", "_law_due", "_law_handed", "_law_found"] "_law_put" (defScope s__law_put) a.f__law_put cdv A outer s H E) (fun _ => E) := raisesB
  have HU : (cxOf (XE P w) P w K mg base ["_law_journal", "_law_own_rows", "_law_cell", "_law_more", "_law_rows", "_law_undoes", "_law_free", "_law_due", "_law_handed", "_law_found"] "_law_put" (defScope s__law_put) a.f__law_put cdv A outer s H E).A.units + 100 < cLine := units100 hr
  obtain ⟨hN, h1⟩ := h
  obtain ⟨p, rfl, h2⟩ := asR.inv h1
  obtain ⟨m, rfl, h3⟩ := asR.inv h2
  obtain ⟨c, rfl, h4⟩ := asI.inv h3
  obtain ⟨r, rfl, b, u, bks, J, bm, l1, k⟩ := asI.inv h4
  obtain ⟨vs, JA, RV⟩ := J.jr
  obtain ⟨ws, hm, RW⟩ := J.mn
  have G__law_whole := ok__law_whole (P := P) (w := w) (base := base) T
  have b__law_whole := bn__law_whole T.F__law_whole
  have G_Journal_put := ok_Journal_put (P := P) (w := w) (base := base) T
  have b_Journal_put := bn_Journal_put T.F_Journal_put
  have c6 : ∃ v, PSs (cxOf (XE P w) P w K mg base ["_law_journal", "_law_own_rows", "_law_cell", "_law_more", "_law_rows", "_law_undoes", "_law_free", "_law_due", "_law_handed", "_law_found"] "_law_put" (defScope s__law_put) a.f__law_put cdv A outer s H E) (List.drop 6 (defBody s__law_put)) v ∧ ∀ (o : Option Int) R rs x6 H1, Same H H1 → NoT H1 → H1 R = some (.lst rs) → rs.length ≤ 10 → (∀ x ∈ rs, ∃ r, x = .ref r) → (∀ i, o = some i → (0 ≤ i ∧ i < bks.length) ∧ i ∉ bks.filterMap (·.o)) → v { nx := fun _ H' => Q .non H', rt := fun v H' => Q v H' } [some (.ref p), some (.ref m), some (.int c), some (.int r), some (.ref R), some (cl o), x6, none, none, none] H1 := by
    refine ⟨_, (pss_cons (ps_set (i := 7) ND rfl (Or.inl rfl) (pe_tup (FA.pa (fa_cons (pe_callB (fc_lenK K) rfl T.z_len bb_len (FA.pa (fa_cons (fv 1) fa_nil))) (fa_cons (pe_op fo_mod (fv 3) pe_int) (fa_cons (pe_op fo_add (pe_strT [110, 111, 116, 101, 32]) (pe_callTy fc_str rfl T.z_str bb_str (FA.pa (fa_cons (pe_op fo_mod (fv 3) pe_int) fa_nil)))) (fa_cons (pe_callTy (fc_tuple K) rfl T.z_tuple bb_tuple (FA.pa (fa_cons (fv 4) fa_nil))) (fa_cons (fv 5) fa_nil))))))))
      (pss_cons (ps_set (i := 8) ND rfl (Or.inl rfl) (fe_pickL (FA.pa (fa_cons (pe_callTy (fc_list K) rfl T.z_list bb_list (FA.pa (fa_cons (fv 4) fa_nil))) (fa_cons (pe_callTy (fc_tuple K) rfl T.z_tuple bb_tuple (FA.pa (fa_cons (fv 4) fa_nil))) fa_nil))) (pe_op fo_mod (pe_op fo_fdiv (fv 2) pe_int) pe_int) (fun _ _ => rfl)))
      (pss_cons (ps_set (i := 9) ND rfl (Or.inl rfl) (pe_methX (fv 0) T.cl_Journal T.mt_Journal_put G_Journal_put (hr.mono (by decide)) b_Journal_put .nil PX (FA.pa (fa_cons (pe_ix (fx_seqK K) (fv 7) pe_int (fun _ _ => rfl)) (fa_cons (pe_ix (fx_seqK K) (fv 7) pe_int (fun _ _ => rfl)) (fa_cons (fv 8) (fa_cons (fv 5) fa_nil)))))))
      (pss_cons (ps_expr (pe_bmK K PySem.F.plainAttrs_list PySem.F.slot_list_append PySem.F.type_list_append mt_append (fv 1) (FA.pa (fa_cons (fv 7) fa_nil))))
      (pss_cons (ps_if (ft_cmp (fo_eqQ K HU) (pe_op fo_mod (pe_op fo_fdiv (fv 2) pe_int) pe_int) pe_int (nomark _)) (pss_one (ps_expr (pe_bm0K K PySem.F.plainAttrs_list PySem.F.slot_list_clear PySem.F.type_list_clear mt_clear (fv 8)))) pss_nil)
      (pss_one (ps_ret (fe_and (pe_callX G__law_whole (hr.mono (by decide)) rfl T.m__law_whole T.F__law_whole.kp b__law_whole .nil PX (FA.pa (fa_cons (fv 9) fa_nil))) (pe_one (pe_cmpR (fo_eqQ K HU) (fv 9) (pe_ix (fx_seqK K) (fv 7) pe_int (fun _ _ => rfl)) (nomark _))))))))))), fun o R rs x6 H1 sm nT hR lr rr ho => ?_⟩
    have hm1 := sm _ _ hm
    have sz : 1000 ≤ sizeLine := by rw [sizeLine_eq]; decide
    have hr10 : 0 ≤ r % 10 ∧ r % 10 < 10 := ⟨Int.emod_nonneg _ (by decide), Int.emod_lt_of_pos _ (by decide)⟩
    have hnt : (MT.NT (r % 10)).length ≤ 90 ∧ (r % 10).natAbs.log2 < 1920 := by
      rcases (show r % 10 = 0 ∨ r % 10 = 1 ∨ r % 10 = 2 ∨ r % 10 = 3 ∨ r % 10 = 4 ∨ r % 10 = 5 ∨ r % 10 = 6 ∨ r % 10 = 7 ∨ r % 10 = 8 ∨ r % 10 = 9 by omega) with e | e | e | e | e | e | e | e | e | e <;> rw [e] <;> exact ⟨by decide, by decide⟩
    have lw : ws.length = bks.length := RW.len
    ((try dsimp only [sp_is_whole, sp_start, sp_first_day, sp_last_day, sp5, sp_g_init, sp_g_closed, sp_g_lets, sp_g_need, sp_g_shut, sp_j_init, sp_j_put, sp_j_many, sp_j_booking, sp_j_every, sp_j_undone, sp_at, sp_lengths, sp_ends, sp_word, sp_shut, sp_no, sp_gr]); try simp only [rdAll, rdI, V.int.injEq, V.ref.injEq, eqQ_int, eqQ_bl, eqQ_str, eqQ_ref, eqQ_nn, eqQ_ni, eqQ_in, eqQ_is, eqQ_si, L2.start, List.map_cons, List.map_nil, List.cons_append, List.nil_append, List.append_nil, List.length_cons, List.length_nil, List.replicate, List.getElem?_cons_zero, List.getElem?_cons_succ, List.set_cons_zero, List.set_cons_succ, Nat.reduceSub, Nat.reduceAdd, Int.reduceLT, Int.reduceLE, Int.reducePow, Int.reduceNeg, Nat.reducePow, List.cons.injEq, exists_eq_left', exists_eq_left, eq_self, if_false, if_true, ↓reduceIte, ite_not, forall_const, Option.join, Option.bind_some, id_eq])
    refine ⟨ws, .inl (.inl (.inl hm1)), hnt.2, by omega, rs, .inl ⟨.inl (.inl hR), fun l hl => ⟨by omega, fun q1 hq1 => ?_⟩⟩⟩
    obtain ⟨H2, e2, t2, a2, n2⟩ := alloc (o := HO.tup rs) hl nT rfl
    rw [e2] at hq1 ⊢
    generalize hnote : (110 :: 111 :: 116 :: 101 :: 32 :: MT.NT (r % 10)) = nt
    have lnt : nt.length ≤ 100 := by rw [← hnote]; simp; omega
    obtain ⟨H3, e3, t3, a3, n3⟩ := alloc (o := HO.tup [V.int ws.length, V.int (r % 146097), L2.T nt, V.ref l, cl o]) hq1 n2 rfl
    rw [e3]
    have s3 := t2.trans t3
    refine ⟨n3, rs, .inl (.inl (.inl (s3 _ _ hR))), fun l1 hl1 => ?_⟩
    obtain ⟨H4, e4, t4, a4, n4⟩ := alloc (o := HO.lst rs) hl1 n3 rfl
    rw [e4]
    refine ⟨rs, .inl ⟨.inl (.inl ((s3.trans t4) _ _ hR)), fun l2 hl2 => ?_⟩⟩
    obtain ⟨H5, e5, t5, a5, n5⟩ := alloc (o := HO.tup rs) hl2 n4 rfl
    rw [e5]
    refine ⟨t4.trans t5, by omega, fun l3 hl3 => ?_⟩
    obtain ⟨dx, hpj⟩ := JA.ob
    have sH3 : Same H H3 := sm.trans s3
    have lkp : List.lookup (Str.ofString "put") [(Str.ofString "bookings", V.ref b), (Str.ofString "undoings", V.ref u)] = none := by rw [lk_miss (by decide +kernel), lk_miss (by decide +kernel)]; rfl
    have lv : vs.length = bks.length := RV.len
    have lk := undF_len bks 0
    have mb : b ∈ [b, u, m] := .head _
    have mu : u ∈ [b, u, m] := .tail _ (.head _)
    have mm : m ∈ [b, u, m] := .tail _ (.tail _ (.head _))
    have pm : p ≠ m := ne_at hpj hm (by intro z; cases z)
    have um : u ≠ m := ne_at JA.dc hm (by intro z; cases z)
    have clo : cl o = .non ∨ ∃ i, cl o = .int i := by cases o with
      | none => exact .inl rfl
      | some i => exact .inr ⟨i, rfl⟩
    have eu : (match cl o with | V.int i => putK (undF 0 bks) (Sum.inl i) (V.int vs.length) | x => undF 0 bks) = undF 0 (bks ++ [⟨r % 146097, nt, rs, o⟩]) := by
      rw [undF_snoc]
      cases o with
      | none => simp [cl]
      | some i =>
        have hk : ((undF 0 bks).any fun kv => decide (kv.1 = Sum.inl i)) = false := by
          rw [List.any_eq_false]
          intro x hx
          obtain ⟨j, e1, e2⟩ := undF_keys bks 0 x hx
          rw [e1]
          simp
          intro z
          subst z
          exact (ho _ rfl).2 e2
        simp only [cl, putK, hk]
        rw [if_neg (by decide), lv, Nat.zero_add]
    have post : ∀ Hq, Same H3 Hq → ∀ t q2 H', H' t = some (.tup rs) → H' q2 = some (.tup [.int vs.length, .int (r % 146097), L2.T nt, .ref t, cl o]) →
        JAt a.c_Journal H' p b u (vs ++ [.ref q2]) (match cl o with | V.int i => putK (undF 0 bks) (Sum.inl i) (V.int vs.length) | x => undF 0 bks) → Keep [b, u] Hq H' → NoT H' →
        H' m = some (.lst ws) ∧ JS a.c_Journal (upd H' m (.lst (ws ++ [.ref q1]))) p b u m (bks ++ [⟨r % 146097, nt, rs, o⟩]) ∧ Keep [b, u, m] H (upd H' m (.lst (ws ++ [.ref q1]))) ∧ NoT (upd H' m (.lst (ws ++ [.ref q1]))) ∧ upd H' m (.lst (ws ++ [.ref q1])) q1 = some (.tup [V.int ws.length, V.int (r % 146097), L2.T nt, V.ref l, cl o]) := by
      intro Hq sq t q2 H' ht hq2 J' kp n'
      rw [eu] at J'
      have sHq := sH3.trans sq
      have nbu : ∀ x z, H x = some z → x ≠ b → x ≠ u → H' x = some z := fun x z e n1 n2 => kp _ _ (sHq _ _ e) (by intro h; simp at h; rcases h with h | h; exact n1 h; exact n2 h)
      have hm' : H' m = some (.lst ws) := nbu _ _ hm (Ne.symm bm) (Ne.symm um)
      have k1 : Keep [b, u, m] H H' := fun x z e n => nbu x z e (fun h => n (h ▸ mb)) (fun h => n (h ▸ mu))
      have k2 : Keep [b, u, m] H (upd H' m (.lst (ws ++ [.ref q1]))) := k1.put mm
      have tb : ∀ x l, Hq x = some (.tup l) → H' x = some (.tup l) := fun x l e => kp _ _ e (by
        intro h; simp at h
        rcases h with h | h
        · subst h; rw [sHq _ _ JA.ls] at e; cases e
        · subst h; rw [sHq _ _ JA.dc] at e; cases e)
      have hq1' := tb _ _ (sq _ _ a3)
      have hl' := tb _ _ (sq _ _ (t3 _ _ a2))
      have nm : ∀ {x l}, H' x = some (HO.tup l) → upd H' m (.lst (ws ++ [.ref q1])) x = some (.tup l) := fun {x l} e => by
        rw [upd_ne (ne_at e hm' (by intro z; cases z))]; exact e
      have noS : ∀ s ∈ [b, u, m], ∀ l, H s ≠ some (.tup l) := by
        intro s hs l e
        simp at hs
        rcases hs with rfl | rfl | rfl
        · rw [JA.ls] at e; cases e
        · rw [JA.dc] at e; cases e
        · rw [hm] at e; cases e
      refine ⟨hm', ⟨⟨vs ++ [.ref q2], ⟨?_, ?_, ?_⟩, (RV.keep k2 noS).snoc ⟨q2, t, rfl, ?_, nm ht⟩⟩, ⟨_, upd_same, (RW.keep k2 noS).snoc ⟨q1, l, rfl, ?_, nm hl'⟩⟩, ?_, ?_, ?_⟩, k2, noT_upd n' rfl, nm hq1'⟩
      · obtain ⟨dx', e⟩ := J'.ob
        exact ⟨dx', (upd_ne pm).trans e⟩
      · exact (upd_ne bm).trans J'.ls
      · exact (upd_ne um).trans J'.dc
      · rw [← lv]; exact nm hq2
      · rw [← lw]; exact nm hq1'
      · intro z hz
        rcases List.mem_append.mp hz with hz | hz
        · exact J.rf z hz
        · simp at hz; subst hz; exact ⟨lr, lnt, rr⟩
      · rw [List.filterMap_append]
        cases o with
        | none => simpa using J.nd
        | some i =>
          have h1 := (ho i rfl).2
          refine List.nodup_append.mpr ⟨J.nd, by simp, ?_⟩
          intro x hx y hy e
          simp at hy
          subst e hy
          exact h1 hx
      · intro i hi
        rw [List.filterMap_append] at hi
        rw [List.length_append, List.length_singleton]
        rcases List.mem_append.mp hi with hi | hi
        · have := J.rg i hi; omega
        · cases o with
          | none => simp at hi
          | some j =>
            simp at hi; subst hi
            have := (ho _ rfl).1; omega
    have JQ : ∀ Hq, Same H3 Hq → JAt a.c_Journal Hq p b u vs (undF 0 bks) := fun Hq sq => JA.keep (S := []) (Keep.same (sH3.trans sq)) List.not_mem_nil List.not_mem_nil List.not_mem_nil
    have hc2 : c / 6 % 2 = 0 ∨ c / 6 % 2 = 1 := by omega
    rcases hc2 with hc | hc
    · rw [hc]
      refine pick_ref (q := l1) (atI_nat (j := 0) rfl) hl1 (t5 _ _ a4) rfl ?_
      rw [e4]
      refine ⟨dx, _, (sH3.trans t4) _ _ hpj, lkp, _, _, .inr (.inl (.inl (t4 _ _ a3))), atI_nat (j := 1) rfl, _, _, .inr (.inl (.inl (t4 _ _ a3))), atI_nat (j := 2) rfl, n4, b, u, vs, _, rs, JQ H4 t4, by omega, by omega, .inl (.inl (.inl a4)), by omega, clo, fun t q2 H' _ ht _ hq2 J' kp n' => ?_⟩
      obtain ⟨hm', J2, k2, n2', hq1'⟩ := post H4 t4 t q2 H' ht hq2 J' kp n'
      refine ⟨.inl ⟨_, .inl (.inl hm')⟩, m, ws, _, rfl, rfl, hm', by omega, ?_⟩
      rw [if_pos rfl]
      have l1p : ∀ x o, H x = some o → l1 ≠ x := fun x o e => (ne_of_none (sH3 _ _ e) hl1).symm
      have hl1' : upd H' m (.lst (ws ++ [.ref q1])) l1 = some (.lst rs) := by
        rw [upd_ne (l1p m _ hm)]
        exact kp _ _ a4 (by intro h; simp at h; rcases h with h | h; exact l1p b _ JA.ls h; exact l1p u _ JA.dc h)
      have J3 := J2.keep (S := [l1]) (H' := upd (upd H' m (.lst (ws ++ [.ref q1]))) l1 (.lst [])) (Keep.refl.put (.head _)) (by intro h; simp at h; exact l1p p _ hpj h.symm) (by intro h; simp at h; exact l1p b _ JA.ls h.symm) (by intro h; simp at h; exact l1p u _ JA.dc h.symm) (by intro h; simp at h; exact l1p m _ hm h.symm) (by intro s hs l e; simp at hs; subst hs; rw [hl1'] at e; cases e)
      have k3 : Keep [b, u, m] H (upd (upd H' m (.lst (ws ++ [.ref q1]))) l1 (.lst [])) := fun x z e n => by
        rw [upd_ne (l1p x z e).symm]; exact k2 x z e n
      have q1l : upd (upd H' m (.lst (ws ++ [.ref q1]))) l1 (.lst []) q1 = some (.tup [V.int ws.length, V.int (r % 146097), L2.T nt, V.ref l, cl o]) := by
        rw [upd_ne (ne_at hq1' hl1' (by intro z; cases z))]; exact hq1'
      refine ⟨.inl ⟨rfl, _, .inl (.inl hl1')⟩, l1, _, rfl, hl1', noT_upd n2' rfl, _, _, .inr (.inl (.inl q1l)), atI_nat (j := 0) rfl, ?_⟩
      ((try dsimp only [sp_is_whole, sp_start, sp_first_day, sp_last_day, sp5, sp_g_init, sp_g_closed, sp_g_lets, sp_g_need, sp_g_shut, sp_j_init, sp_j_put, sp_j_many, sp_j_booking, sp_j_every, sp_j_undone, sp_at, sp_lengths, sp_ends, sp_word, sp_shut, sp_no, sp_gr]); try simp only [rdAll, rdI, V.int.injEq, V.ref.injEq, eqQ_int, eqQ_bl, eqQ_str, eqQ_ref, eqQ_nn, eqQ_ni, eqQ_in, eqQ_is, eqQ_si, L2.start, List.map_cons, List.map_nil, List.cons_append, List.nil_append, List.append_nil, List.length_cons, List.length_nil, List.replicate, List.getElem?_cons_zero, List.getElem?_cons_succ, List.set_cons_zero, List.set_cons_succ, Nat.reduceSub, Nat.reduceAdd, Int.reduceLT, Int.reduceLE, Int.reducePow, Int.reduceNeg, Nat.reducePow, List.cons.injEq, exists_eq_left', exists_eq_left, eq_self, if_false, if_true, ↓reduceIte, ite_not, forall_const, Option.join, Option.bind_some, id_eq])
      rw [show decide ((vs.length : Int) = ws.length) = true from by simp [lv, lw]]
      exact k _ _ (by simp) J3 k3 (noT_upd n2' rfl)
    · rw [hc]
      refine pick_ref (q := l2) (atI_nat (j := 1) rfl) (t4.free hl2) a5 rfl ?_
      obtain ⟨H6, e6, t6, a6, n6⟩ := alloc (o := HO.tup rs) (t4.free hl2) n3 rfl
      rw [e6]
      refine ⟨dx, _, (sH3.trans t6) _ _ hpj, lkp, _, _, .inr (.inl (.inl (t6 _ _ a3))), atI_nat (j := 1) rfl, _, _, .inr (.inl (.inl (t6 _ _ a3))), atI_nat (j := 2) rfl, n6, b, u, vs, _, rs, JQ H6 t6, by omega, by omega, .inr a6, by omega, clo, fun t q2 H' _ ht _ hq2 J' kp n' => ?_⟩
      obtain ⟨hm', J2, k2, n2', hq1'⟩ := post H6 t6 t q2 H' ht hq2 J' kp n'
      refine ⟨.inl ⟨_, .inl (.inl hm')⟩, m, ws, _, rfl, rfl, hm', by omega, ?_⟩
      rw [if_neg (by decide)]
      refine ⟨n2', _, _, .inr (.inl (.inl hq1')), atI_nat (j := 0) rfl, ?_⟩
      ((try dsimp only [sp_is_whole, sp_start, sp_first_day, sp_last_day, sp5, sp_g_init, sp_g_closed, sp_g_lets, sp_g_need, sp_g_shut, sp_j_init, sp_j_put, sp_j_many, sp_j_booking, sp_j_every, sp_j_undone, sp_at, sp_lengths, sp_ends, sp_word, sp_shut, sp_no, sp_gr]); try simp only [rdAll, rdI, V.int.injEq, V.ref.injEq, eqQ_int, eqQ_bl, eqQ_str, eqQ_ref, eqQ_nn, eqQ_ni, eqQ_in, eqQ_is, eqQ_si, L2.start, List.map_cons, List.map_nil, List.cons_append, List.nil_append, List.append_nil, List.length_cons, List.length_nil, List.replicate, List.getElem?_cons_zero, List.getElem?_cons_succ, List.set_cons_zero, List.set_cons_succ, Nat.reduceSub, Nat.reduceAdd, Int.reduceLT, Int.reduceLE, Int.reducePow, Int.reduceNeg, Nat.reducePow, List.cons.injEq, exists_eq_left', exists_eq_left, eq_self, if_false, if_true, ↓reduceIte, ite_not, forall_const, Option.join, Option.bind_some, id_eq])
      rw [show decide ((vs.length : Int) = ws.length) = true from by simp [lv, lw]]
      exact k _ _ (by simp) J2 k2 n2'
  obtain ⟨u6, hu6, c6⟩ := c6
  have c3 : ∃ v, PSs (cxOf (XE P w) P w K mg base ["_law_journal", "_law_own_rows", "_law_cell", "_law_more", "_law_rows", "_law_undoes", "_law_free", "_law_due", "_law_handed", "_law_found"] "_law_put" (defScope s__law_put) a.f__law_put cdv A outer s H E) (List.drop 3 (defBody s__law_put)) v ∧ ∀ R rs H1, Same H H1 → NoT H1 → H1 R = some (.lst rs) → rs.length ≤ 10 → (∀ x ∈ rs, ∃ r, x = .ref r) → v { nx := fun _ H' => Q .non H', rt := fun v H' => Q v H' } [some (.ref p), some (.ref m), some (.int c), some (.int r), some (.ref R), some .non, none, none, none, none] H1 := by
    refine ⟨_, (pss_cons (ps_setC (i0 := 6) ND rfl (Or.inl rfl) rfl (cl := _) (fr := []) (ks := []) (by exact ⟨rfl, by decide +kernel, rfl, by decide +kernel, rfl, keys_of rfl, rfl, kinds_of rfl, kinds_of (k := fun y => List.lookup y _) rfl, only_of rfl⟩) rfl (by decide) (fi_listK K (fv 1)) (fun _ _ _ _ _ => (pts_one (ft_is (pc_isN (pe_ix (fx_seqK K) (fv 0) pe_int (fun _ _ => rfl)))))) (fun _ _ _ _ _ => (pe_ix (fx_seqK K) (fv 0) pe_int (fun _ _ => rfl))))
      (pss_cons (ps_setC (i0 := 6) ND rfl (Or.inl rfl) rfl (cl := _) (fr := ["_law_own_rows"]) (ks := [1]) (by exact ⟨rfl, by decide +kernel, rfl, by decide +kernel, rfl, keys_of rfl, rfl, kinds_of rfl, kinds_of (k := fun y => List.lookup y _) rfl, only_of rfl⟩) rfl (by decide) (fi_listK K (fv 6)) (fun _ _ _ _ _ => (pts_one (pt_gc (ft_cmp (fo_notinL K) (fv 0) (pe_comp rfl (cl := _) (fr := []) (ks := []) (by exact ⟨rfl, by decide +kernel, rfl, by decide +kernel, rfl, keys_of rfl, rfl, kinds_of rfl, kinds_of (k := fun y => List.lookup y _) rfl, only_of rfl⟩) rfl (by decide) (fi_listK K (fv 1)) (fun _ _ _ _ _ => pts_nil) (fun _ _ _ _ _ => (pe_ix (fx_seqK K) (fv 0) pe_int (fun _ _ => rfl)))) (by with_unfolding_all rfl))))) (fun _ _ _ _ _ => (fv 0)))
      (pss_cons (ps_if (pt_gc (L2.PW.pt (pw_and (ft_cmp (fo_eqQ K HU) (pe_op fo_mod (pe_op fo_fdiv (fv 2) pe_int) pe_int) pe_int (nomark _)) (pw_and1 (ft_cmp (fo_neQ K HU) (fv 6) (pe_lst (FA.pa fa_nil)) (nomark _)))))) (pss_one (ps_set (i := 5) ND rfl (Or.inl rfl) (pe_ix (fx_seqK K) (fv 6) (pe_op fo_mod (fv 3) (pe_callB (fc_lenK K) rfl T.z_len bb_len (FA.pa (fa_cons (fv 6) fa_nil)))) (fun _ _ => rfl)))) pss_nil)
      hu6))), fun R rs H1 sm nT hR lr rr => ?_⟩
    ((try dsimp only [sp_is_whole, sp_start, sp_first_day, sp_last_day, sp5, sp_g_init, sp_g_closed, sp_g_lets, sp_g_need, sp_g_shut, sp_j_init, sp_j_put, sp_j_many, sp_j_booking, sp_j_every, sp_j_undone, sp_at, sp_lengths, sp_ends, sp_word, sp_shut, sp_no, sp_gr]); try simp only [rdAll, rdI, V.int.injEq, V.ref.injEq, eqQ_int, eqQ_bl, eqQ_str, eqQ_ref, eqQ_nn, eqQ_ni, eqQ_in, eqQ_is, eqQ_si, L2.start, List.map_cons, List.map_nil, List.cons_append, List.nil_append, List.append_nil, List.length_cons, List.length_nil, List.replicate, List.getElem?_cons_zero, List.getElem?_cons_succ, List.set_cons_zero, List.set_cons_succ, Nat.reduceSub, Nat.reduceAdd, Int.reduceLT, Int.reduceLE, Int.reducePow, Int.reduceNeg, Nat.reducePow, List.cons.injEq, exists_eq_left', exists_eq_left, eq_self, if_false, if_true, ↓reduceIte, ite_not, forall_const, Option.join, Option.bind_some, id_eq])
    have RW1 : RAt H1 ws bks := RW.keep (S := []) (Keep.same sm) (fun s z => nomatch z)
    have hm1 := sm _ _ hm
    have lw : ws.length ≤ 50 := by rw [RW.len]; exact l1
    have sz : 1000 ≤ sizeLine := by rw [sizeLine_eq]; decide
    have item : ∀ x ∈ ws, ∀ H2, Same H1 H2 → ∃ (q : Addr) (i : Nat) (l : List V), x = .ref q ∧ H2 q = some (.tup l) ∧ i < bks.length ∧ l[0]? = some (.int i) ∧ prj H1 0 x = .int i ∧ l[4]? = some (prj H1 4 x) ∧ ∃ o, prj H1 4 x = cl o := fun x hx H2 s2 => by
      obtain ⟨i, b, _, _, hi, q, t, rfl, e1, _⟩ := RW1.mem hx
      exact ⟨q, i, _, rfl, s2 _ _ e1, hi, rfl, by simp [prj, e1], by simp [prj, e1], b.o, by simp [prj, e1]⟩
    refine comp_lst m ws (fun H2 => Same H1 H2) (fun D' ys hD' => same_upd _ hD') (fun H2 c => .inl (.inl (c _ _ hm1))) (fun x => decide (prj H1 4 x = .non)) (fun x => prj H1 0 x) (fun R r => r) (.inl (.inl hm1)) (by omega) (fun x hx H2 R cc r => ?_) (fun x hx _ H2 R cc r => ?_) (fun F1 hF1 => ?_)
    · obtain ⟨q, i, l, rfl, e, hi, e0, e0', e4, o, eo⟩ := item x hx H2 cc
      ((try dsimp only [sp_is_whole, sp_start, sp_first_day, sp_last_day, sp5, sp_g_init, sp_g_closed, sp_g_lets, sp_g_need, sp_g_shut, sp_j_init, sp_j_put, sp_j_many, sp_j_booking, sp_j_every, sp_j_undone, sp_at, sp_lengths, sp_ends, sp_word, sp_shut, sp_no, sp_gr]); try simp only [rdAll, rdI, V.int.injEq, V.ref.injEq, eqQ_int, eqQ_bl, eqQ_str, eqQ_ref, eqQ_nn, eqQ_ni, eqQ_in, eqQ_is, eqQ_si, L2.start, List.map_cons, List.map_nil, List.cons_append, List.nil_append, List.append_nil, List.length_cons, List.length_nil, List.replicate, List.getElem?_cons_zero, List.getElem?_cons_succ, List.set_cons_zero, List.set_cons_succ, Nat.reduceSub, Nat.reduceAdd, Int.reduceLT, Int.reduceLE, Int.reducePow, Int.reduceNeg, Nat.reducePow, List.cons.injEq, exists_eq_left', exists_eq_left, eq_self, if_false, if_true, ↓reduceIte, ite_not, forall_const, Option.join, Option.bind_some, id_eq])
      refine ⟨l, _, .inr (.inl (.inl e)), atI_nat (j := 4) e4, ?_⟩
      exact r
    · obtain ⟨q, i, l, rfl, e, hi, e0, e0', e4, o, eo⟩ := item x hx H2 cc
      rw [e0'] at r
      ((try dsimp only [sp_is_whole, sp_start, sp_first_day, sp_last_day, sp5, sp_g_init, sp_g_closed, sp_g_lets, sp_g_need, sp_g_shut, sp_j_init, sp_j_put, sp_j_many, sp_j_booking, sp_j_every, sp_j_undone, sp_at, sp_lengths, sp_ends, sp_word, sp_shut, sp_no, sp_gr]); try simp only [rdAll, rdI, V.int.injEq, V.ref.injEq, eqQ_int, eqQ_bl, eqQ_str, eqQ_ref, eqQ_nn, eqQ_ni, eqQ_in, eqQ_is, eqQ_si, L2.start, List.map_cons, List.map_nil, List.cons_append, List.nil_append, List.append_nil, List.length_cons, List.length_nil, List.replicate, List.getElem?_cons_zero, List.getElem?_cons_succ, List.set_cons_zero, List.set_cons_succ, Nat.reduceSub, Nat.reduceAdd, Int.reduceLT, Int.reduceLE, Int.reducePow, Int.reduceNeg, Nat.reducePow, List.cons.injEq, exists_eq_left', exists_eq_left, eq_self, if_false, if_true, ↓reduceIte, ite_not, forall_const, Option.join, Option.bind_some, id_eq])
      exact ⟨l, _, .inr (.inl (.inl e)), atI_nat (j := 0) e0, r⟩
    have sF := same_upd (HO.lst ((ws.filter fun x => decide (prj H1 4 x = .non)).map fun x => prj H1 0 x)) hF1
    have fre : ∀ x ∈ (ws.filter fun x => decide (prj H1 4 x = .non)).map (fun x => prj H1 0 x), ∃ i : Nat, x = .int i ∧ i < bks.length := fun x hx => by
      obtain ⟨y, hy, rfl⟩ := List.mem_map.mp hx
      obtain ⟨q, i, l, rfl, e, hi, e0, e0', e4, o, eo⟩ := item y (List.mem_filter.mp hy).1 H1 (Same.refl _)
      exact ⟨i, e0', hi⟩
    have lf : ((ws.filter fun x => decide (prj H1 4 x = .non)).map fun x => prj H1 0 x).length ≤ 50 := by
      rw [List.length_map]; exact Nat.le_trans (List.length_filter_le _ _) lw
    generalize ((ws.filter fun x => decide (prj H1 4 x = .non)).map fun x => prj H1 0 x) = f1 at *
    have nF : NoT (upd H1 F1 (.lst f1)) := noT_upd nT rfl
    have aF : upd H1 F1 (.lst f1) F1 = some (.lst f1) := upd_same
    generalize upd H1 F1 (.lst f1) = H3 at *
    refine comp_lst F1 f1 (fun H2 => Same H3 H2 ∧ NoT H2) (fun D' ys hD' => ⟨same_upd _ hD', noT_upd nF rfl⟩) (fun H2 c => .inl (.inl (c.1 _ _ aF))) (fun x => !inV x (bks.map fun b => cl b.o)) (fun x => x) (fun R r => r) (.inl (.inl aF)) (by omega) (fun x hx H2 R cc r => ?_) (fun x hx _ H2 R cc r => ?_) (fun F2 hF2 => ?_)
    · obtain ⟨i, rfl, hi⟩ := fre x hx
      ((try dsimp only [sp_is_whole, sp_start, sp_first_day, sp_last_day, sp5, sp_g_init, sp_g_closed, sp_g_lets, sp_g_need, sp_g_shut, sp_j_init, sp_j_put, sp_j_many, sp_j_booking, sp_j_every, sp_j_undone, sp_at, sp_lengths, sp_ends, sp_word, sp_shut, sp_no, sp_gr]); try simp only [rdAll, rdI, V.int.injEq, V.ref.injEq, eqQ_int, eqQ_bl, eqQ_str, eqQ_ref, eqQ_nn, eqQ_ni, eqQ_in, eqQ_is, eqQ_si, L2.start, List.map_cons, List.map_nil, List.cons_append, List.nil_append, List.append_nil, List.length_cons, List.length_nil, List.replicate, List.getElem?_cons_zero, List.getElem?_cons_succ, List.set_cons_zero, List.set_cons_succ, Nat.reduceSub, Nat.reduceAdd, Int.reduceLT, Int.reduceLE, Int.reducePow, Int.reduceNeg, Nat.reducePow, List.cons.injEq, exists_eq_left', exists_eq_left, eq_self, if_false, if_true, ↓reduceIte, ite_not, forall_const, Option.join, Option.bind_some, id_eq])
      refine ⟨cc.2, ?_⟩
      refine comp_lst m ws (fun H4 => Same H2 H4) (fun D' ys hD' => same_upd _ hD') (fun H4 c4 => .inl (.inl (c4 _ _ (cc.1 _ _ (sF _ _ hm1))))) (fun _ => true) (fun x => prj H1 4 x) (fun R r => r) (.inl (.inl (cc.1 _ _ (sF _ _ hm1)))) (by omega) (fun x hx H2 R cc r => r) (fun x hx' _ H4 R c4 r => ?_) (fun F4 hF4 => ?_)
      · obtain ⟨q, i, l, rfl, e, hi, e0, e0', e4, o, eo⟩ := item x hx' H4 ((sF.trans cc.1).trans c4)
        ((try dsimp only [sp_is_whole, sp_start, sp_first_day, sp_last_day, sp5, sp_g_init, sp_g_closed, sp_g_lets, sp_g_need, sp_g_shut, sp_j_init, sp_j_put, sp_j_many, sp_j_booking, sp_j_every, sp_j_undone, sp_at, sp_lengths, sp_ends, sp_word, sp_shut, sp_no, sp_gr]); try simp only [rdAll, rdI, V.int.injEq, V.ref.injEq, eqQ_int, eqQ_bl, eqQ_str, eqQ_ref, eqQ_nn, eqQ_ni, eqQ_in, eqQ_is, eqQ_si, L2.start, List.map_cons, List.map_nil, List.cons_append, List.nil_append, List.append_nil, List.length_cons, List.length_nil, List.replicate, List.getElem?_cons_zero, List.getElem?_cons_succ, List.set_cons_zero, List.set_cons_succ, Nat.reduceSub, Nat.reduceAdd, Int.reduceLT, Int.reduceLE, Int.reducePow, Int.reduceNeg, Nat.reducePow, List.cons.injEq, exists_eq_left', exists_eq_left, eq_self, if_false, if_true, ↓reduceIte, ite_not, forall_const, Option.join, Option.bind_some, id_eq])
        exact ⟨l, _, .inr (.inl (.inl e)), atI_nat (j := 4) e4, r⟩
      · rw [List.filter_eq_self.2 (fun _ _ => rfl), RW1.prj4]
        exact ⟨_, .inl (.inl (.inl upd_same)), rfl, by simp [cl_flat], H2, Gc.none (same_upd _ hF4), by rw [Bool.true_xor]; exact r⟩
    · ((try dsimp only [sp_is_whole, sp_start, sp_first_day, sp_last_day, sp5, sp_g_init, sp_g_closed, sp_g_lets, sp_g_need, sp_g_shut, sp_j_init, sp_j_put, sp_j_many, sp_j_booking, sp_j_every, sp_j_undone, sp_at, sp_lengths, sp_ends, sp_word, sp_shut, sp_no, sp_gr]); try simp only [rdAll, rdI, V.int.injEq, V.ref.injEq, eqQ_int, eqQ_bl, eqQ_str, eqQ_ref, eqQ_nn, eqQ_ni, eqQ_in, eqQ_is, eqQ_si, L2.start, List.map_cons, List.map_nil, List.cons_append, List.nil_append, List.append_nil, List.length_cons, List.length_nil, List.replicate, List.getElem?_cons_zero, List.getElem?_cons_succ, List.set_cons_zero, List.set_cons_succ, Nat.reduceSub, Nat.reduceAdd, Int.reduceLT, Int.reduceLE, Int.reducePow, Int.reduceNeg, Nat.reducePow, List.cons.injEq, exists_eq_left', exists_eq_left, eq_self, if_false, if_true, ↓reduceIte, ite_not, forall_const, Option.join, Option.bind_some, id_eq])
      exact r
    have f2 : ∀ x ∈ (f1.filter fun x => !inV x (bks.map fun b => cl b.o)).map (fun x => x), ∃ i : Nat, x = .int i ∧ i < bks.length ∧ (i : Int) ∉ bks.filterMap (·.o) := fun x hx => by
      rw [List.map_id'] at hx
      obtain ⟨h1, h2⟩ := List.mem_filter.mp hx
      obtain ⟨i, rfl, hi⟩ := fre x h1
      exact ⟨i, rfl, hi, in_und (by simpa using h2)⟩
    have lf2 : ((f1.filter fun x => !inV x (bks.map fun b => cl b.o)).map fun x => x).length ≤ 50 := by
      rw [List.length_map]; exact Nat.le_trans (List.length_filter_le _ _) lf
    generalize ((f1.filter fun x => !inV x (bks.map fun b => cl b.o)).map fun x => x) = fs at *
    have sF2 := same_upd (HO.lst fs) hF2
    have nF2 : NoT (upd H3 F2 (.lst fs)) := noT_upd nF rfl
    have aF2 : upd H3 F2 (.lst fs) F2 = some (.lst fs) := upd_same
    generalize upd H3 F2 (.lst fs) = H5 at *
    have s5 := (sF.trans sF2)
    refine ⟨nF2, ?_⟩
    have nonC : u6 { nx := fun _ H' => Q .non H', rt := fun v H' => Q v H' } [some (.ref p), some (.ref m), some (.int c), some (.int r), some (.ref R), some .non, some (.ref F2), none, none, none] H5 :=
      c6 none R rs _ H5 (sm.trans s5) nF2 (s5 _ _ hR) lr rr (fun i h => nomatch h)
    split
    · refine ⟨Nat.zero_le _, fun q hq => ?_⟩
      ((try dsimp only [sp_is_whole, sp_start, sp_first_day, sp_last_day, sp5, sp_g_init, sp_g_closed, sp_g_lets, sp_g_need, sp_g_shut, sp_j_init, sp_j_put, sp_j_many, sp_j_booking, sp_j_every, sp_j_undone, sp_at, sp_lengths, sp_ends, sp_word, sp_shut, sp_no, sp_gr]); try simp only [rdAll, rdI, V.int.injEq, V.ref.injEq, eqQ_int, eqQ_bl, eqQ_str, eqQ_ref, eqQ_nn, eqQ_ni, eqQ_in, eqQ_is, eqQ_si, L2.start, List.map_cons, List.map_nil, List.cons_append, List.nil_append, List.append_nil, List.length_cons, List.length_nil, List.replicate, List.getElem?_cons_zero, List.getElem?_cons_succ, List.set_cons_zero, List.set_cons_succ, Nat.reduceSub, Nat.reduceAdd, Int.reduceLT, Int.reduceLE, Int.reducePow, Int.reduceNeg, Nat.reducePow, List.cons.injEq, exists_eq_left', exists_eq_left, eq_self, if_false, if_true, ↓reduceIte, ite_not, forall_const, Option.join, Option.bind_some, id_eq])
      refine ⟨_, eqR_nil (.inl (.inl ((upd_ne (ne_of_none aF2 hq)).trans aF2))) (.inl (.inl upd_same)), ?_⟩
      refine ⟨H5, Gc.none (same_upd _ hq), ?_⟩
      cases hfs : fs.isEmpty with
      | true => exact ite10 nonC
      | false =>
        have pos : 0 < fs.length := by
          cases fs with
          | nil => cases hfs
          | cons _ _ => simp
        obtain ⟨v, hv, ev⟩ := atI_pos (xs := fs) (i := r % (fs.length : Int)) (Int.emod_nonneg _ (by omega)) (Int.emod_lt_of_pos _ (by omega))
        obtain ⟨i, rfl, hi, hn⟩ := f2 v hv
        refine ite00 ⟨_, .inl (.inl (.inl aF2)), by omega, _, _, .inl (.inl (.inl aF2)), ev, ?_⟩
        exact c6 (some i) R rs _ H5 (sm.trans s5) nF2 (s5 _ _ hR) lr rr (fun j h => by cases h; exact ⟨by omega, hn⟩)
    · exact nonC
  obtain ⟨u3, hu3, c3⟩ := c3
  refine ⟨_, (pss_cons (ps_set (i := 4) ND rfl (Or.inl rfl) (pe_lst (FA.pa (fa_cons (pe_tup (FA.pa (fa_cons (pe_strT [97]) (fa_cons (pe_strT [75, 76, 77]) (fa_cons (pe_op fo_add pe_int (pe_op fo_mod (fv 3) pe_int)) fa_nil))))) (fa_cons (pe_tup (FA.pa (fa_cons (pe_strT [98, 58, 99]) (fa_cons (pe_strT [75, 76, 77]) (fa_cons (pe_op fo_sub (pe_op fo_sub pe_int pe_int) (pe_op fo_mod (fv 3) (pe_op fo_pow pe_int pe_int))) fa_nil))))) fa_nil)))))
      (pss_cons (ps_set (i := 4) ND rfl (Or.inl rfl) (pe_op fo_cat (fv 4) (pe_slice (fs_listK K) (pe_lst (FA.pa (fa_cons (pe_tup (FA.pa (fa_cons (pe_strT [97]) (fa_cons (pe_strT [88, 89, 90]) (fa_cons (pe_op fo_add pe_int (pe_op fo_mod (fv 3) (pe_op fo_pow pe_int pe_int))) fa_nil))))) fa_nil))) po_none (po_some (pe_op fo_mod (fv 2) pe_int)))))
      (pss_cons (ps_set (i := 5) ND rfl (Or.inl rfl) pe_non)
      hu3))), ?_⟩
  ((try dsimp only [sp_is_whole, sp_start, sp_first_day, sp_last_day, sp5, sp_g_init, sp_g_closed, sp_g_lets, sp_g_need, sp_g_shut, sp_j_init, sp_j_put, sp_j_many, sp_j_booking, sp_j_every, sp_j_undone, sp_at, sp_lengths, sp_ends, sp_word, sp_shut, sp_no, sp_gr]); try simp only [rdAll, rdI, V.int.injEq, V.ref.injEq, eqQ_int, eqQ_bl, eqQ_str, eqQ_ref, eqQ_nn, eqQ_ni, eqQ_in, eqQ_is, eqQ_si, L2.start, List.map_cons, List.map_nil, List.cons_append, List.nil_append, List.append_nil, List.length_cons, List.length_nil, List.replicate, List.getElem?_cons_zero, List.getElem?_cons_succ, List.set_cons_zero, List.set_cons_succ, Nat.reduceSub, Nat.reduceAdd, Int.reduceLT, Int.reduceLE, Int.reducePow, Int.reduceNeg, Nat.reducePow, List.cons.injEq, exists_eq_left', exists_eq_left, eq_self, if_false, if_true, ↓reduceIte, ite_not, forall_const, Option.join, Option.bind_some, id_eq])
  have sz : 1000 ≤ sizeLine := by rw [sizeLine_eq]; decide
  have ten : Int.natAbs 10 < 18446744073709551616 := by decide
  have tw : (0 : Int) < 10 ^ Int.toNat 15 := by decide
  refine ⟨by omega, fun r1 hr1 => ⟨ten, tw, by omega, fun r2 hr2 => ⟨by omega, fun r3 hr3 => ⟨ten, tw, by omega, fun r4 hr4 => ⟨by omega, fun r5 hr5 => ?_⟩⟩⟩⟩⟩
  obtain ⟨H1, e1, t1, a1, n1⟩ := alloc (o := HO.tup [L2.T [97], L2.T [75, 76, 77], V.int (1 + r % 9)]) hr1 hN rfl
  rw [e1] at hr2 hr3 hr4 hr5 ⊢
  obtain ⟨H2, e2, t2, a2, n2⟩ := alloc (o := HO.tup [L2.T [98, 58, 99], L2.T [75, 76, 77], V.int (0 - 1 - r % 10 ^ Int.toNat 15)]) hr2 n1 rfl
  rw [e2] at hr3 hr4 hr5 ⊢
  obtain ⟨H3, e3, t3, a3, n3⟩ := alloc (o := HO.lst [V.ref r1, V.ref r2]) hr3 n2 rfl
  rw [e3] at hr4 hr5 ⊢
  obtain ⟨H4, e4, t4, a4, n4⟩ := alloc (o := HO.tup [L2.T [97], L2.T [88, 89, 90], V.int (1 + r % 10 ^ Int.toNat 15)]) hr4 n3 rfl
  rw [e4] at hr5 ⊢
  obtain ⟨H5, e5, t5, a5, n5⟩ := alloc (o := HO.lst [V.ref r4]) hr5 n4 rfl
  rw [e5]
  refine ⟨r5, _, rfl, .inl (.inl a5), fun r6 hr6 => ?_⟩
  rw [cut_take _ (Int.emod_nonneg _ (by decide))]
  obtain ⟨H6, e6, t6, a6, n6⟩ := alloc (o := HO.lst (List.take (c % 2).toNat [V.ref r4])) hr6 n5 rfl
  rw [show upd H5 r6 _ = H6 from e6]
  ((try dsimp only [sp_is_whole, sp_start, sp_first_day, sp_last_day, sp5, sp_g_init, sp_g_closed, sp_g_lets, sp_g_need, sp_g_shut, sp_j_init, sp_j_put, sp_j_many, sp_j_booking, sp_j_every, sp_j_undone, sp_at, sp_lengths, sp_ends, sp_word, sp_shut, sp_no, sp_gr]); try simp only [rdAll, rdI, V.int.injEq, V.ref.injEq, eqQ_int, eqQ_bl, eqQ_str, eqQ_ref, eqQ_nn, eqQ_ni, eqQ_in, eqQ_is, eqQ_si, L2.start, List.map_cons, List.map_nil, List.cons_append, List.nil_append, List.append_nil, List.length_cons, List.length_nil, List.replicate, List.getElem?_cons_zero, List.getElem?_cons_succ, List.set_cons_zero, List.set_cons_succ, Nat.reduceSub, Nat.reduceAdd, Int.reduceLT, Int.reduceLE, Int.reducePow, Int.reduceNeg, Nat.reducePow, List.cons.injEq, exists_eq_left', exists_eq_left, eq_self, if_false, if_true, ↓reduceIte, ite_not, forall_const, Option.join, Option.bind_some, id_eq])
  have lt1 : (List.take (c % 2).toNat [V.ref r4]).length ≤ 1 := by rw [List.length_take]; exact Nat.min_le_right _ _
  refine ⟨_, _, ((t4.trans t5).trans t6) _ _ a3, a6, by simp only [List.length_cons, List.length_nil]; omega, fun r7 hr7 => ?_⟩
  refine c3 r7 _ _ ((((((t1.trans t2).trans t3).trans t4).trans t5).trans t6).trans (same_upd _ hr7)) (noT_upd n6 rfl) upd_same ?_ ?_
  · rw [List.length_append]; simp only [List.length_cons, List.length_nil]; omega
  · intro x hx
    rcases List.mem_append.mp hx with h | h
    · simp at h; rcases h with rfl | rfl <;> exact ⟨_, rfl⟩
    · have := List.mem_of_mem_take h; simp at this; exact ⟨_, this⟩
end
end K13
set_option Elab.async false
set_option linter.all false
set_option maxRecDepth 100000
set_option maxHeartbeats 400000
namespace K13
open PySem L2
seal L2.PE L2.PT L2.PW L2.PA L2.PS L2.PSs L2.PI L2.PG L2.PGs L2.PO
section
variable {pS : Addr} {ns : List Int} {P : Program} {w : World} {K : PySem.W.Frag} {mg : Str → Option Value} {base : Heap} {a : Adr}
open K3
structure ShOk (A : List Addr) (H : Hp) (s : Addr) (qs : List V) : Prop where
  ls : H s = some (.lst qs)
  it : ∀ x ∈ qs, ∃ q f c xs, x = .ref q ∧ H q = some (.tup [.ref f, .ref c]) ∧ H f = some (.lst xs) ∧ H c = some (.lst xs) ∧ f ∉ A ∧ c ∉ A ∧ xs.length ≤ 100 ∧ ∀ y ∈ xs, flatV y = true ∨ ∃ r, y = .ref r
theorem ShOk.keep {A S : List Addr} {H H' : Hp} {s : Addr} {qs : List V} (h : ShOk A H s qs) (x : Keep S H H') (hs : s ∉ S) (hA : ∀ y ∈ S, y ∈ A) (hS : ∀ s ∈ S, ∀ l, H s ≠ some (.tup l)) : ShOk A H' s qs :=
  ⟨x _ _ h.ls hs, fun y hy => by
    obtain ⟨q, f, c, xs, e, h1, h2, h3, h4, h5, h6, h7⟩ := h.it y hy
    exact ⟨q, f, c, xs, e, x _ _ h1 (fun z => hS _ z _ h1), x _ _ h2 (fun z => h4 (hA _ z)), x _ _ h3 (fun z => h5 (hA _ z)), h4, h5, h6, h7⟩⟩
theorem all_t {n : Nat} : ((List.range n).all fun _ => true) = true := List.all_eq_true.mpr fun _ _ => rfl
theorem BAt.eq {H : Hp} {v v' : V} {k : Nat} {b : Bk} (h : BAt H v k b) (h' : BAt H v' k b) (rf : ∀ x ∈ b.rs, ∃ r, x = .ref r) : EqH K H 50 v v' true := by
  obtain ⟨q, t, rfl, h1, h2⟩ := h
  obtain ⟨q', t', rfl, h1', h2'⟩ := h'
  by_cases e : q = q'
  · subst e; exact .same
  · have rows : EqH K H 49 (.ref t) (.ref t') true := by
      by_cases e : t = t'
      · subst e; exact .same
      · have h := EqH.tup (K := K) (H := H) (n := 48) (e := fun _ => true) e (.inl (.inl h2)) (.inl (.inl h2')) fun j x y gx gy => by
          rw [gx] at gy; cases gy
          obtain ⟨r, rfl⟩ := rf x (List.mem_of_getElem? gx)
          exact .same
        simpa only [Nat.min_self, all_t, beq_self_eq_true, Bool.and_true] using h
    have fl : ∀ x : V, flatV x = true → eqV x x = true → EqH K H 49 x x true := fun x f e => by have := EqH.flat (K := K) (H := H) (n := 49) f f; rwa [e] at this
    have h := EqH.tup (K := K) (H := H) (n := 49) (e := fun _ => true) e (.inl (.inl h1)) (.inl (.inl h1')) fun j x y gx gy => by
      rcases j with _ | _ | _ | _ | _ | j
      · cases gx; cases gy; exact fl _ rfl (by simp [eqV])
      · cases gx; cases gy; exact fl _ rfl (by simp [eqV])
      · cases gx; cases gy; exact fl _ rfl (by simp [eqV, L2.T])
      · cases gx; cases gy; exact rows
      · cases gx; cases gy
        cases b.o with
        | none => exact fl _ rfl rfl
        | some i => exact fl _ rfl (by simp [eqV, cl])
      · simp at gx
    simpa only [List.length_cons, List.length_nil, Nat.min_self, all_t, beq_self_eq_true, Bool.and_true] using h
theorem RAt.eq {H : Hp} {p q : Addr} {vs ws : List V} {bs : List Bk} (hp : H p = some (.lst vs)) (hq : H q = some (.lst ws)) (h : RAt H vs bs) (h' : RAt H ws bs) (rf : ∀ b ∈ bs, ∀ x ∈ b.rs, ∃ r, x = .ref r) : EqR K H p q true := by
  have e := EqR.lst (K := K) (H := H) (e := fun _ => true) (.inl (.inl hp)) (.inl (.inl hq)) (by rw [h.len, h'.len]) fun j x y gx gy => by
    have hj : j < bs.length := by
      rw [← h.len]
      exact (List.getElem?_eq_some_iff.mp gx).1
    have gb := List.getElem?_eq_getElem hj
    exact (h.it j x _ gx gb).eq (h'.it j y _ gy gb) (rf _ (List.getElem_mem hj))
  rwa [all_t] at e
def sp_all (C : Addr) : Sp := sp4 fun x y z v H Q _ => NoT H ∧ asR x fun p => asR y fun m => asR z fun s => asI v fun _ => ∃ b u bks qs, ∃ A : List Addr, JS C H p b u m bks ∧ bks.length ≤ 50 ∧ ShOk A H s qs ∧ qs.length ≤ 5000 ∧ s ≠ b ∧ s ≠ m ∧ s ∈ A ∧ (∀ x ∈ A, ∃ o, H x = some o) ∧
  ∀ qs' H', qs'.length ≤ qs.length + 10 → ShOk A H' s qs' → Keep [s] H H' → NoT H' → Q (.bl true) H'
theorem ok__law_all_right (T : Txt K mg a) : FnOk P w K mg base (XE P w) 8 a.f__law_all_right a.fd__law_all_right ["_law_journal", "_law_own_rows", "_law_shown", "_law_cell"] (sp_all a.c_Journal) := by
  refine T.F__law_all_right.okX sc__law_all_right (fun vs H Q E h => sp4.len h) (fun cdv A outer s H vs Q E hr h => ?_)
  obtain ⟨x0, x1, x2, x3, rfl, h⟩ := sp4.inv h
  have ND := sc__law_all_right.nd
  have PX : Passes' (XE P w) (cxOf (XE P w) P w K mg base ["_law_journal", "_law_own_rows", "_law_shown", "_law_cell", "_law_way", "_law_found"] "_law_all_right" (defScope s__law_all_right) a.f__law_all_right cdv A outer s H E) (fun _ => E) := passB
  have RX : Raises (cxOf (XE P w) P w K mg base ["_law_journal", "_law_own_rows", "_law_shown", "_law_cell", "_law_way", "_law_found"] "_law_all_right" (defScope s__law_all_right) a.f__law_all_right cdv A outer s H E) (fun _ => E) := raisesB
  have HU : (cxOf (XE P w) P w K mg base ["_law_journal", "_law_own_rows", "_law_shown", "_law_cell", "_law_way", "_law_found"] "_law_all_right" (defScope s__law_all_right) a.f__law_all_right cdv A outer s H E).A.units + 100 < cLine := units100 hr
  have PW : PassesOwn (model P w) (cxOf (XE P w) P w K mg base ["_law_journal", "_law_own_rows", "_law_shown", "_law_cell", "_law_way", "_law_found"] "_law_all_right" (defScope s__law_all_right) a.f__law_all_right cdv A outer s H E).A (cxOf (XE P w) P w K mg base ["_law_journal", "_law_own_rows", "_law_shown", "_law_cell", "_law_way", "_law_found"] "_law_all_right" (defScope s__law_all_right) a.f__law_all_right cdv A outer s H E).env (cxOf (XE P w) P w K mg base ["_law_journal", "_law_own_rows", "_law_shown", "_law_cell", "_law_way", "_law_found"] "_law_all_right" (defScope s__law_all_right) a.f__law_all_right cdv A outer s H E).xe := by passes_own
  obtain ⟨hN, h1⟩ := h
  obtain ⟨p, rfl, h2⟩ := asR.inv h1
  obtain ⟨m, rfl, h3⟩ := asR.inv h2
  obtain ⟨s', rfl, h4⟩ := asR.inv h3
  obtain ⟨c, rfl, b, u, bks, qs, AL, J, l1, S, l2, sb, sm', sAL, al, k⟩ := asI.inv h4
  have G_Journal_every := ok_Journal_every (P := P) (w := w) (base := base) T
  have b_Journal_every := bn_Journal_every T.F_Journal_every
  have G__law_whole := ok__law_whole (P := P) (w := w) (base := base) T
  have b__law_whole := bn__law_whole T.F__law_whole
  have G_Journal_many := ok_Journal_many (P := P) (w := w) (base := base) T
  have b_Journal_many := bn_Journal_many T.F_Journal_many
  refine ⟨_, (pss_cons (ps_for PW rfl (fi_tupK K (fe_pickL (FA.pa (fa_cons (pe_tup (FA.pa (fa_cons pe_int (fa_cons pe_int fa_nil)))) (fa_cons (pe_tup (FA.pa (fa_cons pe_int (fa_cons pe_int fa_nil)))) fa_nil))) (pe_op fo_mod (fv 3) pe_int) (fun _ _ => rfl))) (pg_name (i := 4) ND rfl (Or.inl rfl)) (pss_cons (ps_if (L2.PW.pt (pw_and (ft_cmp (fo_eqQ K HU) (fv 4) pe_int (nomark _)) (pw_and1 (L2.PW.pt (pw_or (pt_not (ft_val (pe_callX G__law_whole (hr.mono (by decide)) rfl T.m__law_whole T.F__law_whole.kp b__law_whole .nil PX (FA.pa (fa_cons (pe_methX0 (fv 0) T.cl_Journal T.mt_Journal_many G_Journal_many (hr.mono (by decide)) b_Journal_many .nil PX) fa_nil))))) (pw_or1 (ft_cmp (fo_neQ K HU) (pe_methX0 (fv 0) T.cl_Journal T.mt_Journal_many G_Journal_many (hr.mono (by decide)) b_Journal_many .nil PX) (pe_callB (fc_lenK K) rfl T.z_len bb_len (FA.pa (fa_cons (fv 1) fa_nil))) (nomark _)))))))) (pss_one (ps_ret pe_bl)) pss_nil)
      (pss_one (ps_if (ft_cmp (fo_eqQ K HU) (fv 4) pe_int (nomark _)) (pss_cons (ps_set (i := 5) ND rfl (Or.inl rfl) (pe_methX0 (fv 0) T.cl_Journal T.mt_Journal_every G_Journal_every (hr.mono (by decide)) b_Journal_every .nil PX))
      (pss_cons (ps_if (L2.PW.pt (pw_or (pt_not (ft_val (pe_callB (fc_isiK K) rfl T.z_isinstance bb_isinstance (FA.pa (fa_cons (fv 5) (fa_cons (pe_bltn (v := .ty "list") rfl T.z_list bb_list rfl) fa_nil)))))) (pw_or1 (ft_cmp (fo_neQ K HU) (fv 5) (fv 1) (nomark _))))) (pss_one (ps_ret pe_bl)) pss_nil)
      (pss_cons (ps_expr (pe_bmK K PySem.F.plainAttrs_list PySem.F.slot_list_append PySem.F.type_list_append mt_append (fv 5) (FA.pa (fa_cons pe_non fa_nil))))
      (pss_one (ps_expr (pe_bmK K PySem.F.plainAttrs_list PySem.F.slot_list_append PySem.F.type_list_append mt_append (fv 2) (FA.pa (fa_cons (pe_tup (FA.pa (fa_cons (fv 5) (fa_cons (pe_callTy (fc_list K) rfl T.z_list bb_list (FA.pa (fa_cons (fv 5) fa_nil))) fa_nil)))) fa_nil)))))))) pss_nil))))
      (pss_one (ps_ret pe_bl))), ?_⟩
  ((try dsimp only [sp_is_whole, sp_start, sp_first_day, sp_last_day, sp5, sp_g_init, sp_g_closed, sp_g_lets, sp_g_need, sp_g_shut, sp_j_init, sp_j_put, sp_j_many, sp_j_booking, sp_j_every, sp_j_undone, sp_at, sp_lengths, sp_ends, sp_word, sp_shut, sp_no, sp_gr, sp_put]); try simp only [rdAll, rdI, V.int.injEq, V.ref.injEq, eqQ_int, eqQ_bl, eqQ_str, eqQ_ref, eqQ_nn, eqQ_ni, eqQ_in, eqQ_is, eqQ_si, L2.start, List.map_cons, List.map_nil, List.cons_append, List.nil_append, List.append_nil, List.length_cons, List.length_nil, List.replicate, List.getElem?_cons_zero, List.getElem?_cons_succ, List.set_cons_zero, List.set_cons_succ, Nat.reduceSub, Nat.reduceAdd, Int.reduceLT, Int.reduceLE, Int.reducePow, Int.reduceNeg, Nat.reducePow, List.cons.injEq, exists_eq_left', exists_eq_left, eq_self, if_false, if_true, ↓reduceIte, ite_not, forall_const, Option.join, Option.bind_some, id_eq])
  refine for_tupB ?_
  ((try dsimp only [sp_is_whole, sp_start, sp_first_day, sp_last_day, sp5, sp_g_init, sp_g_closed, sp_g_lets, sp_g_need, sp_g_shut, sp_j_init, sp_j_put, sp_j_many, sp_j_booking, sp_j_every, sp_j_undone, sp_at, sp_lengths, sp_ends, sp_word, sp_shut, sp_no, sp_gr, sp_put]); try simp only [rdAll, rdI, V.int.injEq, V.ref.injEq, eqQ_int, eqQ_bl, eqQ_str, eqQ_ref, eqQ_nn, eqQ_ni, eqQ_in, eqQ_is, eqQ_si, L2.start, List.map_cons, List.map_nil, List.cons_append, List.nil_append, List.append_nil, List.length_cons, List.length_nil, List.replicate, List.getElem?_cons_zero, List.getElem?_cons_succ, List.set_cons_zero, List.set_cons_succ, Nat.reduceSub, Nat.reduceAdd, Int.reduceLT, Int.reduceLE, Int.reducePow, Int.reduceNeg, Nat.reducePow, List.cons.injEq, exists_eq_left', exists_eq_left, eq_self, if_false, if_true, ↓reduceIte, ite_not, forall_const, Option.join, Option.bind_some, id_eq])
  have sz : 10000 ≤ sizeLine := by rw [sizeLine_eq]; decide
  have two : 2 ≤ sizeLine := by omega
  refine ⟨hN, two, fun r hr => ⟨two, fun r1 hr1 => ⟨(same_upd _ hr).trans (same_upd _ hr1), two, fun r2 hr2 => ?_⟩⟩⟩
  have ne1 : r ≠ r1 := fun z => by rw [← z, upd_same] at hr1; cases hr1
  refine pick_refs (waysO 2) (Int.emod_nonneg _ (by decide)) (Int.emod_lt_of_pos _ (by decide)) (fun v hv => ?_) fun q o hq po hw => ?_
  · simp at hv
    rcases hv with rfl | rfl
    · exact ⟨_, _, rfl, hr, (upd_ne ne1).trans upd_same, rfl, ways_of [0, 1] (by decide) (by decide)⟩
    · exact ⟨_, _, rfl, (by rw [upd_ne (Ne.symm ne1)] at hr1; exact hr1), upd_same, rfl, ways_of [1, 0] (by decide) (by decide)⟩
  obtain ⟨xs, rfl, lx, hx⟩ := hw
  obtain ⟨H1, e1, t1, a1, n1⟩ := alloc (o := HO.tup (xs.map V.int)) hq hN rfl
  rw [e1]
  obtain ⟨vs, JA, RV⟩ := J.jr
  obtain ⟨ws, hm, RW⟩ := J.mn
  obtain ⟨dx, hp⟩ := JA.ob
  have ps : p ∉ [s'] := by intro z; simp at z; exact ne_at hp S.ls (by intro z; cases z) z
  have us : u ∉ [s'] := by intro z; simp at z; exact ne_at JA.dc S.ls (by intro z; cases z) z
  have bs : b ∉ [s'] := by intro z; simp at z; exact sb z.symm
  have msn : m ∉ [s'] := by intro z; simp at z; exact sm' z.symm
  have noS : ∀ s ∈ [s'], ∀ l, H s ≠ some (.tup l) := by
    intro s hs l e
    simp at hs; subst hs
    rw [S.ls] at e; cases e
  have S0 : ShOk AL H1 s' qs := S.keep (S := []) (Keep.same t1) List.not_mem_nil (fun _ z => nomatch z) (fun _ z => nomatch z)
  refine for_tupC (SqT.of a1) (for_tup (xs := xs.map V.int) (fun i σ H' => Keep [s'] H1 H' ∧ NoT H' ∧ (∃ qs', qs'.length ≤ qs.length + i ∧ ShOk AL H' s' qs') ∧ ∃ y4 y5, σ = [some (.ref p), some (.ref m), some (.ref s'), some (.int c), y4, y5]) ⟨Keep.refl, n1, ⟨qs, by omega, S0⟩, none, none, rfl⟩ (fun i σ H' _ ⟨s, _⟩ => SqT.of (s _ _ a1 (by intro z; simp at z; subst z; rw [t1 _ _ S.ls] at a1; cases a1))) ?_ ?_)
  · rintro i x σ H' hx' ⟨kp, nT, ⟨qs', lq, S'⟩, y4, y5, rfl⟩
    obtain ⟨x, hxm, rfl⟩ := List.mem_map.mp (List.mem_of_getElem? hx')
    have hi : i < xs.length := by
      have := (List.getElem?_eq_some_iff.mp hx').1
      rwa [List.length_map] at this
    have hb := hx x hxm
    have kH : Keep [s'] H H' := (Keep.same t1).trans kp
    have JA' := JA.keep kH ps bs us
    have RV' := RV.keep kH noS
    have RW' := RW.keep kH noS
    have hm' := kH _ _ hm msn
    obtain ⟨dx', hp'⟩ := JA'.ob
    have lkm : List.lookup (Str.ofString "many") [(Str.ofString "bookings", V.ref b), (Str.ofString "undoings", V.ref u)] = none := by rw [lk_miss (by decide +kernel), lk_miss (by decide +kernel)]; rfl
    have lke : List.lookup (Str.ofString "every") [(Str.ofString "bookings", V.ref b), (Str.ofString "undoings", V.ref u)] = none := by rw [lk_miss (by decide +kernel), lk_miss (by decide +kernel)]; rfl
    have lv : vs.length = bks.length := RV.len
    have lw : ws.length = bks.length := RW.len
    rcases (show x = 0 ∨ x = 1 by omega) with rfl | rfl
    · ((try dsimp only [sp_is_whole, sp_start, sp_first_day, sp_last_day, sp5, sp_g_init, sp_g_closed, sp_g_lets, sp_g_need, sp_g_shut, sp_j_init, sp_j_put, sp_j_many, sp_j_booking, sp_j_every, sp_j_undone, sp_at, sp_lengths, sp_ends, sp_word, sp_shut, sp_no, sp_gr, sp_put]); try simp only [rdAll, rdI, V.int.injEq, V.ref.injEq, eqQ_int, eqQ_bl, eqQ_str, eqQ_ref, eqQ_nn, eqQ_ni, eqQ_in, eqQ_is, eqQ_si, L2.start, List.map_cons, List.map_nil, List.cons_append, List.nil_append, List.append_nil, List.length_cons, List.length_nil, List.replicate, List.getElem?_cons_zero, List.getElem?_cons_succ, List.set_cons_zero, List.set_cons_succ, Nat.reduceSub, Nat.reduceAdd, Int.reduceLT, Int.reduceLE, Int.reducePow, Int.reduceNeg, Nat.reducePow, List.cons.injEq, exists_eq_left', exists_eq_left, eq_self, if_false, if_true, ↓reduceIte, ite_not, forall_const, Option.join, Option.bind_some, id_eq])
      refine ⟨_, _, hp', lkm, nT, b, u, vs, _, JA', nT, ?_⟩
      refine ⟨_, _, hp', lkm, nT, b, u, vs, _, JA', ws, .inl (.inl (.inl hm')), ?_⟩
      rw [if_pos (by rw [lv, lw]), if_neg (by decide)]
      exact ⟨kp, nT, ⟨qs', by omega, S'⟩, _, _, rfl, rfl⟩
    · ((try dsimp only [sp_is_whole, sp_start, sp_first_day, sp_last_day, sp5, sp_g_init, sp_g_closed, sp_g_lets, sp_g_need, sp_g_shut, sp_j_init, sp_j_put, sp_j_many, sp_j_booking, sp_j_every, sp_j_undone, sp_at, sp_lengths, sp_ends, sp_word, sp_shut, sp_no, sp_gr, sp_put]); try simp only [rdAll, rdI, V.int.injEq, V.ref.injEq, eqQ_int, eqQ_bl, eqQ_str, eqQ_ref, eqQ_nn, eqQ_ni, eqQ_in, eqQ_is, eqQ_si, L2.start, List.map_cons, List.map_nil, List.cons_append, List.nil_append, List.append_nil, List.length_cons, List.length_nil, List.replicate, List.getElem?_cons_zero, List.getElem?_cons_succ, List.set_cons_zero, List.set_cons_succ, Nat.reduceSub, Nat.reduceAdd, Int.reduceLT, Int.reduceLE, Int.reducePow, Int.reduceNeg, Nat.reducePow, List.cons.injEq, exists_eq_left', exists_eq_left, eq_self, if_false, if_true, ↓reduceIte, ite_not, forall_const, Option.join, Option.bind_some, id_eq])
      rw [if_neg (by decide)]
      refine ⟨_, _, hp', lke, nT, b, u, vs, _, JA', by omega, fun f hf => ?_⟩
      have kv : kindV (upd H' f (.lst vs)) (.ref f) = some "list" := by simp [kindV, upd_same]
      have rfs : ∀ z ∈ bks, ∀ x ∈ z.rs, ∃ r, x = .ref r := fun z hz => (J.rf z hz).2.2
      have mf : m ≠ f := ne_of_none hm' hf
      have kf : Keep [s'] H' (upd H' f (.lst vs)) := Keep.refl.new hf
      have noS' : ∀ s ∈ [s'], ∀ l, H' s ≠ some (.tup l) := by
        intro s hs l e
        simp at hs; subst hs
        rw [S'.ls] at e; cases e
      simp only [kv]
      rw [if_neg (by decide)]
      refine ⟨true, RAt.eq upd_same ((upd_ne mf).trans hm') (RV'.keep kf noS') (RW'.keep kf noS') rfs, ite10 ⟨.inl ⟨_, .inl (.inl upd_same)⟩, f, vs, _, rfl, rfl, upd_same, by omega, ?_⟩⟩
      rw [upd_upd]
      obtain ⟨H2, e2, t2, a2, n2⟩ := alloc (o := HO.lst (vs ++ [V.non])) hf nT rfl
      rw [e2]
      refine ⟨.inl ⟨_, .inl (.inl (t2 _ _ S'.ls))⟩, _, .inl (.inl (.inl a2)), fun g hg => ⟨two, fun q2 hq2 => ?_⟩⟩
      obtain ⟨H3, e3, t3, a3, n3⟩ := alloc (o := HO.lst (vs ++ [V.non])) hg n2 rfl
      rw [e3] at hq2 ⊢
      obtain ⟨H4, e4, t4, a4, n4⟩ := alloc (o := HO.tup [V.ref f, V.ref g]) hq2 n3 rfl
      rw [e4]
      have s4 := (t2.trans t3).trans t4
      have alN : ∀ x, H' x = none → x ∉ AL := fun x e hx => by
        obtain ⟨o, eo⟩ := al x hx
        by_cases z : x = s'
        · subst z; rw [S'.ls] at e; cases e
        · rw [kH _ _ eo (by simp [z])] at e; cases e
      have sne : ∀ x, H' x = none → x ≠ s' := fun x e z => by subst z; rw [S'.ls] at e; cases e
      have g0 : H' g = none := t2.free hg
      have q0 : H' q2 = none := (t2.trans t3).free hq2
      have S4 : ShOk AL H4 s' qs' := S'.keep (S := []) (Keep.same s4) List.not_mem_nil (fun _ z => nomatch z) (fun _ z => nomatch z)
      refine ⟨s', qs', _, rfl, rfl, S4.ls, by omega, (kp.trans (Keep.same s4)).put (.head _), noT_upd n4 rfl, ⟨qs' ++ [.ref q2], by rw [List.length_append, List.length_singleton]; omega, upd_same, ?_⟩, _, _, rfl, rfl⟩
      intro x hx
      rcases List.mem_append.mp hx with hx | hx
      · obtain ⟨q, f', c', xs', e, h1, h2, h3, h4, h5, h6, h7⟩ := S4.it x hx
        have sA : s' ∈ AL := sAL
        have n' : ∀ y, y ∉ AL → y ≠ s' := fun y hy z => hy (z ▸ sA)
        exact ⟨q, f', c', xs', e, (upd_ne (ne_at h1 S4.ls (by intro z; cases z))).trans h1, (upd_ne (n' _ h4)).trans h2, (upd_ne (n' _ h5)).trans h3, h4, h5, h6, h7⟩
      · simp at hx
        refine ⟨q2, f, g, vs ++ [.non], hx, (upd_ne (sne _ q0)).trans a4, (upd_ne (sne _ hf)).trans ((t3.trans t4) _ _ a2), (upd_ne (sne _ g0)).trans (t4 _ _ a3), alN _ hf, alN _ g0, by simp; omega, ?_⟩
        intro y hy
        rcases List.mem_append.mp hy with hy | hy
        · obtain ⟨_, _, _, _, _, q, t, rfl, _⟩ := RV'.mem hy
          exact .inr ⟨_, rfl⟩
        · simp at hy; subst hy; exact .inl rfl
  · rintro σ H' ⟨kp, nT, ⟨qs', lq, S'⟩, y4, y5, rfl⟩
    ((try dsimp only [sp_is_whole, sp_start, sp_first_day, sp_last_day, sp5, sp_g_init, sp_g_closed, sp_g_lets, sp_g_need, sp_g_shut, sp_j_init, sp_j_put, sp_j_many, sp_j_booking, sp_j_every, sp_j_undone, sp_at, sp_lengths, sp_ends, sp_word, sp_shut, sp_no, sp_gr, sp_put]); try simp only [rdAll, rdI, V.int.injEq, V.ref.injEq, eqQ_int, eqQ_bl, eqQ_str, eqQ_ref, eqQ_nn, eqQ_ni, eqQ_in, eqQ_is, eqQ_si, L2.start, List.map_cons, List.map_nil, List.cons_append, List.nil_append, List.append_nil, List.length_cons, List.length_nil, List.replicate, List.getElem?_cons_zero, List.getElem?_cons_succ, List.set_cons_zero, List.set_cons_succ, Nat.reduceSub, Nat.reduceAdd, Int.reduceLT, Int.reduceLE, Int.reducePow, Int.reduceNeg, Nat.reducePow, List.cons.injEq, exists_eq_left', exists_eq_left, eq_self, if_false, if_true, ↓reduceIte, ite_not, forall_const, Option.join, Option.bind_some, id_eq])
    rw [List.length_map] at lq
    exact k qs' H' (by omega) S' ((Keep.same t1).trans kp) nT
end
end K13
set_option Elab.async false
set_option linter.all false
set_option maxRecDepth 100000
set_option maxHeartbeats 400000
namespace K13
open PySem L2
seal L2.PE L2.PT L2.PW L2.PA L2.PS L2.PSs L2.PI L2.PG L2.PGs L2.PO
section
variable {pS : Addr} {ns : List Int} {P : Program} {w : World} {K : PySem.W.Frag} {mg : Str → Option Value} {base : Heap} {a : Adr}
open K3
theorem BAt.eqR {H : Hp} {q q' : Addr} {k : Nat} {b : Bk} (h : BAt H (.ref q) k b) (h' : BAt H (.ref q') k b) (rf : ∀ x ∈ b.rs, ∃ r, x = .ref r) : EqR K H q q' true := by
  obtain ⟨_, t, e0, h1, h2⟩ := h
  cases e0
  obtain ⟨_, t', e0, h1', h2'⟩ := h'
  cases e0
  have rows : EqH K H 50 (.ref t) (.ref t') true := by
    by_cases e : t = t'
    · subst e; exact .same
    · have h := EqH.tup (K := K) (H := H) (n := 49) (e := fun _ => true) e (.inl (.inl h2)) (.inl (.inl h2')) fun j x y gx gy => by
        rw [gx] at gy; cases gy
        obtain ⟨r, rfl⟩ := rf x (List.mem_of_getElem? gx)
        exact .same
      simpa only [Nat.min_self, all_t, beq_self_eq_true, Bool.and_true] using h
  have fl : ∀ x : V, flatV x = true → eqV x x = true → EqH K H 50 x x true := fun x f e => by have := EqH.flat (K := K) (H := H) (n := 50) f f; rwa [e] at this
  have h := EqR.tup (K := K) (H := H) (e := fun _ => true) (.inl (.inl h1)) (.inl (.inl h1')) fun j x y gx gy => by
    rcases j with _ | _ | _ | _ | _ | j
    · cases gx; cases gy; exact fl _ rfl (by simp [eqV])
    · cases gx; cases gy; exact fl _ rfl (by simp [eqV])
    · cases gx; cases gy; exact fl _ rfl (by simp [eqV, L2.T])
    · cases gx; cases gy; exact rows
    · cases gx; cases gy
      cases b.o with
      | none => exact fl _ rfl rfl
      | some i => exact fl _ rfl (by simp [eqV, cl])
    · simp at gx
  simpa only [List.length_cons, List.length_nil, Nat.min_self, all_t, beq_self_eq_true, Bool.and_true] using h
theorem cut_mem {xs : List V} {lo hi : Option Int} {x : V} (h : x ∈ cutV xs lo hi) : x ∈ xs := List.mem_of_mem_drop (List.mem_of_mem_take h)
def undL (i : Int) (k : Nat) : List Bk → List V
  | [] => []
  | b :: r => if b.o = some i then .int k :: undL i (k + 1) r else undL i (k + 1) r
theorem undL_val (i : Int) : ∀ (l : List Bk) (k : Nat), valV (undF k l) (.inl i) = (undL i k l).head?
  | [], k => rfl
  | c :: r, k => by
    cases ho : c.o with
    | none => simp only [undF, undL, ho]; rw [if_neg (by intro z; cases z)]; exact undL_val i r (k + 1)
    | some j =>
      simp only [undF, undL, ho]
      by_cases e : j = i
      · subst e; rw [if_pos rfl, valV_pos rfl]; rfl
      · rw [if_neg (by intro z; cases z; exact e rfl), valV_neg (by intro z; cases z; exact e rfl)]; exact undL_val i r (k + 1)
theorem undL_of {H : Hp} {i : Int} : ∀ (bs : List Bk) (vs : List V) (k : Nat), vs.length = bs.length → (∀ j v b, vs[j]? = some v → bs[j]? = some b → BAt H v (k + j) b) → ((vs.filter fun x => decide (prj H 4 x = .int i)).map fun x => prj H 0 x) = undL i k bs
  | [], [], k, _, _ => rfl
  | [], v :: vs, k, h, _ => by cases h
  | b :: bs, [], k, h, _ => by cases h
  | b :: bs, v :: vs, k, h, g => by
    have ih := undL_of (H := H) (i := i) bs vs (k + 1) (by simpa using h) fun j x c e1 e2 => by
      have := g (j + 1) x c (by simpa using e1) (by simpa using e2)
      rwa [show k + (j + 1) = k + 1 + j by omega] at this
    obtain ⟨q, t, rfl, e1, _⟩ := g 0 v b rfl rfl
    have p4 : prj H 4 (.ref q) = cl b.o := by simp [prj, e1]
    have p0 : prj H 0 (.ref q) = .int k := by simp [prj, e1]
    by_cases e : b.o = some i
    · rw [List.filter_cons_of_pos (by rw [p4, e]; simp [cl]), List.map_cons, p0, ih]
      simp only [undL]; rw [if_pos e]
    · rw [List.filter_cons_of_neg (by rw [p4]; cases ho : b.o with | none => simp [cl] | some j => simp [cl]; rintro rfl; exact e ho), ih]
      simp only [undL]; rw [if_neg e]
theorem undL_int (i : Int) : ∀ (l : List Bk) (k : Nat) (x : V), x ∈ undL i k l → ∃ j : Int, x = .int j
  | [], k, x, h => by cases h
  | c :: r, k, x, h => by
    simp only [undL] at h
    split at h
    · rcases List.mem_cons.mp h with rfl | h
      · exact ⟨_, rfl⟩
      · exact undL_int i r _ x h
    · exact undL_int i r _ x h
def sp_ones (C : Addr) : Sp := sp3 fun x y z H Q _ => NoT H ∧ asR x fun p => asR y fun m => asI z fun _ => ∃ b u bks, JS C H p b u m bks ∧ bks.length ≤ 50 ∧ Q (.bl true) H
theorem ok__law_ones_right (T : Txt K mg a) : FnOk P w K mg base (XE P w) 8 a.f__law_ones_right a.fd__law_ones_right ["_law_journal", "_law_own_rows", "_law_cell"] (sp_ones a.c_Journal) := by
  refine T.F__law_ones_right.okG sc__law_ones_right (fun vs H Q E h => sp3.len h) (fun cdv A outer s H vs Q E hr h => ?_)
  obtain ⟨x0, x1, x2, rfl, h⟩ := sp3.inv h
  have ND := sc__law_ones_right.nd
  have PX : Passes' (XE P w) (cxOf (XE P w) P w K mg base ["_law_journal", "_law_own_rows", "_law_cell", "_law_one", "_law_undoers", "_law_way", "_law_found"] "_law_ones_right" (defScope s__law_ones_right) a.f__law_ones_right cdv A outer s H (gcE H E)) (fun _ => (gcE H E)) := passB
  have RX : Raises (cxOf (XE P w) P w K mg base ["_law_journal", "_law_own_rows", "_law_cell", "_law_one", "_law_undoers", "_law_way", "_law_found"] "_law_ones_right" (defScope s__law_ones_right) a.f__law_ones_right cdv A outer s H (gcE H E)) (fun _ => (gcE H E)) := raisesB
  have HU : (cxOf (XE P w) P w K mg base ["_law_journal", "_law_own_rows", "_law_cell", "_law_one", "_law_undoers", "_law_way", "_law_found"] "_law_ones_right" (defScope s__law_ones_right) a.f__law_ones_right cdv A outer s H (gcE H E)).A.units + 100 < cLine := units100 hr
  have PW : PassesOwn (model P w) (cxOf (XE P w) P w K mg base ["_law_journal", "_law_own_rows", "_law_cell", "_law_one", "_law_undoers", "_law_way", "_law_found"] "_law_ones_right" (defScope s__law_ones_right) a.f__law_ones_right cdv A outer s H (gcE H E)).A (cxOf (XE P w) P w K mg base ["_law_journal", "_law_own_rows", "_law_cell", "_law_one", "_law_undoers", "_law_way", "_law_found"] "_law_ones_right" (defScope s__law_ones_right) a.f__law_ones_right cdv A outer s H (gcE H E)).env (cxOf (XE P w) P w K mg base ["_law_journal", "_law_own_rows", "_law_cell", "_law_one", "_law_undoers", "_law_way", "_law_found"] "_law_ones_right" (defScope s__law_ones_right) a.f__law_ones_right cdv A outer s H (gcE H E)).xe := by passes_own
  obtain ⟨hN, h1⟩ := h
  obtain ⟨p, rfl, h2⟩ := asR.inv h1
  obtain ⟨m, rfl, h3⟩ := asR.inv h2
  obtain ⟨c, rfl, b, u, bks, J, l1, k⟩ := asI.inv h3
  obtain ⟨vs, JA, RV⟩ := J.jr
  obtain ⟨ws, hm, RW⟩ := J.mn
  obtain ⟨dx, hp⟩ := JA.ob
  have sz : 1000 ≤ sizeLine := by rw [sizeLine_eq]; decide
  have lv : vs.length = bks.length := RV.len
  have lw : ws.length = bks.length := RW.len
  have G_Journal_booking := ok_Journal_booking (P := P) (w := w) (base := base) T
  have b_Journal_booking := bn_Journal_booking T.F_Journal_booking
  have G_Journal_undone_by := ok_Journal_undone_by (P := P) (w := w) (base := base) T
  have b_Journal_undone_by := bn_Journal_undone_by T.F_Journal_undone_by
  refine ⟨hN, _, (pss_cons (ps_for PW rfl (fi_listK K (pe_op fo_cat (pe_slice (fs_listK K) (fv 1) (po_some (pe_un fu_neg pe_int)) po_none) (pe_slice (fs_listK K) (fv 1) po_none (po_some pe_int)))) (pg_name (i := 3) ND rfl (Or.inr rfl)) (pss_cons (ps_set (i := 4) ND rfl (Or.inl rfl) (pe_op fo_cat (pe_comp rfl (cl := _) (fr := ["_law_one"]) (ks := [3]) (by exact ⟨rfl, by decide +kernel, rfl, by decide +kernel, rfl, keys_of rfl, rfl, kinds_of rfl, kinds_of (k := fun y => List.lookup y _) rfl, only_of rfl⟩) rfl (by decide) (fi_listK K (fv 1)) (fun _ _ _ _ _ => (pts_one (ft_cmp (fo_eqQ K HU) (pe_ix (fx_seqK K) (fv 0) pe_int (fun _ _ => rfl)) (pe_ix (fx_seqK K) (fv 1) pe_int (fun _ _ => rfl)) (nomark _)))) (fun _ _ _ _ _ => (pe_ix (fx_seqK K) (fv 0) pe_int (fun _ _ => rfl)))) (pe_lst (FA.pa (fa_cons pe_non fa_nil)))))
      (pss_one (ps_for PW rfl (fi_tupK K (fe_pickL (FA.pa (fa_cons (pe_tup (FA.pa (fa_cons pe_int (fa_cons pe_int fa_nil)))) (fa_cons (pe_tup (FA.pa (fa_cons pe_int (fa_cons pe_int fa_nil)))) fa_nil))) (pe_op fo_mod (fv 2) pe_int) (fun _ _ => rfl))) (pg_name (i := 5) ND rfl (Or.inl rfl)) (pss_one (ps_if (ft_cmp (fo_eqQ K HU) (fv 5) pe_int (nomark _)) (pss_cons (ps_set (i := 6) ND rfl (Or.inl rfl) (pe_methX (fv 0) T.cl_Journal T.mt_Journal_booking G_Journal_booking (hr.mono (by decide)) b_Journal_booking .nil PX (FA.pa (fa_cons (pe_ix (fx_seqK K) (fv 3) pe_int (fun _ _ => rfl)) fa_nil))))
      (pss_one (ps_if (L2.PW.pt (pw_or (ft_cmp (fo_neQ K HU) (fv 6) (fv 3) (nomark _)) (pw_or (pt_not (ft_val (pe_callB (fc_isiK K) rfl T.z_isinstance bb_isinstance (FA.pa (fa_cons (fv 6) (fa_cons (pe_bltn (v := .ty "tuple") rfl T.z_tuple bb_tuple rfl) fa_nil)))))) (pw_or1 (pt_not (ft_val (pe_callB (fc_isiK K) rfl T.z_isinstance bb_isinstance (FA.pa (fa_cons (pe_ix (fx_seqK K) (fv 6) pe_int (fun _ _ => rfl)) (fa_cons (pe_bltn (v := .ty "tuple") rfl T.z_tuple bb_tuple rfl) fa_nil)))))))))) (pss_one (ps_ret pe_bl)) pss_nil))) (pss_cons (ps_set (i := 6) ND rfl (Or.inl rfl) (pe_methX (fv 0) T.cl_Journal T.mt_Journal_undone_by G_Journal_undone_by (hr.mono (by decide)) b_Journal_undone_by .nil PX (FA.pa (fa_cons (pe_ix (fx_seqK K) (fv 3) pe_int (fun _ _ => rfl)) fa_nil))))
      (pss_one (ps_if (L2.PW.pt (pw_or (ft_val (pe_callB (fc_isiK K) rfl T.z_isinstance bb_isinstance (FA.pa (fa_cons (fv 6) (fa_cons (pe_bltn (v := .ty "bool") rfl T.z_bool bb_bool rfl) fa_nil))))) (pw_or1 (ft_cmp (fo_neQ K HU) (fv 6) (pe_ix (fx_seqK K) (fv 4) pe_int (fun _ _ => rfl)) (nomark _))))) (pss_one (ps_ret pe_bl)) pss_nil)))))))))
      (pss_one (ps_ret pe_bl))), ?_⟩
  ((try dsimp only [sp_is_whole, sp_start, sp_first_day, sp_last_day, sp5, sp_g_init, sp_g_closed, sp_g_lets, sp_g_need, sp_g_shut, sp_j_init, sp_j_put, sp_j_many, sp_j_booking, sp_j_every, sp_j_undone, sp_at, sp_lengths, sp_ends, sp_word, sp_shut, sp_no, sp_gr, sp_put, sp_all]); try simp only [rdAll, rdI, V.int.injEq, V.ref.injEq, eqQ_int, eqQ_bl, eqQ_str, eqQ_ref, eqQ_nn, eqQ_ni, eqQ_in, eqQ_is, eqQ_si, L2.start, List.map_cons, List.map_nil, List.cons_append, List.nil_append, List.append_nil, List.length_cons, List.length_nil, List.replicate, List.getElem?_cons_zero, List.getElem?_cons_succ, List.set_cons_zero, List.set_cons_succ, Nat.reduceSub, Nat.reduceAdd, Int.reduceLT, Int.reduceLE, Int.reducePow, Int.reduceNeg, Nat.reducePow, List.cons.injEq, exists_eq_left', exists_eq_left, eq_self, if_false, if_true, ↓reduceIte, ite_not, forall_const, Option.join, Option.bind_some, id_eq])
  refine for_lstB ?_
  ((try dsimp only [sp_is_whole, sp_start, sp_first_day, sp_last_day, sp5, sp_g_init, sp_g_closed, sp_g_lets, sp_g_need, sp_g_shut, sp_j_init, sp_j_put, sp_j_many, sp_j_booking, sp_j_every, sp_j_undone, sp_at, sp_lengths, sp_ends, sp_word, sp_shut, sp_no, sp_gr, sp_put, sp_all]); try simp only [rdAll, rdI, V.int.injEq, V.ref.injEq, eqQ_int, eqQ_bl, eqQ_str, eqQ_ref, eqQ_nn, eqQ_ni, eqQ_in, eqQ_is, eqQ_si, L2.start, List.map_cons, List.map_nil, List.cons_append, List.nil_append, List.append_nil, List.length_cons, List.length_nil, List.replicate, List.getElem?_cons_zero, List.getElem?_cons_succ, List.set_cons_zero, List.set_cons_succ, Nat.reduceSub, Nat.reduceAdd, Int.reduceLT, Int.reduceLE, Int.reducePow, Int.reduceNeg, Nat.reducePow, List.cons.injEq, exists_eq_left', exists_eq_left, eq_self, if_false, if_true, ↓reduceIte, ite_not, forall_const, Option.join, Option.bind_some, id_eq])
  refine ⟨m, ws, rfl, .inl (.inl hm), fun q1 hq1 => ⟨m, ws, rfl, .inl (.inl ((upd_ne (ne_of_none hm hq1)).trans hm)), fun q2 hq2 => ?_⟩⟩
  obtain ⟨H1, e1, t1, a1, n1⟩ := alloc (o := HO.lst (cutV ws (some (-3)) none)) hq1 hN rfl
  rw [e1] at hq2 ⊢
  obtain ⟨H2, e2, t2, a2, n2⟩ := alloc (o := HO.lst (cutV ws none (some 2))) hq2 n1 rfl
  rw [e2]
  ((try dsimp only [sp_is_whole, sp_start, sp_first_day, sp_last_day, sp5, sp_g_init, sp_g_closed, sp_g_lets, sp_g_need, sp_g_shut, sp_j_init, sp_j_put, sp_j_many, sp_j_booking, sp_j_every, sp_j_undone, sp_at, sp_lengths, sp_ends, sp_word, sp_shut, sp_no, sp_gr, sp_put, sp_all]); try simp only [rdAll, rdI, V.int.injEq, V.ref.injEq, eqQ_int, eqQ_bl, eqQ_str, eqQ_ref, eqQ_nn, eqQ_ni, eqQ_in, eqQ_is, eqQ_si, L2.start, List.map_cons, List.map_nil, List.cons_append, List.nil_append, List.append_nil, List.length_cons, List.length_nil, List.replicate, List.getElem?_cons_zero, List.getElem?_cons_succ, List.set_cons_zero, List.set_cons_succ, Nat.reduceSub, Nat.reduceAdd, Int.reduceLT, Int.reduceLE, Int.reducePow, Int.reduceNeg, Nat.reducePow, List.cons.injEq, exists_eq_left', exists_eq_left, eq_self, if_false, if_true, ↓reduceIte, ite_not, forall_const, Option.join, Option.bind_some, id_eq])
  refine ⟨_, _, t2 _ _ a1, a2, ?_, fun q3 hq3 => ?_⟩
  · have h1 := cutV_length ws (some (-3)) none
    have h2 := cutV_length ws none (some 2)
    omega
  obtain ⟨H3, e3, t3, a3, n3⟩ := alloc (o := HO.lst (cutV ws (some (-3)) none ++ cutV ws none (some 2))) hq3 n2 rfl
  rw [e3]
  have s3 := (t1.trans t2).trans t3
  have mem : ∀ x ∈ cutV ws (some (-3)) none ++ cutV ws none (some 2), x ∈ ws := fun x hx => by
    rcases List.mem_append.mp hx with h | h <;> exact cut_mem h
  generalize cutV ws (some (-3)) none ++ cutV ws none (some 2) = ys at *
  refine for_lstC (SqL.of a3) (for_list (xs := ys) (fun i σ H' => Same H3 H' ∧ NoT H' ∧ ∃ y3 y4 y5 y6, σ = [some (.ref p), some (.ref m), some (.int c), y3, y4, y5, y6]) ⟨Same.refl _, n3, none, none, none, none, rfl⟩ (fun i σ H' _ ⟨s, _⟩ => SqL.of (s _ _ a3)) ?_ ?_)
  · rintro i x σ H' hx' ⟨s4, nT, y3, y4, y5, y6, rfl⟩
    have sH := s3.trans s4
    have RV' := RV.keep (S := []) (Keep.same sH) (fun _ z => nomatch z)
    have RW' := RW.keep (S := []) (Keep.same sH) (fun _ z => nomatch z)
    have JA' := JA.keep (S := []) (Keep.same sH) List.not_mem_nil List.not_mem_nil List.not_mem_nil
    have hm' := sH _ _ hm
    obtain ⟨ix, bk, gb, mb, hix, hB⟩ := RW'.mem (mem x (List.mem_of_getElem? hx'))
    have hB' := hB
    obtain ⟨q, t, rfl, hq, ht⟩ := hB
    have item : ∀ x ∈ ws, ∀ H2, Same H' H2 → ∃ (q : Addr) (i : Nat) (l : List V), x = .ref q ∧ H2 q = some (.tup l) ∧ i < bks.length ∧ l[0]? = some (.int i) ∧ prj H' 0 x = .int i ∧ l[4]? = some (prj H' 4 x) ∧ ∃ o, prj H' 4 x = cl o := fun x hx H2 s2 => by
      obtain ⟨i, b, _, _, hi, q, t, rfl, e1, _⟩ := RW'.mem hx
      exact ⟨q, i, _, rfl, s2 _ _ e1, hi, rfl, by simp [prj, e1], by simp [prj, e1], b.o, by simp [prj, e1]⟩
    ((try dsimp only [sp_is_whole, sp_start, sp_first_day, sp_last_day, sp5, sp_g_init, sp_g_closed, sp_g_lets, sp_g_need, sp_g_shut, sp_j_init, sp_j_put, sp_j_many, sp_j_booking, sp_j_every, sp_j_undone, sp_at, sp_lengths, sp_ends, sp_word, sp_shut, sp_no, sp_gr, sp_put, sp_all]); try simp only [rdAll, rdI, V.int.injEq, V.ref.injEq, eqQ_int, eqQ_bl, eqQ_str, eqQ_ref, eqQ_nn, eqQ_ni, eqQ_in, eqQ_is, eqQ_si, L2.start, List.map_cons, List.map_nil, List.cons_append, List.nil_append, List.append_nil, List.length_cons, List.length_nil, List.replicate, List.getElem?_cons_zero, List.getElem?_cons_succ, List.set_cons_zero, List.set_cons_succ, Nat.reduceSub, Nat.reduceAdd, Int.reduceLT, Int.reduceLE, Int.reducePow, Int.reduceNeg, Nat.reducePow, List.cons.injEq, exists_eq_left', exists_eq_left, eq_self, if_false, if_true, ↓reduceIte, ite_not, forall_const, Option.join, Option.bind_some, id_eq])
    refine comp_lst m ws (fun H2 => Same H' H2) (fun D' ys hD' => same_upd _ hD') (fun H2 c => .inl (.inl (c _ _ hm'))) (fun x => decide (prj H' 4 x = .int ix)) (fun x => prj H' 0 x) (fun R r => r) (.inl (.inl hm')) (by omega) (fun x hx H2 R cc r => ?_) (fun x hx _ H2 R cc r => ?_) (fun F1 hF1 => ?_)
    · obtain ⟨q', i', l, rfl, e, hi, e0, e0', e4, o, eo⟩ := item x hx H2 cc
      rw [eo] at e4 r
      ((try dsimp only [sp_is_whole, sp_start, sp_first_day, sp_last_day, sp5, sp_g_init, sp_g_closed, sp_g_lets, sp_g_need, sp_g_shut, sp_j_init, sp_j_put, sp_j_many, sp_j_booking, sp_j_every, sp_j_undone, sp_at, sp_lengths, sp_ends, sp_word, sp_shut, sp_no, sp_gr, sp_put, sp_all]); try simp only [rdAll, rdI, V.int.injEq, V.ref.injEq, eqQ_int, eqQ_bl, eqQ_str, eqQ_ref, eqQ_nn, eqQ_ni, eqQ_in, eqQ_is, eqQ_si, L2.start, List.map_cons, List.map_nil, List.cons_append, List.nil_append, List.append_nil, List.length_cons, List.length_nil, List.replicate, List.getElem?_cons_zero, List.getElem?_cons_succ, List.set_cons_zero, List.set_cons_succ, Nat.reduceSub, Nat.reduceAdd, Int.reduceLT, Int.reduceLE, Int.reducePow, Int.reduceNeg, Nat.reducePow, List.cons.injEq, exists_eq_left', exists_eq_left, eq_self, if_false, if_true, ↓reduceIte, ite_not, forall_const, Option.join, Option.bind_some, id_eq])
      refine ⟨l, _, .inr (.inl (.inl e)), atI_nat (j := 4) e4, _, _, .inr (.inl (.inl (cc _ _ hq))), atI_nat (j := 0) rfl, ?_⟩
      cases o with
      | none =>
        show gEqQ K false .non (.int ix) _ _
        ((try dsimp only [sp_is_whole, sp_start, sp_first_day, sp_last_day, sp5, sp_g_init, sp_g_closed, sp_g_lets, sp_g_need, sp_g_shut, sp_j_init, sp_j_put, sp_j_many, sp_j_booking, sp_j_every, sp_j_undone, sp_at, sp_lengths, sp_ends, sp_word, sp_shut, sp_no, sp_gr, sp_put, sp_all]); try simp only [rdAll, rdI, V.int.injEq, V.ref.injEq, eqQ_int, eqQ_bl, eqQ_str, eqQ_ref, eqQ_nn, eqQ_ni, eqQ_in, eqQ_is, eqQ_si, L2.start, List.map_cons, List.map_nil, List.cons_append, List.nil_append, List.append_nil, List.length_cons, List.length_nil, List.replicate, List.getElem?_cons_zero, List.getElem?_cons_succ, List.set_cons_zero, List.set_cons_succ, Nat.reduceSub, Nat.reduceAdd, Int.reduceLT, Int.reduceLE, Int.reducePow, Int.reduceNeg, Nat.reducePow, List.cons.injEq, exists_eq_left', exists_eq_left, eq_self, if_false, if_true, ↓reduceIte, ite_not, forall_const, Option.join, Option.bind_some, id_eq])
        have : decide (cl none = V.int ix) = false := by simp [cl]
        rw [this] at r; exact r
      | some j =>
        show gEqQ K false (.int j) (.int ix) _ _
        ((try dsimp only [sp_is_whole, sp_start, sp_first_day, sp_last_day, sp5, sp_g_init, sp_g_closed, sp_g_lets, sp_g_need, sp_g_shut, sp_j_init, sp_j_put, sp_j_many, sp_j_booking, sp_j_every, sp_j_undone, sp_at, sp_lengths, sp_ends, sp_word, sp_shut, sp_no, sp_gr, sp_put, sp_all]); try simp only [rdAll, rdI, V.int.injEq, V.ref.injEq, eqQ_int, eqQ_bl, eqQ_str, eqQ_ref, eqQ_nn, eqQ_ni, eqQ_in, eqQ_is, eqQ_si, L2.start, List.map_cons, List.map_nil, List.cons_append, List.nil_append, List.append_nil, List.length_cons, List.length_nil, List.replicate, List.getElem?_cons_zero, List.getElem?_cons_succ, List.set_cons_zero, List.set_cons_succ, Nat.reduceSub, Nat.reduceAdd, Int.reduceLT, Int.reduceLE, Int.reducePow, Int.reduceNeg, Nat.reducePow, List.cons.injEq, exists_eq_left', exists_eq_left, eq_self, if_false, if_true, ↓reduceIte, ite_not, forall_const, Option.join, Option.bind_some, id_eq])
        have : decide (cl (some j) = V.int ix) = decide (j = ix) := by simp [cl]
        rw [this] at r; exact r
    · obtain ⟨q', i', l, rfl, e, hi, e0, e0', e4, o, eo⟩ := item x hx H2 cc
      rw [e0'] at r
      ((try dsimp only [sp_is_whole, sp_start, sp_first_day, sp_last_day, sp5, sp_g_init, sp_g_closed, sp_g_lets, sp_g_need, sp_g_shut, sp_j_init, sp_j_put, sp_j_many, sp_j_booking, sp_j_every, sp_j_undone, sp_at, sp_lengths, sp_ends, sp_word, sp_shut, sp_no, sp_gr, sp_put, sp_all]); try simp only [rdAll, rdI, V.int.injEq, V.ref.injEq, eqQ_int, eqQ_bl, eqQ_str, eqQ_ref, eqQ_nn, eqQ_ni, eqQ_in, eqQ_is, eqQ_si, L2.start, List.map_cons, List.map_nil, List.cons_append, List.nil_append, List.append_nil, List.length_cons, List.length_nil, List.replicate, List.getElem?_cons_zero, List.getElem?_cons_succ, List.set_cons_zero, List.set_cons_succ, Nat.reduceSub, Nat.reduceAdd, Int.reduceLT, Int.reduceLE, Int.reducePow, Int.reduceNeg, Nat.reducePow, List.cons.injEq, exists_eq_left', exists_eq_left, eq_self, if_false, if_true, ↓reduceIte, ite_not, forall_const, Option.join, Option.bind_some, id_eq])
      exact ⟨l, _, .inr (.inl (.inl e)), atI_nat (j := 0) e0, r⟩
    rw [undL_of bks ws 0 lw fun j v b e1 e2 => by rw [Nat.zero_add]; exact RW'.it j v b e1 e2]
    have lu : (undL ix 0 bks).length ≤ 50 := by
      rw [← undL_of bks ws 0 lw fun j v b e1 e2 => by rw [Nat.zero_add]; exact RW'.it j v b e1 e2, List.length_map]
      exact Nat.le_trans (List.length_filter_le _ _) (by omega)
    obtain ⟨H5, e5, t5, a5, n5⟩ := alloc (o := HO.lst (undL ix 0 bks)) hF1 nT rfl
    rw [e5]
    refine ⟨by omega, fun q5 hq5 => ?_⟩
    obtain ⟨H6, e6, t6, a6, n6⟩ := alloc (o := HO.lst [V.non]) hq5 n5 rfl
    rw [e6]
    ((try dsimp only [sp_is_whole, sp_start, sp_first_day, sp_last_day, sp5, sp_g_init, sp_g_closed, sp_g_lets, sp_g_need, sp_g_shut, sp_j_init, sp_j_put, sp_j_many, sp_j_booking, sp_j_every, sp_j_undone, sp_at, sp_lengths, sp_ends, sp_word, sp_shut, sp_no, sp_gr, sp_put, sp_all]); try simp only [rdAll, rdI, V.int.injEq, V.ref.injEq, eqQ_int, eqQ_bl, eqQ_str, eqQ_ref, eqQ_nn, eqQ_ni, eqQ_in, eqQ_is, eqQ_si, L2.start, List.map_cons, List.map_nil, List.cons_append, List.nil_append, List.append_nil, List.length_cons, List.length_nil, List.replicate, List.getElem?_cons_zero, List.getElem?_cons_succ, List.set_cons_zero, List.set_cons_succ, Nat.reduceSub, Nat.reduceAdd, Int.reduceLT, Int.reduceLE, Int.reducePow, Int.reduceNeg, Nat.reducePow, List.cons.injEq, exists_eq_left', exists_eq_left, eq_self, if_false, if_true, ↓reduceIte, ite_not, forall_const, Option.join, Option.bind_some, id_eq])
    refine ⟨_, _, t6 _ _ a5, a6, by simp only [List.length_cons, List.length_nil]; omega, fun q7 hq7 => ?_⟩
    obtain ⟨H7, e7, t7, a7, n7⟩ := alloc (o := HO.lst (undL ix 0 bks ++ [V.non])) hq7 n6 rfl
    rw [e7]
    have s7 := (t5.trans t6).trans t7
    refine for_tupB ?_
    ((try dsimp only [sp_is_whole, sp_start, sp_first_day, sp_last_day, sp5, sp_g_init, sp_g_closed, sp_g_lets, sp_g_need, sp_g_shut, sp_j_init, sp_j_put, sp_j_many, sp_j_booking, sp_j_every, sp_j_undone, sp_at, sp_lengths, sp_ends, sp_word, sp_shut, sp_no, sp_gr, sp_put, sp_all]); try simp only [rdAll, rdI, V.int.injEq, V.ref.injEq, eqQ_int, eqQ_bl, eqQ_str, eqQ_ref, eqQ_nn, eqQ_ni, eqQ_in, eqQ_is, eqQ_si, L2.start, List.map_cons, List.map_nil, List.cons_append, List.nil_append, List.append_nil, List.length_cons, List.length_nil, List.replicate, List.getElem?_cons_zero, List.getElem?_cons_succ, List.set_cons_zero, List.set_cons_succ, Nat.reduceSub, Nat.reduceAdd, Int.reduceLT, Int.reduceLE, Int.reducePow, Int.reduceNeg, Nat.reducePow, List.cons.injEq, exists_eq_left', exists_eq_left, eq_self, if_false, if_true, ↓reduceIte, ite_not, forall_const, Option.join, Option.bind_some, id_eq])
    have two : 2 ≤ sizeLine := by omega
    refine ⟨n7, two, fun r hr => ⟨two, fun r1 hr1 => ⟨(same_upd _ hr).trans (same_upd _ hr1), two, fun r2 hr2 => ?_⟩⟩⟩
    have ne1 : r ≠ r1 := fun z => by rw [← z, upd_same] at hr1; cases hr1
    refine pick_refs (waysO 2) (Int.emod_nonneg _ (by decide)) (Int.emod_lt_of_pos _ (by decide)) (fun v hv => ?_) fun q8 o hq8 po hw => ?_
    · simp at hv
      rcases hv with rfl | rfl
      · exact ⟨_, _, rfl, hr, (upd_ne ne1).trans upd_same, rfl, ways_of [0, 1] (by decide) (by decide)⟩
      · exact ⟨_, _, rfl, (by rw [upd_ne (Ne.symm ne1)] at hr1; exact hr1), upd_same, rfl, ways_of [1, 0] (by decide) (by decide)⟩
    obtain ⟨xs, rfl, lx, hx⟩ := hw
    obtain ⟨H8, e8, t8, a8, n8⟩ := alloc (o := HO.tup (xs.map V.int)) hq8 n7 rfl
    rw [e8]
    have s8 := s7.trans t8
    refine for_tupC (SqT.of a8) (for_tup (xs := xs.map V.int) (fun i σ H' => Same H8 H' ∧ NoT H' ∧ ∃ y5 y6, σ = [some (.ref p), some (.ref m), some (.int c), some (.ref q), some (.ref q7), y5, y6]) ⟨Same.refl _, n8, y5, y6, rfl⟩ (fun i σ H' _ ⟨s, _⟩ => SqT.of (s _ _ a8)) ?_ ?_)
    · rintro i x σ H9 hx' ⟨s9, n9, y5, y6, rfl⟩
      obtain ⟨x, hxm, rfl⟩ := List.mem_map.mp (List.mem_of_getElem? hx')
      have hb := hx x hxm
      have sHH := s8.trans s9
      have RV9 := RV'.keep (S := []) (Keep.same sHH) (fun _ z => nomatch z)
      have B9 := hB'.keep (S := []) (Keep.same sHH) (fun _ z => nomatch z)
      have JA9 := JA'.keep (S := []) (Keep.same sHH) List.not_mem_nil List.not_mem_nil List.not_mem_nil
      obtain ⟨dx9, hp9⟩ := JA9.ob
      have lkb' : List.lookup (Str.ofString "booking") [(Str.ofString "bookings", V.ref b), (Str.ofString "undoings", V.ref u)] = none := by rw [lk_miss (by decide +kernel), lk_miss (by decide +kernel)]; rfl
      have lku' : List.lookup (Str.ofString "undone_by") [(Str.ofString "bookings", V.ref b), (Str.ofString "undoings", V.ref u)] = none := by rw [lk_miss (by decide +kernel), lk_miss (by decide +kernel)]; rfl
      have hin : amg (.int ix) 0 ((vs.length : Int) - 1) = true := by simp [amg]; omega
      have gv := List.getElem?_eq_getElem (show ix < vs.length by omega)
      have BV := RV9.it ix _ _ gv gb
      rcases (show x = 0 ∨ x = 1 by omega) with rfl | rfl
      · ((try dsimp only [sp_is_whole, sp_start, sp_first_day, sp_last_day, sp5, sp_g_init, sp_g_closed, sp_g_lets, sp_g_need, sp_g_shut, sp_j_init, sp_j_put, sp_j_many, sp_j_booking, sp_j_every, sp_j_undone, sp_at, sp_lengths, sp_ends, sp_word, sp_shut, sp_no, sp_gr, sp_put, sp_all]); try simp only [rdAll, rdI, V.int.injEq, V.ref.injEq, eqQ_int, eqQ_bl, eqQ_str, eqQ_ref, eqQ_nn, eqQ_ni, eqQ_in, eqQ_is, eqQ_si, L2.start, List.map_cons, List.map_nil, List.cons_append, List.nil_append, List.append_nil, List.length_cons, List.length_nil, List.replicate, List.getElem?_cons_zero, List.getElem?_cons_succ, List.set_cons_zero, List.set_cons_succ, Nat.reduceSub, Nat.reduceAdd, Int.reduceLT, Int.reduceLE, Int.reducePow, Int.reduceNeg, Nat.reducePow, List.cons.injEq, exists_eq_left', exists_eq_left, eq_self, if_false, if_true, ↓reduceIte, ite_not, forall_const, Option.join, Option.bind_some, id_eq])
        refine ⟨_, _, hp9, lkb', _, _, .inr (.inl (.inl (sHH _ _ hq))), atI_nat (j := 0) rfl, n9, asK.of rfl ⟨b, u, vs, _, JA9, by omega, ?_⟩⟩
        rw [hin, if_pos rfl]
        intro i' v ei ev
        cases ei
        rw [gv] at ev; cases ev
        have BV' := BV
        obtain ⟨qv, tv, ev, hqv, htv⟩ := BV
        rw [ev] at BV' ⊢
        ((try dsimp only [sp_is_whole, sp_start, sp_first_day, sp_last_day, sp5, sp_g_init, sp_g_closed, sp_g_lets, sp_g_need, sp_g_shut, sp_j_init, sp_j_put, sp_j_many, sp_j_booking, sp_j_every, sp_j_undone, sp_at, sp_lengths, sp_ends, sp_word, sp_shut, sp_no, sp_gr, sp_put, sp_all]); try simp only [rdAll, rdI, V.int.injEq, V.ref.injEq, eqQ_int, eqQ_bl, eqQ_str, eqQ_ref, eqQ_nn, eqQ_ni, eqQ_in, eqQ_is, eqQ_si, L2.start, List.map_cons, List.map_nil, List.cons_append, List.nil_append, List.append_nil, List.length_cons, List.length_nil, List.replicate, List.getElem?_cons_zero, List.getElem?_cons_succ, List.set_cons_zero, List.set_cons_succ, Nat.reduceSub, Nat.reduceAdd, Int.reduceLT, Int.reduceLE, Int.reducePow, Int.reduceNeg, Nat.reducePow, List.cons.injEq, exists_eq_left', exists_eq_left, eq_self, if_false, if_true, ↓reduceIte, ite_not, forall_const, Option.join, Option.bind_some, id_eq])
        refine ⟨true, BV'.eqR B9 (J.rf bk mb).2.2, ?_⟩
        rw [if_neg (by decide)]
        have k1 : kindV H9 (.ref qv) = some "tuple" := by simp [kindV, hqv]
        have k2 : kindV H9 (.ref tv) = some "tuple" := by simp [kindV, htv]
        simp only [k1]
        rw [if_neg (by decide)]
        refine ⟨_, _, .inr (.inl (.inl hqv)), atI_nat (j := 3) rfl, ?_⟩
        simp only [k2]
        rw [if_neg (by decide)]
        exact ⟨s9, n9, _, _, rfl, rfl⟩
      · ((try dsimp only [sp_is_whole, sp_start, sp_first_day, sp_last_day, sp5, sp_g_init, sp_g_closed, sp_g_lets, sp_g_need, sp_g_shut, sp_j_init, sp_j_put, sp_j_many, sp_j_booking, sp_j_every, sp_j_undone, sp_at, sp_lengths, sp_ends, sp_word, sp_shut, sp_no, sp_gr, sp_put, sp_all]); try simp only [rdAll, rdI, V.int.injEq, V.ref.injEq, eqQ_int, eqQ_bl, eqQ_str, eqQ_ref, eqQ_nn, eqQ_ni, eqQ_in, eqQ_is, eqQ_si, L2.start, List.map_cons, List.map_nil, List.cons_append, List.nil_append, List.append_nil, List.length_cons, List.length_nil, List.replicate, List.getElem?_cons_zero, List.getElem?_cons_succ, List.set_cons_zero, List.set_cons_succ, Nat.reduceSub, Nat.reduceAdd, Int.reduceLT, Int.reduceLE, Int.reducePow, Int.reduceNeg, Nat.reducePow, List.cons.injEq, exists_eq_left', exists_eq_left, eq_self, if_false, if_true, ↓reduceIte, ite_not, forall_const, Option.join, Option.bind_some, id_eq])
        rw [if_neg (by decide)]
        refine ⟨_, _, hp9, lku', _, _, .inr (.inl (.inl (sHH _ _ hq))), atI_nat (j := 0) rfl, n9, asK.of rfl ⟨b, u, vs, _, JA9, by omega, ?_⟩⟩
        rw [hin, if_pos rfl]
        obtain ⟨qv, tv, ev, hqv, _⟩ := BV
        refine ⟨ix, qv, ix, _, rfl, by rw [gv, ev], hqv, ?_⟩
        rw [undL_val]
        have hq7' := ((t8.trans s9) _ _ a7)
        have hint := undL_int ix bks 0
        generalize undL ix 0 bks = L at *
        cases L with
        | nil =>
          simp only [List.head?_nil, Option.getD_none, kindV]
          rw [if_neg (by decide)]
          refine ⟨_, _, .inl (.inl (.inl hq7')), atI_nat (j := 0) rfl, ?_⟩
          show gEqQ K true .non .non _ _
          ((try dsimp only [sp_is_whole, sp_start, sp_first_day, sp_last_day, sp5, sp_g_init, sp_g_closed, sp_g_lets, sp_g_need, sp_g_shut, sp_j_init, sp_j_put, sp_j_many, sp_j_booking, sp_j_every, sp_j_undone, sp_at, sp_lengths, sp_ends, sp_word, sp_shut, sp_no, sp_gr, sp_put, sp_all]); try simp only [rdAll, rdI, V.int.injEq, V.ref.injEq, eqQ_int, eqQ_bl, eqQ_str, eqQ_ref, eqQ_nn, eqQ_ni, eqQ_in, eqQ_is, eqQ_si, L2.start, List.map_cons, List.map_nil, List.cons_append, List.nil_append, List.append_nil, List.length_cons, List.length_nil, List.replicate, List.getElem?_cons_zero, List.getElem?_cons_succ, List.set_cons_zero, List.set_cons_succ, Nat.reduceSub, Nat.reduceAdd, Int.reduceLT, Int.reduceLE, Int.reducePow, Int.reduceNeg, Nat.reducePow, List.cons.injEq, exists_eq_left', exists_eq_left, eq_self, if_false, if_true, ↓reduceIte, ite_not, forall_const, Option.join, Option.bind_some, id_eq])
          exact ⟨s9, n9, _, _, rfl, rfl⟩
        | cons x L =>
          obtain ⟨j, rfl⟩ := hint x (.head _)
          simp only [List.head?_cons, Option.getD_some, kindV]
          rw [if_neg (by decide)]
          refine ⟨_, _, .inl (.inl (.inl hq7')), atI_nat (j := 0) rfl, ?_⟩
          show gEqQ K true (.int j) (.int j) _ _
          ((try dsimp only [sp_is_whole, sp_start, sp_first_day, sp_last_day, sp5, sp_g_init, sp_g_closed, sp_g_lets, sp_g_need, sp_g_shut, sp_j_init, sp_j_put, sp_j_many, sp_j_booking, sp_j_every, sp_j_undone, sp_at, sp_lengths, sp_ends, sp_word, sp_shut, sp_no, sp_gr, sp_put, sp_all]); try simp only [rdAll, rdI, V.int.injEq, V.ref.injEq, eqQ_int, eqQ_bl, eqQ_str, eqQ_ref, eqQ_nn, eqQ_ni, eqQ_in, eqQ_is, eqQ_si, L2.start, List.map_cons, List.map_nil, List.cons_append, List.nil_append, List.append_nil, List.length_cons, List.length_nil, List.replicate, List.getElem?_cons_zero, List.getElem?_cons_succ, List.set_cons_zero, List.set_cons_succ, Nat.reduceSub, Nat.reduceAdd, Int.reduceLT, Int.reduceLE, Int.reducePow, Int.reduceNeg, Nat.reducePow, List.cons.injEq, exists_eq_left', exists_eq_left, eq_self, if_false, if_true, ↓reduceIte, ite_not, forall_const, Option.join, Option.bind_some, id_eq])
          exact ⟨s9, n9, _, _, rfl, rfl⟩
    · rintro σ H9 ⟨s9, n9, y5, y6, rfl⟩
      exact ⟨(s4.trans s8).trans s9, n9, _, _, _, _, rfl⟩
  · rintro σ H' ⟨s4, nT, y3, y4, y5, y6, rfl⟩
    ((try dsimp only [sp_is_whole, sp_start, sp_first_day, sp_last_day, sp5, sp_g_init, sp_g_closed, sp_g_lets, sp_g_need, sp_g_shut, sp_j_init, sp_j_put, sp_j_many, sp_j_booking, sp_j_every, sp_j_undone, sp_at, sp_lengths, sp_ends, sp_word, sp_shut, sp_no, sp_gr, sp_put, sp_all]); try simp only [rdAll, rdI, V.int.injEq, V.ref.injEq, eqQ_int, eqQ_bl, eqQ_str, eqQ_ref, eqQ_nn, eqQ_ni, eqQ_in, eqQ_is, eqQ_si, L2.start, List.map_cons, List.map_nil, List.cons_append, List.nil_append, List.append_nil, List.length_cons, List.length_nil, List.replicate, List.getElem?_cons_zero, List.getElem?_cons_succ, List.set_cons_zero, List.set_cons_succ, Nat.reduceSub, Nat.reduceAdd, Int.reduceLT, Int.reduceLE, Int.reducePow, Int.reduceNeg, Nat.reducePow, List.cons.injEq, exists_eq_left', exists_eq_left, eq_self, if_false, if_true, ↓reduceIte, ite_not, forall_const, Option.join, Option.bind_some, id_eq])
    exact ⟨H, Gc.none (s3.trans s4), k⟩
end
end K13
set_option Elab.async false
set_option linter.all false
set_option maxRecDepth 100000
set_option maxHeartbeats 400000
namespace K13
open PySem L2
seal L2.PE L2.PT L2.PW L2.PA L2.PS L2.PSs L2.PI L2.PG L2.PGs L2.PO
section
variable {pS : Addr} {ns : List Int} {P : Program} {w : World} {K : PySem.W.Frag} {mg : Str → Option Value} {base : Heap} {a : Adr}
open K3
theorem pick_or {xs : List V} {H H1 : Hp} {Q : VK} {i : Int} (h0 : 0 ≤ i) (h1 : i < xs.length) (h : ∀ v ∈ xs, (flP v ∧ Q v H) ∨ (∃ p o, v = .ref p ∧ H p = none ∧ H1 p = some o ∧ plainO o = true ∧ Q (.ref p) (upd H p o))) : kPick xs H H1 Q (.int i) := by
  obtain ⟨v, hv, e⟩ := atI_pos h0 h1
  rcases h v hv with ⟨f, q⟩ | ⟨p, o, rfl, hp, ho, pl, r⟩
  · unfold kPick
    dsimp only
    rw [e]
    cases v with
    | int _ => exact q
    | bl _ => exact q
    | non => exact q
    | str _ => exact q
    | _ => exact f.elim
  · exact pick_ref e hp ho pl r
def sp_jr (C : Addr) : Sp := sp4 fun x y v z H Q _ => NoT H ∧ asR x fun p => asR y fun m => asI v fun _ => asR z fun s => ∃ b u bks qs, ∃ A : List Addr, JS C H p b u m bks ∧ bks.length ≤ 50 ∧ ShOk A H s qs ∧ qs.length ≤ 4000 ∧ s ≠ b ∧ s ≠ m ∧ s ∈ A ∧ (∀ x ∈ A, ∃ o, H x = some o) ∧
  ∀ qs' H', qs'.length ≤ qs.length + 100 → ShOk A H' s qs' → Keep [s] H H' → NoT H' → Q (.bl true) H'
theorem ok__law_journal_right (T : Txt K mg a) : FnOk P w K mg base (XE P w) 10 a.f__law_journal_right a.fd__law_journal_right ["_law_journal", "_law_own_rows", "_law_cell", "_law_shown"] (sp_jr a.c_Journal) := by
  refine T.F__law_journal_right.okX sc__law_journal_right (fun vs H Q E h => sp4.len h) (fun cdv A outer s H vs Q E hr h => ?_)
  obtain ⟨x0, x1, x2, x3, rfl, h⟩ := sp4.inv h
  have ND := sc__law_journal_right.nd
  have PX : Passes' (XE P w) (cxOf (XE P w) P w K mg base ["_law_journal", "_law_own_rows", "_law_cell", "_law_shown", "_law_many", "_law_odd", "_law_way"] "_law_journal_right" (defScope s__law_journal_right) a.f__law_journal_right cdv A outer s H E) (fun _ => E) := passB
  have RX : Raises (cxOf (XE P w) P w K mg base ["_law_journal", "_law_own_rows", "_law_cell", "_law_shown", "_law_many", "_law_odd", "_law_way"] "_law_journal_right" (defScope s__law_journal_right) a.f__law_journal_right cdv A outer s H E) (fun _ => E) := raisesB
  have HU : (cxOf (XE P w) P w K mg base ["_law_journal", "_law_own_rows", "_law_cell", "_law_shown", "_law_many", "_law_odd", "_law_way"] "_law_journal_right" (defScope s__law_journal_right) a.f__law_journal_right cdv A outer s H E).A.units + 100 < cLine := units100 hr
  have PW : PassesOwn (model P w) (cxOf (XE P w) P w K mg base ["_law_journal", "_law_own_rows", "_law_cell", "_law_shown", "_law_many", "_law_odd", "_law_way"] "_law_journal_right" (defScope s__law_journal_right) a.f__law_journal_right cdv A outer s H E).A (cxOf (XE P w) P w K mg base ["_law_journal", "_law_own_rows", "_law_cell", "_law_shown", "_law_many", "_law_odd", "_law_way"] "_law_journal_right" (defScope s__law_journal_right) a.f__law_journal_right cdv A outer s H E).env (cxOf (XE P w) P w K mg base ["_law_journal", "_law_own_rows", "_law_cell", "_law_shown", "_law_many", "_law_odd", "_law_way"] "_law_journal_right" (defScope s__law_journal_right) a.f__law_journal_right cdv A outer s H E).xe := by passes_own
  obtain ⟨hN, h1⟩ := h
  obtain ⟨p, rfl, h2⟩ := asR.inv h1
  obtain ⟨m, rfl, h3⟩ := asR.inv h2
  obtain ⟨c, rfl, h4⟩ := asI.inv h3
  obtain ⟨s', rfl, b, u, bks, qs, AL, J, l1, S, l2, sb, sm', sAL, al, k⟩ := asR.inv h4
  obtain ⟨vs, JA, RV⟩ := J.jr
  obtain ⟨ws, hm, RW⟩ := J.mn
  obtain ⟨dx, hp⟩ := JA.ob
  have lv : vs.length = bks.length := RV.len
  have lw : ws.length = bks.length := RW.len
  have sz : 10000 ≤ sizeLine := by rw [sizeLine_eq]; decide
  have G__law_no_booking := ok__law_no_booking (P := P) (w := w) (base := base) T
  have b__law_no_booking := bn__law_no_booking T.F__law_no_booking
  have G__law_ones_right := ok__law_ones_right (P := P) (w := w) (base := base) T
  have b__law_ones_right := bn__law_ones_right T.F__law_ones_right
  have G__law_all_right := ok__law_all_right (P := P) (w := w) (base := base) T
  have b__law_all_right := bn__law_all_right T.F__law_all_right
  have c2 : ∃ v, PSs (cxOf (XE P w) P w K mg base ["_law_journal", "_law_own_rows", "_law_cell", "_law_shown", "_law_many", "_law_odd", "_law_way"] "_law_journal_right" (defScope s__law_journal_right) a.f__law_journal_right cdv A outer s H E) (List.drop 2 (defBody s__law_journal_right)) v ∧ ∀ x4 odd H1, Same H H1 → NoT H1 → (flP odd ∨ ∃ q l, odd = .ref q ∧ q ≠ s' ∧ H1 q = some (.lst l)) → amg odd 0 ((bks.length : Int) - 1) = false → v { nx := fun _ H' => Q .non H', rt := fun v H' => Q v H' } [some (.ref p), some (.ref m), some (.int c), some (.ref s'), x4, some odd, none] H1 := by
    refine ⟨_, (pss_cons (ps_for PW rfl (fi_tupK K (fe_pickL (FA.pa (fa_cons (pe_tup (FA.pa (fa_cons pe_int (fa_cons pe_int (fa_cons pe_int fa_nil))))) (fa_cons (pe_tup (FA.pa (fa_cons pe_int (fa_cons pe_int (fa_cons pe_int fa_nil))))) (fa_cons (pe_tup (FA.pa (fa_cons pe_int (fa_cons pe_int (fa_cons pe_int fa_nil))))) (fa_cons (pe_tup (FA.pa (fa_cons pe_int (fa_cons pe_int (fa_cons pe_int fa_nil))))) (fa_cons (pe_tup (FA.pa (fa_cons pe_int (fa_cons pe_int (fa_cons pe_int fa_nil))))) fa_nil)))))) (pe_op fo_mod (pe_op fo_fdiv (fv 2) pe_int) pe_int) (fun _ _ => rfl))) (pg_name (i := 6) ND rfl (Or.inl rfl)) (pss_cons (ps_if (L2.PW.pt (pw_and (ft_cmp (fo_eqQ K HU) (fv 6) pe_int (nomark _)) (pw_and1 (pt_not (ft_val (pe_callX G__law_all_right (hr.mono (by decide)) rfl T.m__law_all_right T.F__law_all_right.kp b__law_all_right .nil PX (FA.pa (fa_cons (fv 0) (fa_cons (fv 1) (fa_cons (fv 3) (fa_cons (pe_op fo_fdiv (fv 2) pe_int) fa_nil))))))))))) (pss_one (ps_ret pe_bl)) pss_nil)
      (pss_cons (ps_if (L2.PW.pt (pw_and (ft_cmp (fo_eqQ K HU) (fv 6) pe_int (nomark _)) (pw_and1 (pt_not (ft_val (pe_callX G__law_ones_right (hr.mono (by decide)) rfl T.m__law_ones_right T.F__law_ones_right.kp b__law_ones_right .nil PX (FA.pa (fa_cons (fv 0) (fa_cons (fv 1) (fa_cons (pe_op fo_fdiv (fv 2) pe_int) fa_nil)))))))))) (pss_one (ps_ret pe_bl)) pss_nil)
      (pss_one (ps_if (L2.PW.pt (pw_and (ft_cmp (fo_eqQ K HU) (fv 6) pe_int (nomark _)) (pw_and1 (pt_not (ft_val (pe_callX G__law_no_booking (hr.mono (by decide)) rfl T.m__law_no_booking T.F__law_no_booking.kp b__law_no_booking .nil PX (FA.pa (fa_cons (fv 0) (fa_cons (fv 5) fa_nil))))))))) (pss_one (ps_ret pe_bl)) pss_nil)))))
      (pss_one (ps_ret pe_bl))), fun x4 odd H1 sm nT kd ao => ?_⟩
    ((try dsimp only [sp_is_whole, sp_start, sp_first_day, sp_last_day, sp5, sp_g_init, sp_g_closed, sp_g_lets, sp_g_need, sp_g_shut, sp_j_init, sp_j_put, sp_j_many, sp_j_booking, sp_j_every, sp_j_undone, sp_at, sp_lengths, sp_ends, sp_word, sp_shut, sp_no, sp_gr, sp_put, sp_all, sp_ones]); try simp only [rdAll, rdI, V.int.injEq, V.ref.injEq, eqQ_int, eqQ_bl, eqQ_str, eqQ_ref, eqQ_nn, eqQ_ni, eqQ_in, eqQ_is, eqQ_si, L2.start, List.map_cons, List.map_nil, List.cons_append, List.nil_append, List.append_nil, List.length_cons, List.length_nil, List.replicate, List.getElem?_cons_zero, List.getElem?_cons_succ, List.set_cons_zero, List.set_cons_succ, Nat.reduceSub, Nat.reduceAdd, Int.reduceLT, Int.reduceLE, Int.reducePow, Int.reduceNeg, Nat.reducePow, List.cons.injEq, exists_eq_left', exists_eq_left, eq_self, if_false, if_true, ↓reduceIte, ite_not, forall_const, Option.join, Option.bind_some, id_eq])
    refine for_tupB ?_
    ((try dsimp only [sp_is_whole, sp_start, sp_first_day, sp_last_day, sp5, sp_g_init, sp_g_closed, sp_g_lets, sp_g_need, sp_g_shut, sp_j_init, sp_j_put, sp_j_many, sp_j_booking, sp_j_every, sp_j_undone, sp_at, sp_lengths, sp_ends, sp_word, sp_shut, sp_no, sp_gr, sp_put, sp_all, sp_ones]); try simp only [rdAll, rdI, V.int.injEq, V.ref.injEq, eqQ_int, eqQ_bl, eqQ_str, eqQ_ref, eqQ_nn, eqQ_ni, eqQ_in, eqQ_is, eqQ_si, L2.start, List.map_cons, List.map_nil, List.cons_append, List.nil_append, List.append_nil, List.length_cons, List.length_nil, List.replicate, List.getElem?_cons_zero, List.getElem?_cons_succ, List.set_cons_zero, List.set_cons_succ, Nat.reduceSub, Nat.reduceAdd, Int.reduceLT, Int.reduceLE, Int.reducePow, Int.reduceNeg, Nat.reducePow, List.cons.injEq, exists_eq_left', exists_eq_left, eq_self, if_false, if_true, ↓reduceIte, ite_not, forall_const, Option.join, Option.bind_some, id_eq])
    have th : 3 ≤ sizeLine := by omega
    refine ⟨nT, th, fun r1 hr1 => ⟨th, fun r2 hr2 => ⟨th, fun r3 hr3 => ⟨th, fun r4 hr4 => ⟨th, fun r5 hr5 => ?_⟩⟩⟩⟩⟩
    obtain ⟨I1, e1, t1, a1, n1⟩ := alloc (o := HO.tup [V.int 0, V.int 1, V.int 2]) hr1 nT rfl
    rw [e1] at hr2 hr3 hr4 hr5 ⊢
    obtain ⟨I2, e2, t2, a2, n2⟩ := alloc (o := HO.tup [V.int 1, V.int 2, V.int 0]) hr2 n1 rfl
    rw [e2] at hr3 hr4 hr5 ⊢
    obtain ⟨I3, e3, t3, a3, n3⟩ := alloc (o := HO.tup [V.int 2, V.int 0, V.int 1]) hr3 n2 rfl
    rw [e3] at hr4 hr5 ⊢
    obtain ⟨I4, e4, t4, a4, n4⟩ := alloc (o := HO.tup [V.int 2, V.int 1, V.int 0]) hr4 n3 rfl
    rw [e4] at hr5 ⊢
    obtain ⟨I5, e5, t5, a5, n5⟩ := alloc (o := HO.tup [V.int 1, V.int 0, V.int 2]) hr5 n4 rfl
    rw [e5]
    refine ⟨(((t1.trans t2).trans t3).trans t4).trans t5, by omega, fun r6 hr6 => ?_⟩
    refine pick_refs (waysO 3) (Int.emod_nonneg _ (by decide)) (Int.emod_lt_of_pos _ (by decide)) (fun v hv => ?_) fun q o hq po hw => ?_
    · simp only [List.mem_cons, List.not_mem_nil, or_false] at hv
      rcases hv with rfl | rfl | rfl | rfl | rfl
      · exact ⟨_, _, rfl, hr1, (((t2.trans t3).trans t4).trans t5) _ _ a1, rfl, ways_of [0, 1, 2] (by decide) (by decide)⟩
      · exact ⟨_, _, rfl, t1.free hr2, ((t3.trans t4).trans t5) _ _ a2, rfl, ways_of [1, 2, 0] (by decide) (by decide)⟩
      · exact ⟨_, _, rfl, (t1.trans t2).free hr3, (t4.trans t5) _ _ a3, rfl, ways_of [2, 0, 1] (by decide) (by decide)⟩
      · exact ⟨_, _, rfl, ((t1.trans t2).trans t3).free hr4, t5 _ _ a4, rfl, ways_of [2, 1, 0] (by decide) (by decide)⟩
      · exact ⟨_, _, rfl, (((t1.trans t2).trans t3).trans t4).free hr5, a5, rfl, ways_of [1, 0, 2] (by decide) (by decide)⟩
    obtain ⟨xs, rfl, lx, hx⟩ := hw
    clear e1 t1 a1 n1 e2 t2 a2 n2 e3 t3 a3 n3 e4 t4 a4 n4 e5 t5 a5 n5 hr1 hr2 hr3 hr4 hr5 hr6
    obtain ⟨H2, e1, t1, a1, n1⟩ := alloc (o := HO.tup (xs.map V.int)) hq nT rfl
    rw [e1]
    have s2 := sm.trans t1
    have ps : p ∉ [s'] := by intro z; simp at z; exact ne_at hp S.ls (by intro z; cases z) z
    have us : u ∉ [s'] := by intro z; simp at z; exact ne_at JA.dc S.ls (by intro z; cases z) z
    have bs : b ∉ [s'] := by intro z; simp at z; exact sb z.symm
    have msn : m ∉ [s'] := by intro z; simp at z; exact sm' z.symm
    have noS : ∀ s ∈ [s'], ∀ l, H s ≠ some (.tup l) := by
      intro s hs l e
      simp at hs; subst hs
      rw [S.ls] at e; cases e
    have S0 : ShOk AL H2 s' qs := S.keep (S := []) (Keep.same s2) List.not_mem_nil (fun _ z => nomatch z) (fun _ z => nomatch z)
    refine for_tupC (SqT.of a1) (for_tup (xs := xs.map V.int) (fun i σ H' => Keep [s'] H2 H' ∧ NoT H' ∧ (∃ qs', qs'.length ≤ qs.length + 10 * i ∧ ShOk AL H' s' qs') ∧ ∃ y6, σ = [some (.ref p), some (.ref m), some (.int c), some (.ref s'), x4, some odd, y6]) ⟨Keep.refl, n1, ⟨qs, by omega, S0⟩, none, rfl⟩ (fun i σ H' _ ⟨s, _⟩ => SqT.of (s _ _ a1 (by intro z; simp at z; subst z; rw [s2 _ _ S.ls] at a1; cases a1))) ?_ ?_)
    · rintro i x σ H' hx' ⟨kp, nT, ⟨qs', lq, S'⟩, y6, rfl⟩
      obtain ⟨x, hxm, rfl⟩ := List.mem_map.mp (List.mem_of_getElem? hx')
      have hi : i < xs.length := by
        have := (List.getElem?_eq_some_iff.mp hx').1
        rwa [List.length_map] at this
      have hb := hx x hxm
      have kH : Keep [s'] H H' := (Keep.same s2).trans kp
      have J' := J.keep kH ps bs us msn noS
      have al' : ∀ x ∈ AL, ∃ o, H' x = some o := fun x hx => by
        obtain ⟨o, eo⟩ := al x hx
        by_cases z : x = s'
        · subst z; exact ⟨_, S'.ls⟩
        · exact ⟨o, kH _ _ eo (by simp [z])⟩
      have kd' : ∃ t, kindV H' odd = some t := by
        rcases kd with f | ⟨q, l, rfl, nq, e⟩
        · exact flat_kind f H'
        · exact ⟨"list", by simp [kindV, kp _ _ (t1 _ _ e) (by simp [nq])]⟩
      obtain ⟨tk, kd'⟩ := kd'
      rcases (show x = 0 ∨ x = 1 ∨ x = 2 by omega) with rfl | rfl | rfl
      · ((try dsimp only [sp_is_whole, sp_start, sp_first_day, sp_last_day, sp5, sp_g_init, sp_g_closed, sp_g_lets, sp_g_need, sp_g_shut, sp_j_init, sp_j_put, sp_j_many, sp_j_booking, sp_j_every, sp_j_undone, sp_at, sp_lengths, sp_ends, sp_word, sp_shut, sp_no, sp_gr, sp_put, sp_all, sp_ones]); try simp only [rdAll, rdI, V.int.injEq, V.ref.injEq, eqQ_int, eqQ_bl, eqQ_str, eqQ_ref, eqQ_nn, eqQ_ni, eqQ_in, eqQ_is, eqQ_si, L2.start, List.map_cons, List.map_nil, List.cons_append, List.nil_append, List.append_nil, List.length_cons, List.length_nil, List.replicate, List.getElem?_cons_zero, List.getElem?_cons_succ, List.set_cons_zero, List.set_cons_succ, Nat.reduceSub, Nat.reduceAdd, Int.reduceLT, Int.reduceLE, Int.reducePow, Int.reduceNeg, Nat.reducePow, List.cons.injEq, exists_eq_left', exists_eq_left, eq_self, if_false, if_true, ↓reduceIte, ite_not, forall_const, Option.join, Option.bind_some, id_eq])
        refine ⟨nT, b, u, bks, qs', AL, J', l1, S', by omega, sb, sm', sAL, al', fun qs2 H3 l3 S3 k3 n3 => ?_⟩
        rw [if_neg (by decide), if_neg (by decide)]
        exact ⟨kp.trans k3, n3, ⟨qs2, by omega, S3⟩, _, rfl⟩
      · ((try dsimp only [sp_is_whole, sp_start, sp_first_day, sp_last_day, sp5, sp_g_init, sp_g_closed, sp_g_lets, sp_g_need, sp_g_shut, sp_j_init, sp_j_put, sp_j_many, sp_j_booking, sp_j_every, sp_j_undone, sp_at, sp_lengths, sp_ends, sp_word, sp_shut, sp_no, sp_gr, sp_put, sp_all, sp_ones]); try simp only [rdAll, rdI, V.int.injEq, V.ref.injEq, eqQ_int, eqQ_bl, eqQ_str, eqQ_ref, eqQ_nn, eqQ_ni, eqQ_in, eqQ_is, eqQ_si, L2.start, List.map_cons, List.map_nil, List.cons_append, List.nil_append, List.append_nil, List.length_cons, List.length_nil, List.replicate, List.getElem?_cons_zero, List.getElem?_cons_succ, List.set_cons_zero, List.set_cons_succ, Nat.reduceSub, Nat.reduceAdd, Int.reduceLT, Int.reduceLE, Int.reducePow, Int.reduceNeg, Nat.reducePow, List.cons.injEq, exists_eq_left', exists_eq_left, eq_self, if_false, if_true, ↓reduceIte, ite_not, forall_const, Option.join, Option.bind_some, id_eq])
        rw [if_neg (by decide)]
        refine ⟨nT, b, u, bks, J', l1, ?_⟩
        rw [if_neg (by decide)]
        exact ⟨kp, nT, ⟨qs', by omega, S'⟩, _, rfl⟩
      · ((try dsimp only [sp_is_whole, sp_start, sp_first_day, sp_last_day, sp5, sp_g_init, sp_g_closed, sp_g_lets, sp_g_need, sp_g_shut, sp_j_init, sp_j_put, sp_j_many, sp_j_booking, sp_j_every, sp_j_undone, sp_at, sp_lengths, sp_ends, sp_word, sp_shut, sp_no, sp_gr, sp_put, sp_all, sp_ones]); try simp only [rdAll, rdI, V.int.injEq, V.ref.injEq, eqQ_int, eqQ_bl, eqQ_str, eqQ_ref, eqQ_nn, eqQ_ni, eqQ_in, eqQ_is, eqQ_si, L2.start, List.map_cons, List.map_nil, List.cons_append, List.nil_append, List.append_nil, List.length_cons, List.length_nil, List.replicate, List.getElem?_cons_zero, List.getElem?_cons_succ, List.set_cons_zero, List.set_cons_succ, Nat.reduceSub, Nat.reduceAdd, Int.reduceLT, Int.reduceLE, Int.reducePow, Int.reduceNeg, Nat.reducePow, List.cons.injEq, exists_eq_left', exists_eq_left, eq_self, if_false, if_true, ↓reduceIte, ite_not, forall_const, Option.join, Option.bind_some, id_eq])
        rw [if_neg (by decide), if_neg (by decide)]
        obtain ⟨vs', JA', RV'⟩ := J'.jr
        have lv' := RV'.len
        exact ⟨nT, asK.of kd' ⟨b, u, vs', _, JA', by omega, by rw [lv']; exact ao, kp, nT, ⟨qs', by omega, S'⟩, _, rfl⟩⟩
    · rintro σ H' ⟨kp, nT, ⟨qs', lq, S'⟩, y6, rfl⟩
      ((try dsimp only [sp_is_whole, sp_start, sp_first_day, sp_last_day, sp5, sp_g_init, sp_g_closed, sp_g_lets, sp_g_need, sp_g_shut, sp_j_init, sp_j_put, sp_j_many, sp_j_booking, sp_j_every, sp_j_undone, sp_at, sp_lengths, sp_ends, sp_word, sp_shut, sp_no, sp_gr, sp_put, sp_all, sp_ones]); try simp only [rdAll, rdI, V.int.injEq, V.ref.injEq, eqQ_int, eqQ_bl, eqQ_str, eqQ_ref, eqQ_nn, eqQ_ni, eqQ_in, eqQ_is, eqQ_si, L2.start, List.map_cons, List.map_nil, List.cons_append, List.nil_append, List.append_nil, List.length_cons, List.length_nil, List.replicate, List.getElem?_cons_zero, List.getElem?_cons_succ, List.set_cons_zero, List.set_cons_succ, Nat.reduceSub, Nat.reduceAdd, Int.reduceLT, Int.reduceLE, Int.reducePow, Int.reduceNeg, Nat.reducePow, List.cons.injEq, exists_eq_left', exists_eq_left, eq_self, if_false, if_true, ↓reduceIte, ite_not, forall_const, Option.join, Option.bind_some, id_eq])
      rw [List.length_map] at lq
      exact k qs' H' (by omega) S' ((Keep.same s2).trans kp) nT
  obtain ⟨u2, hu2, c2⟩ := c2
  refine ⟨_, (pss_cons (ps_set (i := 4) ND rfl (Or.inl rfl) (pe_callB (fc_lenK K) rfl T.z_len bb_len (FA.pa (fa_cons (fv 1) fa_nil))))
      (pss_cons (ps_set (i := 5) ND rfl (Or.inl rfl) (fe_pickL (FA.pa (fa_cons (fv 4) (fa_cons (pe_un fu_neg pe_int) (fa_cons pe_bl (fa_cons pe_non (fa_cons (pe_strT [48]) (fa_cons (pe_op fo_add (fv 4) (pe_op fo_mod (fv 2) (pe_op fo_pow pe_int pe_int))) (fa_cons (pe_lst (FA.pa (fa_cons pe_int fa_nil))) fa_nil)))))))) (pe_op fo_mod (fv 2) pe_int) (fun _ _ => rfl)))
      hu2)), ?_⟩
  ((try dsimp only [sp_is_whole, sp_start, sp_first_day, sp_last_day, sp5, sp_g_init, sp_g_closed, sp_g_lets, sp_g_need, sp_g_shut, sp_j_init, sp_j_put, sp_j_many, sp_j_booking, sp_j_every, sp_j_undone, sp_at, sp_lengths, sp_ends, sp_word, sp_shut, sp_no, sp_gr, sp_put, sp_all, sp_ones]); try simp only [rdAll, rdI, V.int.injEq, V.ref.injEq, eqQ_int, eqQ_bl, eqQ_str, eqQ_ref, eqQ_nn, eqQ_ni, eqQ_in, eqQ_is, eqQ_si, L2.start, List.map_cons, List.map_nil, List.cons_append, List.nil_append, List.append_nil, List.length_cons, List.length_nil, List.replicate, List.getElem?_cons_zero, List.getElem?_cons_succ, List.set_cons_zero, List.set_cons_succ, Nat.reduceSub, Nat.reduceAdd, Int.reduceLT, Int.reduceLE, Int.reducePow, Int.reduceNeg, Nat.reducePow, List.cons.injEq, exists_eq_left', exists_eq_left, eq_self, if_false, if_true, ↓reduceIte, ite_not, forall_const, Option.join, Option.bind_some, id_eq])
  have hc := Int.emod_nonneg c (show (10 ^ Int.toNat 12 : Int) ≠ 0 by decide)
  refine ⟨ws, .inl (.inl (.inl hm)), hN, by decide, by decide, by omega, fun r hr => ⟨same_upd _ hr, by omega, fun r2 hr2 => pick_or (Int.emod_nonneg _ (by decide)) (Int.emod_lt_of_pos _ (by decide)) fun v hv => ?_⟩⟩
  have fl : ∀ v, flP v → amg v 0 ((bks.length : Int) - 1) = false → (flP v ∧ u2 { nx := fun _ H' => Q V.non H', rt := Q } [some (V.ref p), some (V.ref m), some (V.int c), some (V.ref s'), some (V.int ws.length), some v, none] H) ∨ (∃ p' o, v = .ref p' ∧ H p' = none ∧ upd H r (HO.lst [V.int 0]) p' = some o ∧ plainO o = true ∧ u2 { nx := fun _ H' => Q V.non H', rt := Q } [some (V.ref p), some (V.ref m), some (V.int c), some (V.ref s'), some (V.int ws.length), some (.ref p'), none] (upd H p' o)) := fun v f e => .inl ⟨f, c2 _ v H (Same.refl _) hN (.inl f) e⟩
  simp only [List.mem_cons, List.not_mem_nil, or_false] at hv
  rcases hv with rfl | rfl | rfl | rfl | rfl | rfl | rfl
  · exact fl _ trivial (by simp [amg]; omega)
  · exact fl _ trivial (by simp [amg])
  · exact fl _ trivial rfl
  · exact fl _ trivial rfl
  · exact fl _ trivial rfl
  · exact fl _ trivial (by simp [amg]; omega)
  · exact .inr ⟨r, _, rfl, hr, upd_same, rfl, c2 _ (.ref r) _ (same_upd _ hr) (noT_upd hN rfl) (.inr ⟨r, _, rfl, (ne_of_none S.ls hr).symm, upd_same⟩) rfl⟩
end
end K13
set_option Elab.async false
set_option linter.all false
set_option maxRecDepth 100000
set_option maxHeartbeats 400000
namespace K13
open PySem L2
seal L2.PE L2.PT L2.PW L2.PA L2.PS L2.PSs L2.PI L2.PG L2.PGs L2.PO
section
variable {pS : Addr} {ns : List Int} {P : Program} {w : World} {K : PySem.W.Frag} {mg : Str → Option Value} {base : Heap} {a : Adr}
open K3
structure WS (C D : Addr) (ad : Nat → Addr) (H : Hp) (bk : Nat → List Bk) (ms : Nat → List Int) (qs : List V) : Prop where
  js : ∀ w, w < 2 → JS C H (ad (3 * w)) (ad (3 * w + 1)) (ad (3 * w + 2)) (ad (10 + w)) (bk w)
  gs : ∀ w, w < 2 → GAt D H (ad (7 + w)) (ad (13 + w)) (ms w)
  sh : ShOk ((List.range 17).map ad) H (ad 16) qs
  jl : H (ad 6) = some (.lst [.ref (ad 0), .ref (ad 3)])
  gl : H (ad 9) = some (.lst [.ref (ad 7), .ref (ad 8)])
  ml : H (ad 12) = some (.lst [.ref (ad 10), .ref (ad 11)])
  nl : H (ad 15) = some (.lst [.ref (ad 13), .ref (ad 14)])
def Inj (ad : Nat → Addr) : Prop := ∀ i j, i < 17 → j < 17 → ad i = ad j → i = j
theorem Inj.not {ad : Nat → Addr} (h : Inj ad) {i : Nat} {js : List Nat} (hi : i < 17) (hj : ∀ j ∈ js, j < 17 ∧ j ≠ i) : ad i ∉ js.map ad := fun hm => by
  obtain ⟨j, m, e⟩ := List.mem_map.mp hm
  exact (hj j m).2 (h j i (hj j m).1 hi e)
theorem two_of {w : Nat} (h : w < 2) : w = 0 ∨ w = 1 := by
  match w, h with
  | 0, _ => exact .inl rfl
  | 1, _ => exact .inr rfl
theorem below17 {i : Nat} {P : Nat → Prop} (h : i < 17) (h0 : P 0) (h1 : P 1) (h2 : P 2) (h3 : P 3) (h4 : P 4) (h5 : P 5) (h6 : P 6) (h7 : P 7) (h8 : P 8) (h9 : P 9) (h10 : P 10) (h11 : P 11) (h12 : P 12) (h13 : P 13) (h14 : P 14) (h15 : P 15) (h16 : P 16) : P i := by
  match i, h with
  | 0, _ => exact h0
  | 1, _ => exact h1
  | 2, _ => exact h2
  | 3, _ => exact h3
  | 4, _ => exact h4
  | 5, _ => exact h5
  | 6, _ => exact h6
  | 7, _ => exact h7
  | 8, _ => exact h8
  | 9, _ => exact h9
  | 10, _ => exact h10
  | 11, _ => exact h11
  | 12, _ => exact h12
  | 13, _ => exact h13
  | 14, _ => exact h14
  | 15, _ => exact h15
  | 16, _ => exact h16
  | n + 17, h => exact absurd h (by omega)
theorem WS.all {C D : Addr} {ad : Nat → Addr} {H : Hp} {bk : Nat → List Bk} {ms : Nat → List Int} {qs : List V} (W : WS C D ad H bk ms qs) : ∀ i, i < 17 → ∃ o, H (ad i) = some o ∧ ∀ l, o ≠ .tup l := fun i hi => by
  obtain ⟨⟨v0, ⟨⟨d0, j1⟩, j2, j3⟩, _⟩, ⟨w0, j4, _⟩, _, _, _⟩ := W.js 0 (by decide)
  obtain ⟨⟨v1, ⟨⟨d1, k1⟩, k2, k3⟩, _⟩, ⟨w1, k4, _⟩, _, _, _⟩ := W.js 1 (by decide)
  obtain ⟨⟨e0, g1⟩, g2, _⟩ := W.gs 0 (by decide)
  obtain ⟨⟨e1, h1⟩, h2, _⟩ := W.gs 1 (by decide)
  refine below17 (P := fun i => ∃ o, H (ad i) = some o ∧ ∀ l, o ≠ .tup l) hi ?_ ?_ ?_ ?_ ?_ ?_ ?_ ?_ ?_ ?_ ?_ ?_ ?_ ?_ ?_ ?_ ?_
  · exact ⟨_, j1, fun l z => nomatch z⟩
  · exact ⟨_, j2, fun l z => nomatch z⟩
  · exact ⟨_, j3, fun l z => nomatch z⟩
  · exact ⟨_, k1, fun l z => nomatch z⟩
  · exact ⟨_, k2, fun l z => nomatch z⟩
  · exact ⟨_, k3, fun l z => nomatch z⟩
  · exact ⟨_, W.jl, fun l z => nomatch z⟩
  · exact ⟨_, g1, fun l z => nomatch z⟩
  · exact ⟨_, h1, fun l z => nomatch z⟩
  · exact ⟨_, W.gl, fun l z => nomatch z⟩
  · exact ⟨_, j4, fun l z => nomatch z⟩
  · exact ⟨_, k4, fun l z => nomatch z⟩
  · exact ⟨_, W.ml, fun l z => nomatch z⟩
  · exact ⟨_, g2, fun l z => nomatch z⟩
  · exact ⟨_, h2, fun l z => nomatch z⟩
  · exact ⟨_, W.nl, fun l z => nomatch z⟩
  · exact ⟨_, W.sh.ls, fun l z => nomatch z⟩
section
variable {C D : Addr} {ad : Nat → Addr} {H H' : Hp} {bk : Nat → List Bk} {ms : Nat → List Int} {qs qs' : List V}
theorem WS.noS (W : WS C D ad H bk ms qs) (is : List Nat) (h : ∀ i ∈ is, i < 17) : ∀ s ∈ is.map ad, ∀ l, H s ≠ some (.tup l) := fun s hs l e => by
  obtain ⟨i, hi, rfl⟩ := List.mem_map.mp hs
  obtain ⟨o, eo, no⟩ := W.all i (h i hi)
  rw [eo] at e; cases e; exact no l rfl
theorem WS.put (W : WS C D ad H bk ms qs) (I : Inj ad) {w : Nat} (hw : w < 2) (kp : Keep ([3 * w + 1, 3 * w + 2, 10 + w].map ad) H H') {b' : List Bk} (J : JS C H' (ad (3 * w)) (ad (3 * w + 1)) (ad (3 * w + 2)) (ad (10 + w)) b') :
    WS C D ad H' (fun v => if v = w then b' else bk v) ms qs := by
  have nS := W.noS [3 * w + 1, 3 * w + 2, 10 + w] (by rcases two_of hw with rfl | rfl <;> decide)
  have nt : ∀ i, i < 17 → (∀ j ∈ [3 * w + 1, 3 * w + 2, 10 + w], j < 17 ∧ j ≠ i) → ad i ∉ [3 * w + 1, 3 * w + 2, 10 + w].map ad := fun i hi h => I.not hi h
  refine ⟨fun v hv => ?_, fun v hv => ?_, W.sh.keep kp (nt _ (by decide) ?_) (fun y hy => ?_) nS, ?_, ?_, ?_, ?_⟩
  · by_cases e : v = w
    · subst e; rw [if_pos rfl]; exact J
    · rw [if_neg e]
      refine (W.js v hv).keep kp (nt _ ?_ ?_) (nt _ ?_ ?_) (nt _ ?_ ?_) (nt _ ?_ ?_) nS
      all_goals (rcases two_of hw with rfl | rfl <;> rcases two_of hv with rfl | rfl <;> first | exact absurd rfl e | decide)
  · refine (W.gs v hv).keep kp (nt _ ?_ ?_) (nt _ ?_ ?_)
    all_goals (rcases two_of hw with rfl | rfl <;> rcases two_of hv with rfl | rfl <;> decide)
  · rcases two_of hw with rfl | rfl <;> decide
  · obtain ⟨i, hi, rfl⟩ := List.mem_map.mp hy
    exact List.mem_map.mpr ⟨i, List.mem_range.mpr ((show ∀ i ∈ [3 * w + 1, 3 * w + 2, 10 + w], i < 17 by rcases two_of hw with rfl | rfl <;> decide) i hi), rfl⟩
  · exact kp _ _ W.jl (nt _ (by decide) (by rcases two_of hw with rfl | rfl <;> decide))
  · exact kp _ _ W.gl (nt _ (by decide) (by rcases two_of hw with rfl | rfl <;> decide))
  · exact kp _ _ W.ml (nt _ (by decide) (by rcases two_of hw with rfl | rfl <;> decide))
  · exact kp _ _ W.nl (nt _ (by decide) (by rcases two_of hw with rfl | rfl <;> decide))
theorem WS.shut (W : WS C D ad H bk ms qs) (I : Inj ad) {w : Nat} (hw : w < 2) (kp : Keep ([7 + w, 13 + w].map ad) H H') {m' : List Int} (J : GAt D H' (ad (7 + w)) (ad (13 + w)) m') :
    WS C D ad H' bk (fun v => if v = w then m' else ms v) qs := by
  have nS := W.noS [7 + w, 13 + w] (by rcases two_of hw with rfl | rfl <;> decide)
  have nt : ∀ i, i < 17 → (∀ j ∈ [7 + w, 13 + w], j < 17 ∧ j ≠ i) → ad i ∉ [7 + w, 13 + w].map ad := fun i hi h => I.not hi h
  refine ⟨fun v hv => ?_, fun v hv => ?_, W.sh.keep kp (nt _ (by decide) ?_) (fun y hy => ?_) nS, ?_, ?_, ?_, ?_⟩
  · refine (W.js v hv).keep kp (nt _ ?_ ?_) (nt _ ?_ ?_) (nt _ ?_ ?_) (nt _ ?_ ?_) nS
    all_goals (rcases two_of hw with rfl | rfl <;> rcases two_of hv with rfl | rfl <;> decide)
  · by_cases e : v = w
    · subst e; rw [if_pos rfl]; exact J
    · rw [if_neg e]
      refine (W.gs v hv).keep kp (nt _ ?_ ?_) (nt _ ?_ ?_)
      all_goals (rcases two_of hw with rfl | rfl <;> rcases two_of hv with rfl | rfl <;> first | exact absurd rfl e | decide)
  · rcases two_of hw with rfl | rfl <;> decide
  · obtain ⟨i, hi, rfl⟩ := List.mem_map.mp hy
    exact List.mem_map.mpr ⟨i, List.mem_range.mpr ((show ∀ i ∈ [7 + w, 13 + w], i < 17 by rcases two_of hw with rfl | rfl <;> decide) i hi), rfl⟩
  · exact kp _ _ W.jl (nt _ (by decide) (by rcases two_of hw with rfl | rfl <;> decide))
  · exact kp _ _ W.gl (nt _ (by decide) (by rcases two_of hw with rfl | rfl <;> decide))
  · exact kp _ _ W.ml (nt _ (by decide) (by rcases two_of hw with rfl | rfl <;> decide))
  · exact kp _ _ W.nl (nt _ (by decide) (by rcases two_of hw with rfl | rfl <;> decide))
theorem WS.show (W : WS C D ad H bk ms qs) (I : Inj ad) (kp : Keep ([16].map ad) H H') (S : ShOk ((List.range 17).map ad) H' (ad 16) qs') : WS C D ad H' bk ms qs' := by
  have nS := W.noS [16] (by decide)
  have nt : ∀ i, i < 17 → (∀ j ∈ [16], j < 17 ∧ j ≠ i) → ad i ∉ [16].map ad := fun i hi h => I.not hi h
  refine ⟨fun v hv => ?_, fun v hv => ?_, S, kp _ _ W.jl (nt _ (by decide) (by decide)), kp _ _ W.gl (nt _ (by decide) (by decide)), kp _ _ W.ml (nt _ (by decide) (by decide)), kp _ _ W.nl (nt _ (by decide) (by decide))⟩
  · refine (W.js v hv).keep kp (nt _ ?_ ?_) (nt _ ?_ ?_) (nt _ ?_ ?_) (nt _ ?_ ?_) nS
    all_goals (rcases two_of hv with rfl | rfl <;> decide)
  · refine (W.gs v hv).keep kp (nt _ ?_ ?_) (nt _ ?_ ?_)
    all_goals (rcases two_of hv with rfl | rfl <;> decide)
theorem WS.same (W : WS C D ad H bk ms qs) (s : Same H H') : WS C D ad H' bk ms qs :=
  ⟨fun v hv => (W.js v hv).keep (S := []) (Keep.same s) List.not_mem_nil List.not_mem_nil List.not_mem_nil List.not_mem_nil (fun _ z => nomatch z), fun v hv => (W.gs v hv).keep (S := []) (Keep.same s) List.not_mem_nil List.not_mem_nil, W.sh.keep (S := []) (Keep.same s) List.not_mem_nil (fun _ z => nomatch z) (fun _ z => nomatch z), s _ _ W.jl, s _ _ W.gl, s _ _ W.ml, s _ _ W.nl⟩
end
theorem eqR_selfL {K : PySem.W.Frag} {H : Hp} {p q : Addr} {xs : List V} (hx : SqL K H p xs) (hy : SqL K H q xs) (f : ∀ x ∈ xs, flatV x = true ∨ ∃ r, x = .ref r) : EqR K H p q true := by
  have h := EqR.lst (K := K) (H := H) (e := fun _ => true) hx hy rfl fun j x y gx gy => by
    rw [gx] at gy
    cases gy
    rcases f x (List.mem_of_getElem? gx) with h | ⟨r, rfl⟩
    · have e : eqV x x = true := by cases x <;> simp [eqV] at h ⊢ <;> simp [flatV] at h
      have := EqH.flat (K := K) (H := H) (n := 50) h h
      rw [e] at this; exact this
    · exact .same
  rwa [all_t] at h
theorem comp_lstT {K : PySem.W.Frag} {tl : TE} {n : Nat} {g : TG} {ks : List Nat} {σ : St} {H H1 : Hp} {Q : VK} {tt : TT} {te : TE} (a : Addr) (vs : List V) (C : Hp → Prop) (hC : ∀ D ys, H1 D = none → C (upd H1 D (.lst ys))) (hT : ∀ H, C H → SqL K H a vs) (zs : V → St) (p : V → Bool) (f : V → V)
    (hl : ∀ R : VK, R (.ref a) H1 → tl σ H R) (h1 : SqL K H1 a vs) (hz : vs.length ≤ sizeLine)
    (hg : ∀ x ∈ vs, ∀ (z0 : St) H (R : St → Hp → Prop), C H → z0.length = n → R (zs x ++ ks.map fun k => (σ[k]?).join) H → g x (z0 ++ ks.map fun k => (σ[k]?).join) H R) (hn : ∀ x ∈ vs, (zs x).length = n)
    (hp : ∀ x ∈ vs, ∀ H (R : Bool → Hp → Prop), C H → R (p x) H → tt (zs x ++ ks.map fun k => (σ[k]?).join) H R) (hf : ∀ x ∈ vs, p x = true → ∀ H (R : VK), C H → R (f x) H → te (zs x ++ ks.map fun k => (σ[k]?).join) H R)
    (q : ∀ D, H1 D = none → Q (.ref D) (upd H1 D (.lst ((vs.filter p).map f)))) : tCompT (iList K tl) n g ks tt te σ H Q :=
  hl _ ⟨a, rfl, ⟨vs, h1⟩, fun D hD => comp_enumT C (enum_lst hT) zs p f hz hg hn hp hf D hD (fun ys => hC D ys hD) (q D hD)⟩
theorem Keep.toSame {S : List Addr} {H H1 H2 : Hp} (s : Same H H1) (k : Keep S H1 H2) (h : ∀ x ∈ S, H x = none) : Same H H2 := fun c z e => k _ _ (s _ _ e) fun m => by rw [h c m] at e; cases e
def itC (J : It) : TI := fun _ H R => R J H
theorem for_rng3 {ta : TA} {g : TG} {tb : TS} {D : Ends} {σ : St} {H : Hp} (h : ta σ H fun vs H1 => ∃ i j c : Int, vs = [.int i, .int j, .int c] ∧ (0 ≤ i ∧ i < 1000000 ∧ 0 ≤ j ∧ j < 1000000 ∧ 1 ≤ c ∧ c < 1000000) ∧ tFor (itC (Itr3 i c (rsz i j c))) g tb D σ H1) : tFor (iRng3 ta) g tb D σ H := h
theorem getD_at {xs : List Addr} {i : Nat} (h : i < xs.length) : xs.getD i 0 = xs[i] := by simp [List.getD, h]
structure FrL (H Hc : Hp) (xs : List Addr) : Prop where
  nd : xs.Nodup
  al : ∀ x ∈ xs, ∃ o, Hc x = some o
  f0 : ∀ x ∈ xs, H x = none
  sm : Same H Hc
  nT : NoT Hc
theorem FrL.add {H Hc Hd : Hp} {xs ys : List Addr} (F : FrL H Hc xs) (s : Same Hc Hd) (n : NoT Hd) (nd : ys.Nodup) (h : ∀ y ∈ ys, Hc y = none ∧ ∃ o, Hd y = some o) : FrL H Hd (ys ++ xs) := by
  refine ⟨List.nodup_append.mpr ⟨nd, F.nd, ?_⟩, ?_, ?_, F.sm.trans s, n⟩
  · rintro x hx y hy rfl
    obtain ⟨o, e⟩ := F.al x hy
    rw [(h x hx).1] at e; cases e
  · intro x hx
    rcases List.mem_append.mp hx with hx | hx
    · exact (h x hx).2
    · obtain ⟨o, e⟩ := F.al x hx
      exact ⟨o, s _ _ e⟩
  · intro x hx
    rcases List.mem_append.mp hx with hx | hx
    · exact F.sm.free (h x hx).1
    · exact F.f0 x hx
theorem FrL.one {H Hc Hd : Hp} {xs : List Addr} {x : Addr} {o : HO} (F : FrL H Hc xs) (s : Same Hc Hd) (n : NoT Hd) (hx : Hc x = none) (hd : Hd x = some o) : FrL H Hd (x :: xs) :=
  F.add (ys := [x]) s n (by simp) (by intro y hy; simp at hy; subst hy; exact ⟨hx, _, hd⟩)
theorem mkJ {C : Addr} {Hc H' : Hp} {x dx b u : Addr} (hx : Hc x = none) (hdx : Hc dx = none) (ne : dx ≠ x) (hb : upd (upd Hc dx (.own x)) x (.ins C dx []) b = none) (hu : upd (upd Hc dx (.own x)) x (.ins C dx []) u = none) (J : JAt C H' x b u [] [])
    (kp : Keep [x] (upd (upd Hc dx (.own x)) x (.ins C dx [])) H') : Same Hc H' ∧ [u, b, x].Nodup ∧ ∀ y ∈ [u, b, x], Hc y = none ∧ ∃ o, H' y = some o := by
  have s1 : Same Hc (upd (upd Hc dx (.own x)) x (.ins C dx [])) := (same_upd _ hdx).trans (same_upd _ (by rw [upd_ne (Ne.symm ne)]; exact hx))
  obtain ⟨d, hp⟩ := J.ob
  refine ⟨fun c z e => kp _ _ (s1 _ _ e) (by intro m; simp at m; subst m; rw [hx] at e; cases e), ?_, ?_⟩
  · have h1 : u ≠ b := ne_at J.dc J.ls (by intro z; cases z)
    have h2 : u ≠ x := ne_at J.dc hp (by intro z; cases z)
    have h3 : b ≠ x := ne_at J.ls hp (by intro z; cases z)
    simp [h1, h2, h3]
  · intro y hy
    simp at hy
    rcases hy with rfl | rfl | rfl
    · exact ⟨s1.free hu, _, J.dc⟩
    · exact ⟨s1.free hb, _, J.ls⟩
    · exact ⟨hx, _, hp⟩
theorem mkG {C : Addr} {Hc : Hp} {x dx : Addr} (hx : Hc x = none) (hdx : Hc dx = none) (ne : dx ≠ x) (n : NoT Hc) : ∃ Hd, upd (upd (upd Hc dx (.own x)) x (.ins C dx [])) x (gateO C dx .non) = Hd ∧ Same Hc Hd ∧ Hd x = some (gateO C dx .non) ∧ NoT Hd := by
  refine ⟨_, rfl, ?_, upd_same, noT_upd (noT_upd (noT_upd n rfl) rfl) rfl⟩
  rw [upd_upd]
  exact (same_upd _ hdx).trans (same_upd _ (by rw [upd_ne (Ne.symm ne)]; exact hx))
def sp_law (K : PySem.W.Frag) : Sp := sp1 fun x H Q _ => asR x fun p => NoT H ∧ ∃ ns : List Int, SqL K H p (ns.map V.int) ∧ Q (.bl true) H
theorem ok_law (T : Txt K mg a) : FnOk P w K mg base (XE P w) 14 a.f_law a.fd_law ["_law_script"] (sp_law K) := by
  refine T.F_law.okG sc_law (fun vs H Q E h => sp1.len h) (fun cdv A outer s H vs Q E hr h => ?_)
  obtain ⟨x0, rfl, h⟩ := sp1.inv h
  have ND := sc_law.nd
  have PX : Passes' (XE P w) (cxOf (XE P w) P w K mg base ["_law_script", "_law_journals", "_law_gates", "_law_mine", "_law_months", "_law_shown", "_law_k", "_law_cell", "_law_more", "_law_which", "_law_good", "_law_one"] "law" (defScope s_law) a.f_law cdv A outer s H (gcE H E)) (fun _ => (gcE H E)) := passB
  have RX : Raises (cxOf (XE P w) P w K mg base ["_law_script", "_law_journals", "_law_gates", "_law_mine", "_law_months", "_law_shown", "_law_k", "_law_cell", "_law_more", "_law_which", "_law_good", "_law_one"] "law" (defScope s_law) a.f_law cdv A outer s H (gcE H E)) (fun _ => (gcE H E)) := raisesB
  have HU : (cxOf (XE P w) P w K mg base ["_law_script", "_law_journals", "_law_gates", "_law_mine", "_law_months", "_law_shown", "_law_k", "_law_cell", "_law_more", "_law_which", "_law_good", "_law_one"] "law" (defScope s_law) a.f_law cdv A outer s H (gcE H E)).A.units + 100 < cLine := units100 hr
  have PW : PassesOwn (model P w) (cxOf (XE P w) P w K mg base ["_law_script", "_law_journals", "_law_gates", "_law_mine", "_law_months", "_law_shown", "_law_k", "_law_cell", "_law_more", "_law_which", "_law_good", "_law_one"] "law" (defScope s_law) a.f_law cdv A outer s H (gcE H E)).A (cxOf (XE P w) P w K mg base ["_law_script", "_law_journals", "_law_gates", "_law_mine", "_law_months", "_law_shown", "_law_k", "_law_cell", "_law_more", "_law_which", "_law_good", "_law_one"] "law" (defScope s_law) a.f_law cdv A outer s H (gcE H E)).env (cxOf (XE P w) P w K mg base ["_law_script", "_law_journals", "_law_gates", "_law_mine", "_law_months", "_law_shown", "_law_k", "_law_cell", "_law_more", "_law_which", "_law_good", "_law_one"] "law" (defScope s_law) a.f_law cdv A outer s H (gcE H E)).xe := by passes_own
  obtain ⟨pS, rfl, hN, ns, hS, k⟩ := asR.inv h
  have G__law_gate_right := ok__law_gate_right (P := P) (w := w) (base := base) T
  have b__law_gate_right := bn__law_gate_right T.F__law_gate_right
  have G__law_journal_right := ok__law_journal_right (P := P) (w := w) (base := base) T
  have b__law_journal_right := bn__law_journal_right T.F__law_journal_right
  have G__law_put := ok__law_put (P := P) (w := w) (base := base) T
  have b__law_put := bn__law_put T.F__law_put
  have G__law_shut := ok__law_shut (P := P) (w := w) (base := base) T
  have b__law_shut := bn__law_shut T.F__law_shut
  have G__law_cell_at := ok__law_cell_at (P := P) (w := w) (base := base) T (pS := pS) (ns := ns)
  have b__law_cell_at := bn__law_cell_at T.F__law_cell_at
  have G_Gate___init__ := ok_Gate___init__ (P := P) (w := w) (base := base) T
  have b_Gate___init__ := bn_Gate___init__ T.F_Gate___init__
  have G_Journal___init__ := ok_Journal___init__ (P := P) (w := w) (base := base) T
  have b_Journal___init__ := bn_Journal___init__ T.F_Journal___init__
  have sz : 10000 ≤ sizeLine := by rw [sizeLine_eq]; decide
  have c6 : ∃ u, PSs (cxOf (XE P w) P w K mg base ["_law_script", "_law_journals", "_law_gates", "_law_mine", "_law_months", "_law_shown", "_law_k", "_law_cell", "_law_more", "_law_which", "_law_good", "_law_one"] "law" (defScope s_law) a.f_law cdv A outer s H (gcE H E)) (List.drop 6 (defBody s_law)) u ∧ ∀ ad bk ms qs x6 x7 x8 x9 x10 x11 H1, WS a.c_Journal a.c_Gate ad H1 bk ms qs → Same H H1 → NoT H1 → qs.length ≤ 5000 → (∀ w, w < 2 → (ms w).length ≤ 50) →
      u { nx := fun _ H' => ∃ G, Gc H G H' ∧ Q .non G, rt := fun v H' => ∃ G, Gc H G H' ∧ Q v G } [some (.ref pS), some (.ref (ad 6)), some (.ref (ad 9)), some (.ref (ad 12)), some (.ref (ad 15)), some (.ref (ad 16)), x6, x7, x8, x9, x10, x11] H1 := by
    refine ⟨_, (pss_cons (ps_if (pt_gc (ft_cmp (fo_neQ K HU) (pe_compT rfl (cl := _) (x := "_law_found") (xs := ["_law_found", "_law_copy"]) (fr := []) (ks := []) (by exact ⟨rfl, by decide +kernel, rfl, by decide +kernel, rfl, keys_of rfl, rfl, kinds_of rfl, kinds_of (k := fun y => List.lookup y _) rfl, only_of rfl⟩) rfl (fi_listK K (fv 5)) (fun _ _ _ _ _ => (fg_tupK K (n := 2) rfl (pgs_cons (pg_name (i := 0) (nd_of (l := ["_law_found", "_law_copy"]) (by decide)) rfl (Or.inl rfl)) (pgs_cons (pg_name (i := 1) (nd_of (l := ["_law_found", "_law_copy"]) (by decide)) rfl (Or.inl rfl)) pgs_nil)))) (fun _ _ _ _ _ => (pts_one (ft_cmp (fo_neQ K HU) (fv 0) (fv 1) (nomark _)))) (fun _ _ _ _ _ => pe_int)) (pe_lst (FA.pa fa_nil)) (nomark _))) (pss_one (ps_ret pe_bl)) pss_nil)
      (pss_one (ps_ret (fe_and (pe_callX G__law_gate_right (hr.mono (by decide)) rfl T.m__law_gate_right T.F__law_gate_right.kp b__law_gate_right .nil PX (FA.pa (fa_cons (pe_ix (fx_seqK K) (fv 2) pe_int (fun _ _ => rfl)) (fa_cons (pe_ix (fx_seqK K) (fv 4) pe_int (fun _ _ => rfl)) (fa_cons pe_int fa_nil))))) (pe_one (pe_callX G__law_gate_right (hr.mono (by decide)) rfl T.m__law_gate_right T.F__law_gate_right.kp b__law_gate_right .nil PX (FA.pa (fa_cons (pe_ix (fx_seqK K) (fv 2) pe_int (fun _ _ => rfl)) (fa_cons (pe_ix (fx_seqK K) (fv 4) pe_int (fun _ _ => rfl)) (fa_cons pe_int fa_nil)))))))))), fun ad bk ms qs x6 x7 x8 x9 x10 x11 H1 W sm nT l1 l2 => ?_⟩
    ((try dsimp only [sp_is_whole, sp_start, sp_first_day, sp_last_day, sp5, sp_g_init, sp_g_closed, sp_g_lets, sp_g_need, sp_g_shut, sp_j_init, sp_j_put, sp_j_many, sp_j_booking, sp_j_every, sp_j_undone, sp_at, sp_lengths, sp_ends, sp_word, sp_shut, sp_no, sp_gr, sp_put, sp_all, sp_ones, sp_jr]); try simp only [rdAll, rdI, V.int.injEq, V.ref.injEq, eqQ_int, eqQ_bl, eqQ_str, eqQ_ref, eqQ_nn, eqQ_ni, eqQ_in, eqQ_is, eqQ_si, L2.start, List.map_cons, List.map_nil, List.cons_append, List.nil_append, List.append_nil, List.length_cons, List.length_nil, List.replicate, List.getElem?_cons_zero, List.getElem?_cons_succ, List.set_cons_zero, List.set_cons_succ, Nat.reduceSub, Nat.reduceAdd, Int.reduceLT, Int.reduceLE, Int.reducePow, Int.reduceNeg, Nat.reducePow, List.cons.injEq, exists_eq_left', exists_eq_left, eq_self, if_false, if_true, ↓reduceIte, ite_not, forall_const, Option.join, Option.bind_some, id_eq])
    have item : ∀ x ∈ qs, ∀ H2, Same H1 H2 → ∃ q f c xs, x = .ref q ∧ H2 q = some (.tup [.ref f, .ref c]) ∧ H2 f = some (.lst xs) ∧ H2 c = some (.lst xs) ∧ (∀ y ∈ xs, flatV y = true ∨ ∃ r, y = .ref r) ∧ prj H1 0 x = .ref f ∧ prj H1 1 x = .ref c := fun x hx H2 s2 => by
      obtain ⟨q, f, c, xs, rfl, h1, h2, h3, _, _, _, h7⟩ := W.sh.it x hx
      exact ⟨q, f, c, xs, rfl, s2 _ _ h1, s2 _ _ h2, s2 _ _ h3, h7, by simp [prj, h1], by simp [prj, h1]⟩
    refine ⟨nT, comp_lstT (ad 16) qs (fun H2 => Same H1 H2) (fun D ys hD => same_upd _ hD) (fun H2 c => .inl (.inl (c _ _ W.sh.ls))) (fun x => [some (prj H1 0 x), some (prj H1 1 x)]) (fun _ => false) (fun _ => .int 1) (fun R r => r) (.inl (.inl W.sh.ls)) (by omega) (fun x hx z0 H2 R cc hz0 r => ?_) (fun _ _ => rfl) (fun x hx H2 R cc r => ?_) (fun x hx z => nomatch z) (fun D hD => ?_)⟩
    · obtain ⟨q, f, c, xs, rfl, h1, h2, h3, h4, h5, h6⟩ := item x hx H2 cc
      obtain ⟨y0, y1, rfl⟩ : ∃ y0 y1, z0 = [y0, y1] := by
        rcases z0 with _ | ⟨y0, _ | ⟨y1, _ | ⟨y2, z0⟩⟩⟩
        · cases hz0
        · cases hz0
        · exact ⟨_, _, rfl⟩
        · cases hz0
      rw [h5, h6] at r
      ((try dsimp only [sp_is_whole, sp_start, sp_first_day, sp_last_day, sp5, sp_g_init, sp_g_closed, sp_g_lets, sp_g_need, sp_g_shut, sp_j_init, sp_j_put, sp_j_many, sp_j_booking, sp_j_every, sp_j_undone, sp_at, sp_lengths, sp_ends, sp_word, sp_shut, sp_no, sp_gr, sp_put, sp_all, sp_ones, sp_jr]); try simp only [rdAll, rdI, V.int.injEq, V.ref.injEq, eqQ_int, eqQ_bl, eqQ_str, eqQ_ref, eqQ_nn, eqQ_ni, eqQ_in, eqQ_is, eqQ_si, L2.start, List.map_cons, List.map_nil, List.cons_append, List.nil_append, List.append_nil, List.length_cons, List.length_nil, List.replicate, List.getElem?_cons_zero, List.getElem?_cons_succ, List.set_cons_zero, List.set_cons_succ, Nat.reduceSub, Nat.reduceAdd, Int.reduceLT, Int.reduceLE, Int.reducePow, Int.reduceNeg, Nat.reducePow, List.cons.injEq, exists_eq_left', exists_eq_left, eq_self, if_false, if_true, ↓reduceIte, ite_not, forall_const, Option.join, Option.bind_some, id_eq])
      exact ⟨q, _, rfl, .inl (.inl h1), rfl, _, _, rfl, _, _, rfl, rfl, r⟩
    · obtain ⟨q, f, c, xs, rfl, h1, h2, h3, h4, h5, h6⟩ := item x hx H2 cc
      rw [h5, h6]
      ((try dsimp only [sp_is_whole, sp_start, sp_first_day, sp_last_day, sp5, sp_g_init, sp_g_closed, sp_g_lets, sp_g_need, sp_g_shut, sp_j_init, sp_j_put, sp_j_many, sp_j_booking, sp_j_every, sp_j_undone, sp_at, sp_lengths, sp_ends, sp_word, sp_shut, sp_no, sp_gr, sp_put, sp_all, sp_ones, sp_jr]); try simp only [rdAll, rdI, V.int.injEq, V.ref.injEq, eqQ_int, eqQ_bl, eqQ_str, eqQ_ref, eqQ_nn, eqQ_ni, eqQ_in, eqQ_is, eqQ_si, L2.start, List.map_cons, List.map_nil, List.cons_append, List.nil_append, List.append_nil, List.length_cons, List.length_nil, List.replicate, List.getElem?_cons_zero, List.getElem?_cons_succ, List.set_cons_zero, List.set_cons_succ, Nat.reduceSub, Nat.reduceAdd, Int.reduceLT, Int.reduceLE, Int.reducePow, Int.reduceNeg, Nat.reducePow, List.cons.injEq, exists_eq_left', exists_eq_left, eq_self, if_false, if_true, ↓reduceIte, ite_not, forall_const, Option.join, Option.bind_some, id_eq])
      exact ⟨true, eqR_selfL (.inl (.inl h2)) (.inl (.inl h3)) h4, r⟩
    · have e0 : (qs.filter fun _ => false).map (fun _ => V.int 1) = [] := by simp
      rw [e0]
      refine ⟨Nat.zero_le _, fun p hp => ?_⟩
      have s1 := (same_upd (HO.lst []) hD)
      have s2 := s1.trans (same_upd (HO.lst []) hp)
      ((try dsimp only [sp_is_whole, sp_start, sp_first_day, sp_last_day, sp5, sp_g_init, sp_g_closed, sp_g_lets, sp_g_need, sp_g_shut, sp_j_init, sp_j_put, sp_j_many, sp_j_booking, sp_j_every, sp_j_undone, sp_at, sp_lengths, sp_ends, sp_word, sp_shut, sp_no, sp_gr, sp_put, sp_all, sp_ones, sp_jr]); try simp only [rdAll, rdI, V.int.injEq, V.ref.injEq, eqQ_int, eqQ_bl, eqQ_str, eqQ_ref, eqQ_nn, eqQ_ni, eqQ_in, eqQ_is, eqQ_si, L2.start, List.map_cons, List.map_nil, List.cons_append, List.nil_append, List.append_nil, List.length_cons, List.length_nil, List.replicate, List.getElem?_cons_zero, List.getElem?_cons_succ, List.set_cons_zero, List.set_cons_succ, Nat.reduceSub, Nat.reduceAdd, Int.reduceLT, Int.reduceLE, Int.reducePow, Int.reduceNeg, Nat.reducePow, List.cons.injEq, exists_eq_left', exists_eq_left, eq_self, if_false, if_true, ↓reduceIte, ite_not, forall_const, Option.join, Option.bind_some, id_eq])
      refine ⟨_, eqR_nil (.inl (.inl (same_upd (HO.lst []) hp _ _ upd_same))) (.inl (.inl upd_same)), H1, Gc.none s2, ?_⟩
      rw [if_neg (by intro z; cases z)]
      have g0 := l2 0 (by decide)
      have g1 := l2 1 (by decide)
      exact ⟨_, _, .inl (.inl (.inl W.gl)), atI_nat (j := 0) rfl, _, _, .inl (.inl (.inl W.nl)), atI_nat (j := 0) rfl, nT, ms 0, W.gs 0 (by decide), by omega, _, _, .inl (.inl (.inl W.gl)), atI_nat (j := 1) rfl, _, _, .inl (.inl (.inl W.nl)), atI_nat (j := 1) rfl, nT, ms 1, W.gs 1 (by decide), by omega, H, Gc.none sm, k⟩
  obtain ⟨u6, hu6, c6⟩ := c6
  have c5 : ∃ u, PSs (cxOf (XE P w) P w K mg base ["_law_script", "_law_journals", "_law_gates", "_law_mine", "_law_months", "_law_shown", "_law_k", "_law_cell", "_law_more", "_law_which", "_law_good", "_law_one"] "law" (defScope s_law) a.f_law cdv A outer s H (gcE H E)) (List.drop 5 (defBody s_law)) u ∧ ∀ ad H1, Inj ad → (∀ i, i < 17 → H (ad i) = none) → WS a.c_Journal a.c_Gate ad H1 (fun _ => []) (fun _ => []) [] → Same H H1 → NoT H1 →
      u { nx := fun _ H' => ∃ G, Gc H G H' ∧ Q .non G, rt := fun v H' => ∃ G, Gc H G H' ∧ Q v G } [some (.ref pS), some (.ref (ad 6)), some (.ref (ad 9)), some (.ref (ad 12)), some (.ref (ad 15)), some (.ref (ad 16)), none, none, none, none, none, none] H1 := by
    refine ⟨_, (pss_cons (ps_for PW rfl (pi_range3 rfl T.z_range (FA.pa (fa_cons pe_int (fa_cons (pe_callB (fc_min rfl) rfl T.z_min bb_min (FA.pa (fa_cons (pe_callB (fc_lenK K) rfl T.z_len bb_len (FA.pa (fa_cons (fv 0) fa_nil))) (fa_cons pe_int fa_nil)))) (fa_cons pe_int fa_nil))))) (pg_name (i := 6) ND rfl (Or.inl rfl)) (pss_cons (ps_set (i := 7) ND rfl (Or.inl rfl) (pe_callX G__law_cell_at (hr.mono (by decide)) rfl T.m__law_cell_at T.F__law_cell_at.kp b__law_cell_at .nil PX (FA.pa (fa_cons (fv 0) (fa_cons (fv 6) fa_nil)))))
      (pss_cons (ps_set (i := 8) ND rfl (Or.inl rfl) (pe_callX G__law_cell_at (hr.mono (by decide)) rfl T.m__law_cell_at T.F__law_cell_at.kp b__law_cell_at .nil PX (FA.pa (fa_cons (fv 0) (fa_cons (pe_op fo_add (fv 6) pe_int) fa_nil)))))
      (pss_cons (ps_set (i := 9) ND rfl (Or.inl rfl) (pe_op fo_mod (fv 7) pe_int))
      (pss_cons (ps_if (ft_cmp fo_lt (pe_op fo_mod (pe_op fo_fdiv (fv 7) pe_int) pe_int) pe_int (nomark _)) (pss_one (ps_set (i := 10) ND rfl (Or.inl rfl) (pe_callX G__law_put (hr.mono (by decide)) rfl T.m__law_put T.F__law_put.kp b__law_put .nil PX (FA.pa (fa_cons (pe_ix (fx_seqK K) (fv 1) (fv 9) (fun _ _ => rfl)) (fa_cons (pe_ix (fx_seqK K) (fv 3) (fv 9) (fun _ _ => rfl)) (fa_cons (pe_op fo_fdiv (fv 7) pe_int) (fa_cons (fv 8) fa_nil)))))))) (pss_one (ps_set (i := 10) ND rfl (Or.inl rfl) (pe_callX G__law_shut (hr.mono (by decide)) rfl T.m__law_shut T.F__law_shut.kp b__law_shut .nil PX (FA.pa (fa_cons (pe_ix (fx_seqK K) (fv 2) (fv 9) (fun _ _ => rfl)) (fa_cons (pe_ix (fx_seqK K) (fv 4) (fv 9) (fun _ _ => rfl)) (fa_cons (pe_op fo_fdiv (fv 7) pe_int) (fa_cons (fv 8) fa_nil)))))))))
      (pss_cons (ps_if (L2.PW.pt (pw_or (pt_not (ft_val (fv 10))) (pw_or1 (pt_not (ft_val (pe_callX G__law_gate_right (hr.mono (by decide)) rfl T.m__law_gate_right T.F__law_gate_right.kp b__law_gate_right .nil PX (FA.pa (fa_cons (pe_ix (fx_seqK K) (fv 2) (fv 9) (fun _ _ => rfl)) (fa_cons (pe_ix (fx_seqK K) (fv 4) (fv 9) (fun _ _ => rfl)) (fa_cons (fv 8) fa_nil)))))))))) (pss_one (ps_ret pe_bl)) pss_nil)
      (pss_one (ps_for PW rfl (pi_range1 rfl T.z_range (FA.pa (fa_cons pe_int fa_nil))) (pg_name (i := 11) ND rfl (Or.inl rfl)) (pss_one (ps_if (pt_not (ft_val (pe_callX G__law_journal_right (hr.mono (by decide)) rfl T.m__law_journal_right T.F__law_journal_right.kp b__law_journal_right .nil PX (FA.pa (fa_cons (pe_ix (fx_seqK K) (fv 1) (fv 11) (fun _ _ => rfl)) (fa_cons (pe_ix (fx_seqK K) (fv 3) (fv 11) (fun _ _ => rfl)) (fa_cons (fv 8) (fa_cons (fv 5) fa_nil)))))))) (pss_one (ps_ret pe_bl)) pss_nil))))))))))
      hu6), fun ad H1 I fr W sm nT => ?_⟩
    ((try dsimp only [sp_is_whole, sp_start, sp_first_day, sp_last_day, sp5, sp_g_init, sp_g_closed, sp_g_lets, sp_g_need, sp_g_shut, sp_j_init, sp_j_put, sp_j_many, sp_j_booking, sp_j_every, sp_j_undone, sp_at, sp_lengths, sp_ends, sp_word, sp_shut, sp_no, sp_gr, sp_put, sp_all, sp_ones, sp_jr]); try simp only [rdAll, rdI, V.int.injEq, V.ref.injEq, eqQ_int, eqQ_bl, eqQ_str, eqQ_ref, eqQ_nn, eqQ_ni, eqQ_in, eqQ_is, eqQ_si, L2.start, List.map_cons, List.map_nil, List.cons_append, List.nil_append, List.append_nil, List.length_cons, List.length_nil, List.replicate, List.getElem?_cons_zero, List.getElem?_cons_succ, List.set_cons_zero, List.set_cons_succ, Nat.reduceSub, Nat.reduceAdd, Int.reduceLT, Int.reduceLE, Int.reducePow, Int.reduceNeg, Nat.reducePow, List.cons.injEq, exists_eq_left', exists_eq_left, eq_self, if_false, if_true, ↓reduceIte, ite_not, forall_const, Option.join, Option.bind_some, id_eq])
    refine for_rng3 ?_
    ((try dsimp only [sp_is_whole, sp_start, sp_first_day, sp_last_day, sp5, sp_g_init, sp_g_closed, sp_g_lets, sp_g_need, sp_g_shut, sp_j_init, sp_j_put, sp_j_many, sp_j_booking, sp_j_every, sp_j_undone, sp_at, sp_lengths, sp_ends, sp_word, sp_shut, sp_no, sp_gr, sp_put, sp_all, sp_ones, sp_jr]); try simp only [rdAll, rdI, V.int.injEq, V.ref.injEq, eqQ_int, eqQ_bl, eqQ_str, eqQ_ref, eqQ_nn, eqQ_ni, eqQ_in, eqQ_is, eqQ_si, L2.start, List.map_cons, List.map_nil, List.cons_append, List.nil_append, List.append_nil, List.length_cons, List.length_nil, List.replicate, List.getElem?_cons_zero, List.getElem?_cons_succ, List.set_cons_zero, List.set_cons_succ, Nat.reduceSub, Nat.reduceAdd, Int.reduceLT, Int.reduceLE, Int.reducePow, Int.reduceNeg, Nat.reducePow, List.cons.injEq, exists_eq_left', exists_eq_left, eq_self, if_false, if_true, ↓reduceIte, ite_not, forall_const, Option.join, Option.bind_some, id_eq])
    refine ⟨_, .inl (hS.same sm), 0, (if 24 < (((ns.map V.int).length : Nat) : Int) then 24 else (((ns.map V.int).length : Nat) : Int)), 2, by simp, ⟨by decide, by decide, by split <;> omega, by split <;> omega, by decide, by decide⟩, ?_⟩
    have hn : rsz 0 (if 24 < (((ns.map V.int).length : Nat) : Int) then 24 else (((ns.map V.int).length : Nat) : Int)) 2 ≤ 12 := by
      unfold rsz
      split <;> split <;> omega
    generalize rsz 0 (if 24 < (((ns.map V.int).length : Nat) : Int) then 24 else (((ns.map V.int).length : Nat) : Int)) 2 = n at hn ⊢
    refine for_range3 (fun i σ H' => ∃ bk ms qs x6 x7 x8 x9 x10 x11, WS a.c_Journal a.c_Gate ad H' bk ms qs ∧ Same H H' ∧ NoT H' ∧ (∀ w, w < 2 → (bk w).length ≤ i ∧ (ms w).length ≤ i) ∧ qs.length ≤ 200 * i ∧ σ = [some (.ref pS), some (.ref (ad 6)), some (.ref (ad 9)), some (.ref (ad 12)), some (.ref (ad 15)), some (.ref (ad 16)), x6, x7, x8, x9, x10, x11]) ⟨_, _, _, none, none, none, none, none, none, W, sm, nT, fun w _ => ⟨Nat.le_refl _, Nat.le_refl _⟩, Nat.le_refl _, rfl⟩ ?_ ?_
    · rintro i σ H' hi ⟨bk, ms, qs, x6, x7, x8, x9, x10, x11, W, sm, nT, lb, lq, rfl⟩
      generalize hc : CA ns (0 + i * 2) = c
      generalize hm : CA ns (0 + i * 2 + 1) = m
      ((try dsimp only [sp_is_whole, sp_start, sp_first_day, sp_last_day, sp5, sp_g_init, sp_g_closed, sp_g_lets, sp_g_need, sp_g_shut, sp_j_init, sp_j_put, sp_j_many, sp_j_booking, sp_j_every, sp_j_undone, sp_at, sp_lengths, sp_ends, sp_word, sp_shut, sp_no, sp_gr, sp_put, sp_all, sp_ones, sp_jr]); try simp only [rdAll, rdI, V.int.injEq, V.ref.injEq, eqQ_int, eqQ_bl, eqQ_str, eqQ_ref, eqQ_nn, eqQ_ni, eqQ_in, eqQ_is, eqQ_si, L2.start, List.map_cons, List.map_nil, List.cons_append, List.nil_append, List.append_nil, List.length_cons, List.length_nil, List.replicate, List.getElem?_cons_zero, List.getElem?_cons_succ, List.set_cons_zero, List.set_cons_succ, Nat.reduceSub, Nat.reduceAdd, Int.reduceLT, Int.reduceLE, Int.reducePow, Int.reduceNeg, Nat.reducePow, List.cons.injEq, exists_eq_left', exists_eq_left, eq_self, if_false, if_true, ↓reduceIte, ite_not, forall_const, Option.join, Option.bind_some, id_eq])
      rw [hc, hm]
      obtain ⟨w, hw, ew⟩ : ∃ w : Nat, w < 2 ∧ c % 2 = w := ⟨(c % 2).toNat, by omega, by omega⟩
      have atG : atI [V.ref (ad 7), V.ref (ad 8)] (c % 2) = some (.ref (ad (7 + w))) := by
        rw [ew]; rcases two_of hw with rfl | rfl <;> rfl
      have atN : atI [V.ref (ad 13), V.ref (ad 14)] (c % 2) = some (.ref (ad (13 + w))) := by
        rw [ew]; rcases two_of hw with rfl | rfl <;> rfl
      have atJ : atI [V.ref (ad 0), V.ref (ad 3)] (c % 2) = some (.ref (ad (3 * w))) := by
        rw [ew]; rcases two_of hw with rfl | rfl <;> rfl
      have atM : atI [V.ref (ad 10), V.ref (ad 11)] (c % 2) = some (.ref (ad (10 + w))) := by
        rw [ew]; rcases two_of hw with rfl | rfl <;> rfl
      refine ⟨nT, hS.same sm, by omega, nT, hS.same sm, by omega, ?_⟩
      split
      · refine ⟨_, _, .inl (.inl (.inl W.jl)), atJ, _, _, .inl (.inl (.inl W.ml)), atM, nT, _, _, _, W.js w hw, fun z => ?_, by have := (lb w hw).1; omega, fun b' H2 lb' J2 k2 n2 => ?_⟩
        · have := I (3 * w + 1) (10 + w) (by omega) (by omega) z; omega
        have W2 := W.put I hw k2 J2
        have sm2 : Same H H2 := Keep.toSame sm k2 (by intro x hx; simp at hx; rcases hx with rfl | rfl | rfl <;> exact fr _ (by omega))
        have lb2 : ∀ v, v < 2 → ((fun v => if v = w then b' else bk v) v).length ≤ i + 1 ∧ (ms v).length ≤ i + 1 := fun v hv => by
          have h1 := lb v hv
          have h2 := lb w hw
          refine ⟨?_, by omega⟩
          dsimp only
          split <;> omega
        refine ⟨_, _, .inl (.inl (.inl W2.gl)), atG, _, _, .inl (.inl (.inl W2.nl)), atN, n2, _, W2.gs w hw, Nat.le_trans (lb2 w hw).2 (by omega), ?_⟩
        refine ⟨_, rfl, by decide, by decide, for_range (fun j σ H3 => ∃ qs3 x11, WS a.c_Journal a.c_Gate ad H3 (fun v => if v = w then b' else bk v) ms qs3 ∧ Same H H3 ∧ NoT H3 ∧ qs3.length ≤ 200 * i + 100 * j ∧ σ = [some (.ref pS), some (.ref (ad 6)), some (.ref (ad 9)), some (.ref (ad 12)), some (.ref (ad 15)), some (.ref (ad 16)), some (.int (0 + i * 2)), some (.int c), some (.int m), some (.int (c % 2)), some (.bl true), x11]) ⟨qs, x11, W2, sm2, n2, by omega, rfl⟩ ?_ ?_⟩
        · rintro j σ H3 hj ⟨qs3, x11, W3, sm3, n3, l3, rfl⟩
          ((try dsimp only [sp_is_whole, sp_start, sp_first_day, sp_last_day, sp5, sp_g_init, sp_g_closed, sp_g_lets, sp_g_need, sp_g_shut, sp_j_init, sp_j_put, sp_j_many, sp_j_booking, sp_j_every, sp_j_undone, sp_at, sp_lengths, sp_ends, sp_word, sp_shut, sp_no, sp_gr, sp_put, sp_all, sp_ones, sp_jr]); try simp only [rdAll, rdI, V.int.injEq, V.ref.injEq, eqQ_int, eqQ_bl, eqQ_str, eqQ_ref, eqQ_nn, eqQ_ni, eqQ_in, eqQ_is, eqQ_si, L2.start, List.map_cons, List.map_nil, List.cons_append, List.nil_append, List.append_nil, List.length_cons, List.length_nil, List.replicate, List.getElem?_cons_zero, List.getElem?_cons_succ, List.set_cons_zero, List.set_cons_succ, Nat.reduceSub, Nat.reduceAdd, Int.reduceLT, Int.reduceLE, Int.reducePow, Int.reduceNeg, Nat.reducePow, List.cons.injEq, exists_eq_left', exists_eq_left, eq_self, if_false, if_true, ↓reduceIte, ite_not, forall_const, Option.join, Option.bind_some, id_eq])
          have hj2 : j < 2 := hj
          have atJ : atI [V.ref (ad 0), V.ref (ad 3)] (0 + (j : Int)) = some (.ref (ad (3 * j))) := by
            rcases two_of hj2 with rfl | rfl <;> rfl
          have atM : atI [V.ref (ad 10), V.ref (ad 11)] (0 + (j : Int)) = some (.ref (ad (10 + j))) := by
            rcases two_of hj2 with rfl | rfl <;> rfl
          refine ⟨_, _, .inl (.inl (.inl W3.jl)), atJ, _, _, .inl (.inl (.inl W3.ml)), atM, n3, ?_⟩
          refine ⟨_, _, _, qs3, (List.range 17).map ad, W3.js j hj2, Nat.le_trans (lb2 j hj2).1 (by omega), W3.sh, by omega, fun z => ?_, fun z => ?_, List.mem_map.mpr ⟨16, by decide, rfl⟩, fun x hx => ?_, fun qs4 H4 l4 S4 k4 n4 => ?_⟩
          · have := I 16 (3 * j + 1) (by decide) (by omega) z; omega
          · have := I 16 (10 + j) (by decide) (by omega) z; omega
          · obtain ⟨y, hy, rfl⟩ := List.mem_map.mp hx
            obtain ⟨o, eo, _⟩ := W3.all y (by simpa using hy)
            exact ⟨o, eo⟩
          · exact ⟨qs4, _, W3.show I k4 S4, Keep.toSame sm3 k4 (by intro x hx; simp at hx; subst hx; exact fr 16 (by decide)), n4, by omega, rfl⟩
        · rintro σ H3 ⟨qs3, x11, W3, sm3, n3, l3, rfl⟩
          have t2 : Int.toNat 2 = 2 := rfl
          rw [t2] at l3
          exact ⟨_, _, qs3, _, _, _, _, _, _, W3, sm3, n3, lb2, by omega, rfl⟩
      · refine ⟨_, _, .inl (.inl (.inl W.gl)), atG, _, _, .inl (.inl (.inl W.nl)), atN, nT, _, W.gs w hw, by have := (lb w hw).2; omega, fun m' H2 lb' J2 k2 n2 => ?_⟩
        have W2 := W.shut I hw k2 J2
        have sm2 : Same H H2 := Keep.toSame sm k2 (by intro x hx; simp at hx; rcases hx with rfl | rfl <;> exact fr _ (by omega))
        have lb2 : ∀ v, v < 2 → (bk v).length ≤ i + 1 ∧ ((fun v => if v = w then m' else ms v) v).length ≤ i + 1 := fun v hv => by
          have h1 := lb v hv
          have h2 := lb w hw
          refine ⟨by omega, ?_⟩
          dsimp only
          split <;> omega
        refine ⟨_, _, .inl (.inl (.inl W2.gl)), atG, _, _, .inl (.inl (.inl W2.nl)), atN, n2, _, W2.gs w hw, Nat.le_trans (lb2 w hw).2 (by omega), ?_⟩
        refine ⟨_, rfl, by decide, by decide, for_range (fun j σ H3 => ∃ qs3 x11, WS a.c_Journal a.c_Gate ad H3 bk (fun v => if v = w then m' else ms v) qs3 ∧ Same H H3 ∧ NoT H3 ∧ qs3.length ≤ 200 * i + 100 * j ∧ σ = [some (.ref pS), some (.ref (ad 6)), some (.ref (ad 9)), some (.ref (ad 12)), some (.ref (ad 15)), some (.ref (ad 16)), some (.int (0 + i * 2)), some (.int c), some (.int m), some (.int (c % 2)), some (.bl true), x11]) ⟨qs, x11, W2, sm2, n2, by omega, rfl⟩ ?_ ?_⟩
        · rintro j σ H3 hj ⟨qs3, x11, W3, sm3, n3, l3, rfl⟩
          ((try dsimp only [sp_is_whole, sp_start, sp_first_day, sp_last_day, sp5, sp_g_init, sp_g_closed, sp_g_lets, sp_g_need, sp_g_shut, sp_j_init, sp_j_put, sp_j_many, sp_j_booking, sp_j_every, sp_j_undone, sp_at, sp_lengths, sp_ends, sp_word, sp_shut, sp_no, sp_gr, sp_put, sp_all, sp_ones, sp_jr]); try simp only [rdAll, rdI, V.int.injEq, V.ref.injEq, eqQ_int, eqQ_bl, eqQ_str, eqQ_ref, eqQ_nn, eqQ_ni, eqQ_in, eqQ_is, eqQ_si, L2.start, List.map_cons, List.map_nil, List.cons_append, List.nil_append, List.append_nil, List.length_cons, List.length_nil, List.replicate, List.getElem?_cons_zero, List.getElem?_cons_succ, List.set_cons_zero, List.set_cons_succ, Nat.reduceSub, Nat.reduceAdd, Int.reduceLT, Int.reduceLE, Int.reducePow, Int.reduceNeg, Nat.reducePow, List.cons.injEq, exists_eq_left', exists_eq_left, eq_self, if_false, if_true, ↓reduceIte, ite_not, forall_const, Option.join, Option.bind_some, id_eq])
          have hj2 : j < 2 := hj
          have atJ : atI [V.ref (ad 0), V.ref (ad 3)] (0 + (j : Int)) = some (.ref (ad (3 * j))) := by
            rcases two_of hj2 with rfl | rfl <;> rfl
          have atM : atI [V.ref (ad 10), V.ref (ad 11)] (0 + (j : Int)) = some (.ref (ad (10 + j))) := by
            rcases two_of hj2 with rfl | rfl <;> rfl
          refine ⟨_, _, .inl (.inl (.inl W3.jl)), atJ, _, _, .inl (.inl (.inl W3.ml)), atM, n3, ?_⟩
          refine ⟨_, _, _, qs3, (List.range 17).map ad, W3.js j hj2, Nat.le_trans (lb2 j hj2).1 (by omega), W3.sh, by omega, fun z => ?_, fun z => ?_, List.mem_map.mpr ⟨16, by decide, rfl⟩, fun x hx => ?_, fun qs4 H4 l4 S4 k4 n4 => ?_⟩
          · have := I 16 (3 * j + 1) (by decide) (by omega) z; omega
          · have := I 16 (10 + j) (by decide) (by omega) z; omega
          · obtain ⟨y, hy, rfl⟩ := List.mem_map.mp hx
            obtain ⟨o, eo, _⟩ := W3.all y (by simpa using hy)
            exact ⟨o, eo⟩
          · exact ⟨qs4, _, W3.show I k4 S4, Keep.toSame sm3 k4 (by intro x hx; simp at hx; subst hx; exact fr 16 (by decide)), n4, by omega, rfl⟩
        · rintro σ H3 ⟨qs3, x11, W3, sm3, n3, l3, rfl⟩
          have t2 : Int.toNat 2 = 2 := rfl
          rw [t2] at l3
          exact ⟨_, _, qs3, _, _, _, _, _, _, W3, sm3, n3, lb2, by omega, rfl⟩
    · rintro σ H' ⟨bk, ms, qs, x6, x7, x8, x9, x10, x11, W, sm, nT, lb, lq, rfl⟩
      exact c6 ad bk ms qs _ _ _ _ _ _ H' W sm nT (by omega) (fun w hw => by have := (lb w hw).2; omega)
  obtain ⟨u5, hu5, c5⟩ := c5
  refine ⟨hN, _, (pss_cons (ps_set (i := 1) ND rfl (Or.inl rfl) (pe_lst (FA.pa (fa_cons (pe_makeX0 T.mk_Journal G_Journal___init__ (hr.mono (by decide)) rfl T.m_Journal b_Journal___init__ .nil PX) (fa_cons (pe_makeX0 T.mk_Journal G_Journal___init__ (hr.mono (by decide)) rfl T.m_Journal b_Journal___init__ .nil PX) fa_nil)))))
      (pss_cons (ps_set (i := 2) ND rfl (Or.inl rfl) (pe_lst (FA.pa (fa_cons (pe_makeX0 T.mk_Gate G_Gate___init__ (hr.mono (by decide)) rfl T.m_Gate b_Gate___init__ .nil PX) (fa_cons (pe_makeX0 T.mk_Gate G_Gate___init__ (hr.mono (by decide)) rfl T.m_Gate b_Gate___init__ .nil PX) fa_nil)))))
      (pss_cons (ps_set (i := 3) ND rfl (Or.inl rfl) (pe_lst (FA.pa (fa_cons (pe_lst (FA.pa fa_nil)) (fa_cons (pe_lst (FA.pa fa_nil)) fa_nil)))))
      (pss_cons (ps_set (i := 4) ND rfl (Or.inl rfl) (pe_lst (FA.pa (fa_cons (pe_lst (FA.pa fa_nil)) (fa_cons (pe_lst (FA.pa fa_nil)) fa_nil)))))
      (pss_cons (ps_set (i := 5) ND rfl (Or.inl rfl) (pe_lst (FA.pa fa_nil)))
      hu5))))), ?_⟩
  ((try dsimp only [sp_is_whole, sp_start, sp_first_day, sp_last_day, sp5, sp_g_init, sp_g_closed, sp_g_lets, sp_g_need, sp_g_shut, sp_j_init, sp_j_put, sp_j_many, sp_j_booking, sp_j_every, sp_j_undone, sp_at, sp_lengths, sp_ends, sp_word, sp_shut, sp_no, sp_gr, sp_put, sp_all, sp_ones, sp_jr]); try simp only [rdAll, rdI, V.int.injEq, V.ref.injEq, eqQ_int, eqQ_bl, eqQ_str, eqQ_ref, eqQ_nn, eqQ_ni, eqQ_in, eqQ_is, eqQ_si, L2.start, List.map_cons, List.map_nil, List.cons_append, List.nil_append, List.append_nil, List.length_cons, List.length_nil, List.replicate, List.getElem?_cons_zero, List.getElem?_cons_succ, List.set_cons_zero, List.set_cons_succ, Nat.reduceSub, Nat.reduceAdd, Int.reduceLT, Int.reduceLE, Int.reducePow, Int.reduceNeg, Nat.reducePow, List.cons.injEq, exists_eq_left', exists_eq_left, eq_self, if_false, if_true, ↓reduceIte, ite_not, forall_const, Option.join, Option.bind_some, id_eq])
  have F0 : FrL H H [] := ⟨.nil, (fun _ z => nomatch z), (fun _ z => nomatch z), Same.refl _, hN⟩
  intro p0 d0 hp0 hd0 ne0
  refine ⟨noT_upd (noT_upd hN rfl) rfl, d0, upd_same, fun b0 u0 I1 hb0 hu0 J0 k0 n0 => ?_⟩
  obtain ⟨t1, nd1, al1⟩ := mkJ hp0 hd0 ne0 hb0 hu0 J0 k0
  have F1 := F0.add t1 n0 nd1 al1
  clear hb0 hu0 k0 nd1 al1
  intro p1 d1 hp1 hd1 ne1
  refine ⟨noT_upd (noT_upd n0 rfl) rfl, d1, upd_same, fun b1 u1 I2 hb1 hu1 J1 k1 n1 => ?_⟩
  obtain ⟨t2, nd2, al2⟩ := mkJ hp1 hd1 ne1 hb1 hu1 J1 k1
  have F2 := F1.add t2 n1 nd2 al2
  clear hb1 hu1 k1 nd2 al2
  refine ⟨by omega, fun jl hjl => ?_⟩
  obtain ⟨I3, e3, t3, a3, n3⟩ := alloc (o := HO.lst [V.ref p0, V.ref p1]) hjl n1 rfl
  rw [e3]
  have F3 := F2.one t3 n3 hjl a3
  intro g0 dg0 hg0 hdg0 neg0
  refine ⟨dg0, upd_same, ?_⟩
  obtain ⟨I4, e4, t4, a4, n4⟩ := mkG (C := a.c_Gate) hg0 hdg0 neg0 n3
  rw [e4]
  have F4 := F3.one t4 n4 hg0 a4
  intro g1 dg1 hg1 hdg1 neg1
  refine ⟨dg1, upd_same, ?_⟩
  obtain ⟨I5, e5, t5, a5, n5⟩ := mkG (C := a.c_Gate) hg1 hdg1 neg1 n4
  rw [e5]
  have F5 := F4.one t5 n5 hg1 a5
  refine ⟨by omega, fun gl hgl => ?_⟩
  obtain ⟨I6, e6, t6, a6, n6⟩ := alloc (o := HO.lst [V.ref g0, V.ref g1]) hgl n5 rfl
  rw [e6]
  have F6 := F5.one t6 n6 hgl a6
  refine ⟨Nat.zero_le _, fun m0 hm0 => ?_⟩
  obtain ⟨I7, e7, t7, a7, n7⟩ := alloc (o := HO.lst []) hm0 n6 rfl
  rw [e7]
  have F7 := F6.one t7 n7 hm0 a7
  refine ⟨Nat.zero_le _, fun m1 hm1 => ?_⟩
  obtain ⟨I8, e8, t8, a8, n8⟩ := alloc (o := HO.lst []) hm1 n7 rfl
  rw [e8]
  have F8 := F7.one t8 n8 hm1 a8
  refine ⟨by omega, fun ml hml => ?_⟩
  obtain ⟨I9, e9, t9, a9, n9⟩ := alloc (o := HO.lst [V.ref m0, V.ref m1]) hml n8 rfl
  rw [e9]
  have F9 := F8.one t9 n9 hml a9
  refine ⟨Nat.zero_le _, fun y0 hy0 => ?_⟩
  obtain ⟨I10, e10, t10, a10, n10⟩ := alloc (o := HO.lst []) hy0 n9 rfl
  rw [e10]
  have F10 := F9.one t10 n10 hy0 a10
  refine ⟨Nat.zero_le _, fun y1 hy1 => ?_⟩
  obtain ⟨I11, e11, t11, a11, n11⟩ := alloc (o := HO.lst []) hy1 n10 rfl
  rw [e11]
  have F11 := F10.one t11 n11 hy1 a11
  refine ⟨by omega, fun nl hnl => ?_⟩
  obtain ⟨I12, e12, t12, a12, n12⟩ := alloc (o := HO.lst [V.ref y0, V.ref y1]) hnl n11 rfl
  rw [e12]
  have F12 := F11.one t12 n12 hnl a12
  refine ⟨Nat.zero_le _, fun sh hsh => ?_⟩
  obtain ⟨I13, e13, t13, a13, n13⟩ := alloc (o := HO.lst []) hsh n12 rfl
  rw [e13]
  have F13 := F12.one t13 n13 hsh a13
  have nd : [p0, b0, u0, p1, b1, u1, jl, g0, g1, gl, m0, m1, ml, y0, y1, nl, sh].Nodup := List.pairwise_reverse.mpr (List.Pairwise.imp (fun h => Ne.symm h) F13.nd)
  have fr0 : ∀ x ∈ [p0, b0, u0, p1, b1, u1, jl, g0, g1, gl, m0, m1, ml, y0, y1, nl, sh], H x = none := fun x hx => F13.f0 x (List.mem_reverse.mp (show x ∈ [sh, nl, y1, y0, ml, m1, m0, gl, g1, g0, jl, u1, b1, p1, u0, b0, p0].reverse from hx))
  have g12 := t12.trans t13
  have g11 := t11.trans g12
  have g10 := t10.trans g11
  have g9 := t9.trans g10
  have g8 := t8.trans g9
  have g7 := t7.trans g8
  have g6 := t6.trans g7
  have g5 := t5.trans g6
  have g4 := t4.trans g5
  have g3 := t3.trans g4
  have g2 := t2.trans g3
  refine c5 (fun i => [p0, b0, u0, p1, b1, u1, jl, g0, g1, gl, m0, m1, ml, y0, y1, nl, sh].getD i 0) I13 ?_ ?_ ⟨?_, ?_, ?_, g4 _ _ a3, g7 _ _ a6, g10 _ _ a9, t13 _ _ a12⟩ F13.sm n13
  · intro i j hi hj e
    have hi' : i < [p0, b0, u0, p1, b1, u1, jl, g0, g1, gl, m0, m1, ml, y0, y1, nl, sh].length := hi
    have hj' : j < [p0, b0, u0, p1, b1, u1, jl, g0, g1, gl, m0, m1, ml, y0, y1, nl, sh].length := hj
    dsimp only at e
    rw [getD_at hi', getD_at hj'] at e
    have pw := List.pairwise_iff_getElem.mp nd
    rcases Nat.lt_trichotomy i j with h | h | h
    · exact absurd e (pw i j hi' hj' h)
    · exact h
    · exact absurd e.symm (pw j i hj' hi' h)
  · intro i hi
    have hi' : i < [p0, b0, u0, p1, b1, u1, jl, g0, g1, gl, m0, m1, ml, y0, y1, nl, sh].length := hi
    rw [getD_at hi']
    exact fr0 _ (List.getElem_mem hi')
  · intro w hw
    have emp : ∀ {Hx : Hp}, RAt Hx [] [] := ⟨rfl, fun i v b e => by simp at e⟩
    have rest : ∀ z ∈ ([] : List Bk), z.rs.length ≤ 10 ∧ z.n.length ≤ 100 ∧ ∀ x ∈ z.rs, ∃ r, x = V.ref r := fun z hz => nomatch hz
    rcases two_of hw with rfl | rfl
    · exact ⟨⟨[], J0.keep (S := []) (Keep.same g2) List.not_mem_nil List.not_mem_nil List.not_mem_nil, emp⟩, ⟨[], g8 _ _ a7, emp⟩, rest, .nil, fun i hi => nomatch hi⟩
    · exact ⟨⟨[], J1.keep (S := []) (Keep.same g3) List.not_mem_nil List.not_mem_nil List.not_mem_nil, emp⟩, ⟨[], g9 _ _ a8, emp⟩, rest, .nil, fun i hi => nomatch hi⟩
  · intro w hw
    rcases two_of hw with rfl | rfl
    · exact ⟨⟨_, g5 _ _ a4⟩, g11 _ _ a10, fun m hm => nomatch hm⟩
    · exact ⟨⟨_, g6 _ _ a5⟩, g12 _ _ a11, fun m hm => nomatch hm⟩
  · exact ⟨a13, fun x hx => nomatch hx⟩
theorem law_starts {H : Hp} {p : Addr} {n : Nat} (hO : Only H) (hS : SqL K H p (ns.map V.int)) (_ : ns.length ≤ n) : sp_law K [.ref p] H (fun v _ => v = .bl true) fun _ _ _ => False := ⟨noT_only hO, ns, hS, rfl⟩
end
end K13
set_option Elab.async false
set_option linter.all false
set_option maxRecDepth 100000
set_option maxHeartbeats 400000
namespace K13
open PySem L2
theorem all_mk {l : PySem.W.OpenLaw} {w : World} {K : PySem.W.Frag} {h : Heap} {mg : Str → Option Value} {fa : Addr} (X : K.In h) (G : h.Ns mainGlobals mg) (hfa : mg "law" = some (.ref fa))
    {C5 : Addr}
    {C4 : Addr}
    {C3 : Addr}
    {C2 : Addr}
    {C1 : Addr}
    {C0 : Addr}
    {f0 : Addr} {od0 an0 : Option Addr} {sl0 : Array (Option Value)} {oc0 kV0 dc0 pm0 cd0 ct0 : Value}
    {f1 : Addr} {od1 an1 : Option Addr} {sl1 : Array (Option Value)} {oc1 kV1 dc1 pm1 cd1 ct1 : Value}
    {f2 : Addr} {od2 an2 : Option Addr} {sl2 : Array (Option Value)} {oc2 kV2 dc2 pm2 cd2 ct2 : Value}
    {f3 : Addr} {od3 an3 : Option Addr} {sl3 : Array (Option Value)} {oc3 kV3 dc3 pm3 cd3 ct3 : Value}
    {f4 : Addr} {od4 an4 : Option Addr} {sl4 : Array (Option Value)} {oc4 kV4 dc4 pm4 cd4 ct4 : Value}
    {f5 : Addr} {od5 an5 : Option Addr} {sl5 : Array (Option Value)} {oc5 kV5 dc5 pm5 cd5 ct5 : Value}
    {f6 : Addr} {od6 an6 : Option Addr} {sl6 : Array (Option Value)} {oc6 kV6 dc6 pm6 cd6 ct6 : Value}
    {f7 : Addr} {od7 an7 : Option Addr} {sl7 : Array (Option Value)} {oc7 kV7 dc7 pm7 cd7 ct7 : Value}
    {f8 : Addr} {od8 an8 : Option Addr} {sl8 : Array (Option Value)} {oc8 kV8 dc8 pm8 cd8 ct8 : Value}
    {f9 : Addr} {od9 an9 : Option Addr} {sl9 : Array (Option Value)} {oc9 kV9 dc9 pm9 cd9 ct9 : Value}
    {f10 : Addr} {od10 an10 : Option Addr} {sl10 : Array (Option Value)} {oc10 kV10 dc10 pm10 cd10 ct10 : Value}
    {f11 : Addr} {od11 an11 : Option Addr} {sl11 : Array (Option Value)} {oc11 kV11 dc11 pm11 cd11 ct11 : Value}
    {f12 : Addr} {od12 an12 : Option Addr} {sl12 : Array (Option Value)} {oc12 kV12 dc12 pm12 cd12 ct12 : Value}
    {f13 : Addr} {od13 an13 : Option Addr} {sl13 : Array (Option Value)} {oc13 kV13 dc13 pm13 cd13 ct13 : Value}
    {f14 : Addr} {od14 an14 : Option Addr} {sl14 : Array (Option Value)} {oc14 kV14 dc14 pm14 cd14 ct14 : Value}
    {f15 : Addr} {od15 an15 : Option Addr} {sl15 : Array (Option Value)} {oc15 kV15 dc15 pm15 cd15 ct15 : Value}
    {f16 : Addr} {od16 an16 : Option Addr} {sl16 : Array (Option Value)} {oc16 kV16 dc16 pm16 cd16 ct16 : Value}
    {f17 : Addr} {od17 an17 : Option Addr} {sl17 : Array (Option Value)} {oc17 kV17 dc17 pm17 cd17 ct17 : Value}
    {f18 : Addr} {od18 an18 : Option Addr} {sl18 : Array (Option Value)} {oc18 kV18 dc18 pm18 cd18 ct18 : Value}
    {f19 : Addr} {od19 an19 : Option Addr} {sl19 : Array (Option Value)} {oc19 kV19 dc19 pm19 cd19 ct19 : Value}
    {f20 : Addr} {od20 an20 : Option Addr} {sl20 : Array (Option Value)} {oc20 kV20 dc20 pm20 cd20 ct20 : Value}
    {f21 : Addr} {od21 an21 : Option Addr} {sl21 : Array (Option Value)} {oc21 kV21 dc21 pm21 cd21 ct21 : Value}
    {f22 : Addr} {od22 an22 : Option Addr} {sl22 : Array (Option Value)} {oc22 kV22 dc22 pm22 cd22 ct22 : Value}
    {f23 : Addr} {od23 an23 : Option Addr} {sl23 : Array (Option Value)} {oc23 kV23 dc23 pm23 cd23 ct23 : Value}
    {f24 : Addr} {od24 an24 : Option Addr} {sl24 : Array (Option Value)} {oc24 kV24 dc24 pm24 cd24 ct24 : Value}
    {f25 : Addr} {od25 an25 : Option Addr} {sl25 : Array (Option Value)} {oc25 kV25 dc25 pm25 cd25 ct25 : Value}
    {f26 : Addr} {od26 an26 : Option Addr} {sl26 : Array (Option Value)} {oc26 kV26 dc26 pm26 cd26 ct26 : Value}
    {f27 : Addr} {od27 an27 : Option Addr} {sl27 : Array (Option Value)} {oc27 kV27 dc27 pm27 cd27 ct27 : Value}
    {f28 : Addr} {od28 an28 : Option Addr} {sl28 : Array (Option Value)} {oc28 kV28 dc28 pm28 cd28 ct28 : Value}
    {f29 : Addr} {od29 an29 : Option Addr} {sl29 : Array (Option Value)} {oc29 kV29 dc29 pm29 cd29 ct29 : Value}
    {f30 : Addr} {od30 an30 : Option Addr} {sl30 : Array (Option Value)} {oc30 kV30 dc30 pm30 cd30 ct30 : Value}
    {f31 : Addr} {od31 an31 : Option Addr} {sl31 : Array (Option Value)} {oc31 kV31 dc31 pm31 cd31 ct31 : Value}
    {f32 : Addr} {od32 an32 : Option Addr} {sl32 : Array (Option Value)} {oc32 kV32 dc32 pm32 cd32 ct32 : Value}
    {cl0 : ClassData}
    {cl1 : ClassData}
    {cl2 : ClassData}
    {cl3 : ClassData}
    {D0 : Addr} {dd0 : Option Addr} {dsl0 : Array (Option Value)} {dn0 : Nat} {tk0 tk1 tk2 tk3 tk4 tk5 tk6 tk7 tk8 tk9 tk10 tk11 : Tok}
    (a0 : PySem.W.nsIn K mainGlobals "_wall" = some (some (.ref f0)))
    (l0 : K.lookup f0 = some ⟨oc0, od0, .func (PySem.W.fnOf "_wall" "_wall" (defArgs s__wall) (defBody s__wall) (defScope s__wall) .none kV0 dc0 pm0 an0 cd0 ct0), sl0⟩)
    (c0 : PySem.W.codeIn K cd0 "_wall" = true) (k0 : PySem.W.keepIn K (.ref f0) = true)
    (a1 : PySem.W.nsIn K mainGlobals "is_whole" = some (some (.ref f1)))
    (l1 : K.lookup f1 = some ⟨oc1, od1, .func (PySem.W.fnOf "is_whole" "is_whole" (defArgs s_is_whole) (defBody s_is_whole) (defScope s_is_whole) .none kV1 dc1 pm1 an1 cd1 ct1), sl1⟩)
    (c1 : PySem.W.codeIn K cd1 "is_whole" = true) (k1 : PySem.W.keepIn K (.ref f1) = true)
    (a2 : PySem.W.nsIn K mainGlobals "is_among" = some (some (.ref f2)))
    (l2 : K.lookup f2 = some ⟨oc2, od2, .func (PySem.W.fnOf "is_among" "is_among" (defArgs s_is_among) (defBody s_is_among) (defScope s_is_among) .none kV2 dc2 pm2 an2 cd2 ct2), sl2⟩)
    (c2 : PySem.W.codeIn K cd2 "is_among" = true) (k2 : PySem.W.keepIn K (.ref f2) = true)
    (a3 : PySem.W.nsIn K mainGlobals "is_month" = some (some (.ref f3)))
    (l3 : K.lookup f3 = some ⟨oc3, od3, .func (PySem.W.fnOf "is_month" "is_month" (defArgs s_is_month) (defBody s_is_month) (defScope s_is_month) .none kV3 dc3 pm3 an3 cd3 ct3), sl3⟩)
    (c3 : PySem.W.codeIn K cd3 "is_month" = true) (k3 : PySem.W.keepIn K (.ref f3) = true)
    (a4 : PySem.W.nsIn K mainGlobals "leap_days" = some (some (.ref f4)))
    (l4 : K.lookup f4 = some ⟨oc4, od4, .func (PySem.W.fnOf "leap_days" "leap_days" (defArgs s_leap_days) (defBody s_leap_days) (defScope s_leap_days) .none kV4 dc4 pm4 an4 cd4 ct4), sl4⟩)
    (c4 : PySem.W.codeIn K cd4 "leap_days" = true) (k4 : PySem.W.keepIn K (.ref f4) = true)
    (a5 : PySem.W.nsIn K mainGlobals "first_day" = some (some (.ref f5)))
    (l5 : K.lookup f5 = some ⟨oc5, od5, .func (PySem.W.fnOf "first_day" "first_day" (defArgs s_first_day) (defBody s_first_day) (defScope s_first_day) .none kV5 dc5 pm5 an5 cd5 ct5), sl5⟩)
    (c5 : PySem.W.codeIn K cd5 "first_day" = true) (k5 : PySem.W.keepIn K (.ref f5) = true)
    (a6 : PySem.W.nsIn K mainGlobals "last_day" = some (some (.ref f6)))
    (l6 : K.lookup f6 = some ⟨oc6, od6, .func (PySem.W.fnOf "last_day" "last_day" (defArgs s_last_day) (defBody s_last_day) (defScope s_last_day) .none kV6 dc6 pm6 an6 cd6 ct6), sl6⟩)
    (c6 : PySem.W.codeIn K cd6 "last_day" = true) (k6 : PySem.W.keepIn K (.ref f6) = true)
    (a7 : PySem.W.nsIn K mainGlobals "month_of" = some (some (.ref f7)))
    (l7 : K.lookup f7 = some ⟨oc7, od7, .func (PySem.W.fnOf "month_of" "month_of" (defArgs s_month_of) (defBody s_month_of) (defScope s_month_of) .none kV7 dc7 pm7 an7 cd7 ct7), sl7⟩)
    (c7 : PySem.W.codeIn K cd7 "month_of" = true) (k7 : PySem.W.keepIn K (.ref f7) = true)
    (a8 : PySem.W.nsIn K mainGlobals "_law_cell_at" = some (some (.ref f8)))
    (l8 : K.lookup f8 = some ⟨oc8, od8, .func (PySem.W.fnOf "_law_cell_at" "_law_cell_at" (defArgs s__law_cell_at) (defBody s__law_cell_at) (defScope s__law_cell_at) .none kV8 dc8 pm8 an8 cd8 ct8), sl8⟩)
    (c8 : PySem.W.codeIn K cd8 "_law_cell_at" = true) (k8 : PySem.W.keepIn K (.ref f8) = true)
    (a9 : PySem.W.nsIn K mainGlobals "_law_whole" = some (some (.ref f9)))
    (l9 : K.lookup f9 = some ⟨oc9, od9, .func (PySem.W.fnOf "_law_whole" "_law_whole" (defArgs s__law_whole) (defBody s__law_whole) (defScope s__law_whole) .none kV9 dc9 pm9 an9 cd9 ct9), sl9⟩)
    (c9 : PySem.W.codeIn K cd9 "_law_whole" = true) (k9 : PySem.W.keepIn K (.ref f9) = true)
    (a10 : PySem.W.nsIn K mainGlobals "_law_start" = some (some (.ref f10)))
    (l10 : K.lookup f10 = some ⟨oc10, od10, .func (PySem.W.fnOf "_law_start" "_law_start" (defArgs s__law_start) (defBody s__law_start) (defScope s__law_start) .none kV10 dc10 pm10 an10 cd10 ct10), sl10⟩)
    (c10 : PySem.W.codeIn K cd10 "_law_start" = true) (k10 : PySem.W.keepIn K (.ref f10) = true)
    (a11 : PySem.W.nsIn K mainGlobals "_law_lengths" = some (some (.ref f11)))
    (l11 : K.lookup f11 = some ⟨oc11, od11, .func (PySem.W.fnOf "_law_lengths" "_law_lengths" (defArgs s__law_lengths) (defBody s__law_lengths) (defScope s__law_lengths) .none kV11 dc11 pm11 an11 cd11 ct11), sl11⟩)
    (c11 : PySem.W.codeIn K cd11 "_law_lengths" = true) (k11 : PySem.W.keepIn K (.ref f11) = true)
    (a12 : PySem.W.nsIn K mainGlobals "_law_month_ends" = some (some (.ref f12)))
    (l12 : K.lookup f12 = some ⟨oc12, od12, .func (PySem.W.fnOf "_law_month_ends" "_law_month_ends" (defArgs s__law_month_ends) (defBody s__law_month_ends) (defScope s__law_month_ends) .none kV12 dc12 pm12 an12 cd12 ct12), sl12⟩)
    (c12 : PySem.W.codeIn K cd12 "_law_month_ends" = true) (k12 : PySem.W.keepIn K (.ref f12) = true)
    (a13 : PySem.W.nsIn K mainGlobals "_law_put" = some (some (.ref f13)))
    (l13 : K.lookup f13 = some ⟨oc13, od13, .func (PySem.W.fnOf "_law_put" "_law_put" (defArgs s__law_put) (defBody s__law_put) (defScope s__law_put) .none kV13 dc13 pm13 an13 cd13 ct13), sl13⟩)
    (c13 : PySem.W.codeIn K cd13 "_law_put" = true) (k13 : PySem.W.keepIn K (.ref f13) = true)
    (a14 : PySem.W.nsIn K mainGlobals "_law_word" = some (some (.ref f14)))
    (l14 : K.lookup f14 = some ⟨oc14, od14, .func (PySem.W.fnOf "_law_word" "_law_word" (defArgs s__law_word) (defBody s__law_word) (defScope s__law_word) .none kV14 dc14 pm14 an14 cd14 ct14), sl14⟩)
    (c14 : PySem.W.codeIn K cd14 "_law_word" = true) (k14 : PySem.W.keepIn K (.ref f14) = true)
    (a15 : PySem.W.nsIn K mainGlobals "_law_shut" = some (some (.ref f15)))
    (l15 : K.lookup f15 = some ⟨oc15, od15, .func (PySem.W.fnOf "_law_shut" "_law_shut" (defArgs s__law_shut) (defBody s__law_shut) (defScope s__law_shut) .none kV15 dc15 pm15 an15 cd15 ct15), sl15⟩)
    (c15 : PySem.W.codeIn K cd15 "_law_shut" = true) (k15 : PySem.W.keepIn K (.ref f15) = true)
    (a16 : PySem.W.nsIn K mainGlobals "_law_no_booking" = some (some (.ref f16)))
    (l16 : K.lookup f16 = some ⟨oc16, od16, .func (PySem.W.fnOf "_law_no_booking" "_law_no_booking" (defArgs s__law_no_booking) (defBody s__law_no_booking) (defScope s__law_no_booking) .none kV16 dc16 pm16 an16 cd16 ct16), sl16⟩)
    (c16 : PySem.W.codeIn K cd16 "_law_no_booking" = true) (k16 : PySem.W.keepIn K (.ref f16) = true)
    (a17 : PySem.W.nsIn K mainGlobals "_law_all_right" = some (some (.ref f17)))
    (l17 : K.lookup f17 = some ⟨oc17, od17, .func (PySem.W.fnOf "_law_all_right" "_law_all_right" (defArgs s__law_all_right) (defBody s__law_all_right) (defScope s__law_all_right) .none kV17 dc17 pm17 an17 cd17 ct17), sl17⟩)
    (c17 : PySem.W.codeIn K cd17 "_law_all_right" = true) (k17 : PySem.W.keepIn K (.ref f17) = true)
    (a18 : PySem.W.nsIn K mainGlobals "_law_ones_right" = some (some (.ref f18)))
    (l18 : K.lookup f18 = some ⟨oc18, od18, .func (PySem.W.fnOf "_law_ones_right" "_law_ones_right" (defArgs s__law_ones_right) (defBody s__law_ones_right) (defScope s__law_ones_right) .none kV18 dc18 pm18 an18 cd18 ct18), sl18⟩)
    (c18 : PySem.W.codeIn K cd18 "_law_ones_right" = true) (k18 : PySem.W.keepIn K (.ref f18) = true)
    (a19 : PySem.W.nsIn K mainGlobals "_law_journal_right" = some (some (.ref f19)))
    (l19 : K.lookup f19 = some ⟨oc19, od19, .func (PySem.W.fnOf "_law_journal_right" "_law_journal_right" (defArgs s__law_journal_right) (defBody s__law_journal_right) (defScope s__law_journal_right) .none kV19 dc19 pm19 an19 cd19 ct19), sl19⟩)
    (c19 : PySem.W.codeIn K cd19 "_law_journal_right" = true) (k19 : PySem.W.keepIn K (.ref f19) = true)
    (a20 : PySem.W.nsIn K mainGlobals "_law_gate_right" = some (some (.ref f20)))
    (l20 : K.lookup f20 = some ⟨oc20, od20, .func (PySem.W.fnOf "_law_gate_right" "_law_gate_right" (defArgs s__law_gate_right) (defBody s__law_gate_right) (defScope s__law_gate_right) .none kV20 dc20 pm20 an20 cd20 ct20), sl20⟩)
    (c20 : PySem.W.codeIn K cd20 "_law_gate_right" = true) (k20 : PySem.W.keepIn K (.ref f20) = true)
    (a21 : PySem.W.nsIn K mainGlobals "law" = some (some (.ref f21)))
    (l21 : K.lookup f21 = some ⟨oc21, od21, .func (PySem.W.fnOf "law" "law" (defArgs s_law) (defBody s_law) (defScope s_law) .none kV21 dc21 pm21 an21 cd21 ct21), sl21⟩)
    (c21 : PySem.W.codeIn K cd21 "law" = true) (k21 : PySem.W.keepIn K (.ref f21) = true)
    (a22 : PySem.W.findIn K (.ref C4) "__init__" = some (some (.ref f22))) (i22 : PySem.W.isFn K (.ref f22) = true)
    (l22 : K.lookup f22 = some ⟨oc22, od22, .func (PySem.W.fnOf "__init__" "Gate.__init__" (defArgs s_Gate___init__) (defBody s_Gate___init__) (defScope s_Gate___init__) .none kV22 dc22 pm22 an22 cd22 ct22), sl22⟩)
    (c22 : PySem.W.codeIn K cd22 "Gate.__init__" = true) (k22 : PySem.W.keepIn K (.ref f22) = true)
    (a23 : PySem.W.findIn K (.ref C4) "closed" = some (some (.ref f23))) (i23 : PySem.W.isFn K (.ref f23) = true)
    (l23 : K.lookup f23 = some ⟨oc23, od23, .func (PySem.W.fnOf "closed" "Gate.closed" (defArgs s_Gate_closed) (defBody s_Gate_closed) (defScope s_Gate_closed) .none kV23 dc23 pm23 an23 cd23 ct23), sl23⟩)
    (c23 : PySem.W.codeIn K cd23 "Gate.closed" = true) (k23 : PySem.W.keepIn K (.ref f23) = true)
    (a24 : PySem.W.findIn K (.ref C4) "lets" = some (some (.ref f24))) (i24 : PySem.W.isFn K (.ref f24) = true)
    (l24 : K.lookup f24 = some ⟨oc24, od24, .func (PySem.W.fnOf "lets" "Gate.lets" (defArgs s_Gate_lets) (defBody s_Gate_lets) (defScope s_Gate_lets) .none kV24 dc24 pm24 an24 cd24 ct24), sl24⟩)
    (c24 : PySem.W.codeIn K cd24 "Gate.lets" = true) (k24 : PySem.W.keepIn K (.ref f24) = true)
    (a25 : PySem.W.findIn K (.ref C4) "need_next" = some (some (.ref f25))) (i25 : PySem.W.isFn K (.ref f25) = true)
    (l25 : K.lookup f25 = some ⟨oc25, od25, .func (PySem.W.fnOf "need_next" "Gate.need_next" (defArgs s_Gate_need_next) (defBody s_Gate_need_next) (defScope s_Gate_need_next) .none kV25 dc25 pm25 an25 cd25 ct25), sl25⟩)
    (c25 : PySem.W.codeIn K cd25 "Gate.need_next" = true) (k25 : PySem.W.keepIn K (.ref f25) = true)
    (a26 : PySem.W.findIn K (.ref C4) "shut" = some (some (.ref f26))) (i26 : PySem.W.isFn K (.ref f26) = true)
    (l26 : K.lookup f26 = some ⟨oc26, od26, .func (PySem.W.fnOf "shut" "Gate.shut" (defArgs s_Gate_shut) (defBody s_Gate_shut) (defScope s_Gate_shut) .none kV26 dc26 pm26 an26 cd26 ct26), sl26⟩)
    (c26 : PySem.W.codeIn K cd26 "Gate.shut" = true) (k26 : PySem.W.keepIn K (.ref f26) = true)
    (a27 : PySem.W.findIn K (.ref C5) "__init__" = some (some (.ref f27))) (i27 : PySem.W.isFn K (.ref f27) = true)
    (l27 : K.lookup f27 = some ⟨oc27, od27, .func (PySem.W.fnOf "__init__" "Journal.__init__" (defArgs s_Journal___init__) (defBody s_Journal___init__) (defScope s_Journal___init__) .none kV27 dc27 pm27 an27 cd27 ct27), sl27⟩)
    (c27 : PySem.W.codeIn K cd27 "Journal.__init__" = true) (k27 : PySem.W.keepIn K (.ref f27) = true)
    (a28 : PySem.W.findIn K (.ref C5) "put" = some (some (.ref f28))) (i28 : PySem.W.isFn K (.ref f28) = true)
    (l28 : K.lookup f28 = some ⟨oc28, od28, .func (PySem.W.fnOf "put" "Journal.put" (defArgs s_Journal_put) (defBody s_Journal_put) (defScope s_Journal_put) .none kV28 dc28 pm28 an28 cd28 ct28), sl28⟩)
    (c28 : PySem.W.codeIn K cd28 "Journal.put" = true) (k28 : PySem.W.keepIn K (.ref f28) = true)
    (a29 : PySem.W.findIn K (.ref C5) "many" = some (some (.ref f29))) (i29 : PySem.W.isFn K (.ref f29) = true)
    (l29 : K.lookup f29 = some ⟨oc29, od29, .func (PySem.W.fnOf "many" "Journal.many" (defArgs s_Journal_many) (defBody s_Journal_many) (defScope s_Journal_many) .none kV29 dc29 pm29 an29 cd29 ct29), sl29⟩)
    (c29 : PySem.W.codeIn K cd29 "Journal.many" = true) (k29 : PySem.W.keepIn K (.ref f29) = true)
    (a30 : PySem.W.findIn K (.ref C5) "booking" = some (some (.ref f30))) (i30 : PySem.W.isFn K (.ref f30) = true)
    (l30 : K.lookup f30 = some ⟨oc30, od30, .func (PySem.W.fnOf "booking" "Journal.booking" (defArgs s_Journal_booking) (defBody s_Journal_booking) (defScope s_Journal_booking) .none kV30 dc30 pm30 an30 cd30 ct30), sl30⟩)
    (c30 : PySem.W.codeIn K cd30 "Journal.booking" = true) (k30 : PySem.W.keepIn K (.ref f30) = true)
    (a31 : PySem.W.findIn K (.ref C5) "every" = some (some (.ref f31))) (i31 : PySem.W.isFn K (.ref f31) = true)
    (l31 : K.lookup f31 = some ⟨oc31, od31, .func (PySem.W.fnOf "every" "Journal.every" (defArgs s_Journal_every) (defBody s_Journal_every) (defScope s_Journal_every) .none kV31 dc31 pm31 an31 cd31 ct31), sl31⟩)
    (c31 : PySem.W.codeIn K cd31 "Journal.every" = true) (k31 : PySem.W.keepIn K (.ref f31) = true)
    (a32 : PySem.W.findIn K (.ref C5) "undone_by" = some (some (.ref f32))) (i32 : PySem.W.isFn K (.ref f32) = true)
    (l32 : K.lookup f32 = some ⟨oc32, od32, .func (PySem.W.fnOf "undone_by" "Journal.undone_by" (defArgs s_Journal_undone_by) (defBody s_Journal_undone_by) (defScope s_Journal_undone_by) .none kV32 dc32 pm32 an32 cd32 ct32), sl32⟩)
    (c32 : PySem.W.codeIn K cd32 "Journal.undone_by" = true) (k32 : PySem.W.keepIn K (.ref f32) = true)
    (p0 : PySem.W.nsIn K mainGlobals "HouseError" = some (some (.ref C0)))
    (p1 : PySem.W.nsIn K mainGlobals "BadMonth" = some (some (.ref C1)))
    (p2 : PySem.W.nsIn K mainGlobals "NoBooking" = some (some (.ref C2)))
    (p3 : PySem.W.nsIn K mainGlobals "NotNext" = some (some (.ref C3)))
    (p4 : PySem.W.nsIn K mainGlobals "Gate" = some (some (.ref C4)))
    (p5 : PySem.W.nsIn K mainGlobals "Journal" = some (some (.ref C5)))
    (pg4 : PySem.W.plainGet K C4 Str.empty = true) (hd4 : PySem.W.hasDictIn K C4 = true) (po4 : PySem.W.plainOver K C4 = true) (sa4 : PySem.W.findIn K (.ref C4) "__setattr__" = some (some (.builtin "object.__setattr__"))) (mk4 : PySem.W.makesIn K C4 = true) (kc4 : PySem.W.keepIn K (.ref C4) = true)
    (na4_0 : PySem.W.findIn K (.ref C4) "last_closed" = some none)
    (pg5 : PySem.W.plainGet K C5 Str.empty = true) (hd5 : PySem.W.hasDictIn K C5 = true) (po5 : PySem.W.plainOver K C5 = true) (sa5 : PySem.W.findIn K (.ref C5) "__setattr__" = some (some (.builtin "object.__setattr__"))) (mk5 : PySem.W.makesIn K C5 = true) (kc5 : PySem.W.keepIn K (.ref C5) = true)
    (na5_0 : PySem.W.findIn K (.ref C5) "bookings" = some none)
    (na5_1 : PySem.W.findIn K (.ref C5) "undoings" = some none)
    (o0 : PySem.W.clsIn K C0 = some cl0)
    (r0 : PySem.W.typeIn K (.ref C0) = some (.type "type"))
    (b0 : PySem.W.mroIn K C0 (.type "BaseException") = some true)
    (o1 : PySem.W.clsIn K C1 = some cl1)
    (r1 : PySem.W.typeIn K (.ref C1) = some (.type "type"))
    (b1 : PySem.W.mroIn K C1 (.type "BaseException") = some true)
    (o2 : PySem.W.clsIn K C2 = some cl2)
    (r2 : PySem.W.typeIn K (.ref C2) = some (.type "type"))
    (b2 : PySem.W.mroIn K C2 (.type "BaseException") = some true)
    (o3 : PySem.W.clsIn K C3 = some cl3)
    (r3 : PySem.W.typeIn K (.ref C3) = some (.type "type"))
    (b3 : PySem.W.mroIn K C3 (.type "BaseException") = some true)
    (q1 : PySem.W.excIn K C1 [.type "ValueError", .type "Exception", .type "BaseException", .type "object"] "ValueError.__new__" = true)
    (g1 : PySem.W.mroIn K C1 (.type "object") = some true)
    (v1 : PySem.W.mroIn K C1 (.type "ValueError") = some true)
    (u1 : PySem.W.findIn K (.ref C1) "__getattribute__" = some (some (.builtin "BaseException.__getattribute__")))
    (w1 : PySem.W.findIn K (.ref C1) "__getattr__" = some none)
    (y1 : PySem.W.findIn K (.ref C1) "__class__" = some (some (.builtin "object.__class__")))
    (s1_0 : PySem.W.mroIn K C1 (.ref C0) = some true)
    (s1_1 : PySem.W.mroIn K C1 (.ref C1) = some true)
    (s1_2 : PySem.W.mroIn K C1 (.ref C2) = some false)
    (s1_3 : PySem.W.mroIn K C1 (.ref C3) = some false)
    (q2 : PySem.W.excIn K C2 [.type "ValueError", .type "Exception", .type "BaseException", .type "object"] "ValueError.__new__" = true)
    (g2 : PySem.W.mroIn K C2 (.type "object") = some true)
    (v2 : PySem.W.mroIn K C2 (.type "ValueError") = some true)
    (u2 : PySem.W.findIn K (.ref C2) "__getattribute__" = some (some (.builtin "BaseException.__getattribute__")))
    (w2 : PySem.W.findIn K (.ref C2) "__getattr__" = some none)
    (y2 : PySem.W.findIn K (.ref C2) "__class__" = some (some (.builtin "object.__class__")))
    (s2_0 : PySem.W.mroIn K C2 (.ref C0) = some true)
    (s2_1 : PySem.W.mroIn K C2 (.ref C1) = some false)
    (s2_2 : PySem.W.mroIn K C2 (.ref C2) = some true)
    (s2_3 : PySem.W.mroIn K C2 (.ref C3) = some false)
    (q3 : PySem.W.excIn K C3 [.type "ValueError", .type "Exception", .type "BaseException", .type "object"] "ValueError.__new__" = true)
    (g3 : PySem.W.mroIn K C3 (.type "object") = some true)
    (v3 : PySem.W.mroIn K C3 (.type "ValueError") = some true)
    (u3 : PySem.W.findIn K (.ref C3) "__getattribute__" = some (some (.builtin "BaseException.__getattribute__")))
    (w3 : PySem.W.findIn K (.ref C3) "__getattr__" = some none)
    (y3 : PySem.W.findIn K (.ref C3) "__class__" = some (some (.builtin "object.__class__")))
    (s3_0 : PySem.W.mroIn K C3 (.ref C0) = some true)
    (s3_1 : PySem.W.mroIn K C3 (.ref C1) = some false)
    (s3_2 : PySem.W.mroIn K C3 (.ref C2) = some false)
    (s3_3 : PySem.W.mroIn K C3 (.ref C3) = some true)
    (d0 : PySem.W.nsIn K mainGlobals "LENGTHS" = some (some (.ref D0)))
    (e0 : K.lookup D0 = some ⟨.type "tuple", dd0, .seq #[.int 31 tk0, .int 28 tk1, .int 31 tk2, .int 30 tk3, .int 31 tk4, .int 30 tk5, .int 31 tk6, .int 31 tk7, .int 30 tk8, .int 31 tk9, .int 30 tk10, .int 31 tk11] dn0, dsl0⟩)
    (z0 : PySem.W.nsIn K mainGlobals "ValueError" = some none)
    (z1 : PySem.W.nsIn K mainGlobals "all" = some none)
    (z2 : PySem.W.nsIn K mainGlobals "bool" = some none)
    (z3 : PySem.W.nsIn K mainGlobals "int" = some none)
    (z4 : PySem.W.nsIn K mainGlobals "isinstance" = some none)
    (z5 : PySem.W.nsIn K mainGlobals "len" = some none)
    (z6 : PySem.W.nsIn K mainGlobals "list" = some none)
    (z7 : PySem.W.nsIn K mainGlobals "min" = some none)
    (z8 : PySem.W.nsIn K mainGlobals "range" = some none)
    (z9 : PySem.W.nsIn K mainGlobals "str" = some none)
    (z10 : PySem.W.nsIn K mainGlobals "sum" = some none)
    (z11 : PySem.W.nsIn K mainGlobals "tuple" = some none)
    : ∃ fd : FuncData, (∀ (s : Shared) (v : Value), BindsTo s fd ⟨[v], []⟩ [("_law_script", v)]) ∧ ∀ base : Heap, K.In base → base.Ns mainGlobals mg → FnOk l.prog w K mg base (XE l.prog w) 14 fa fd ["_law_script"] (sp_law K) := by
  have e := hfa.symm.trans (PySem.W.mg_of X G a21)
  cases e
  have T : Txt K mg ⟨f0, PySem.W.fnOf "_wall" "_wall" (defArgs s__wall) (defBody s__wall) (defScope s__wall) .none kV0 dc0 pm0 an0 cd0 ct0, f1, PySem.W.fnOf "is_whole" "is_whole" (defArgs s_is_whole) (defBody s_is_whole) (defScope s_is_whole) .none kV1 dc1 pm1 an1 cd1 ct1, f2, PySem.W.fnOf "is_among" "is_among" (defArgs s_is_among) (defBody s_is_among) (defScope s_is_among) .none kV2 dc2 pm2 an2 cd2 ct2, f3, PySem.W.fnOf "is_month" "is_month" (defArgs s_is_month) (defBody s_is_month) (defScope s_is_month) .none kV3 dc3 pm3 an3 cd3 ct3, f4, PySem.W.fnOf "leap_days" "leap_days" (defArgs s_leap_days) (defBody s_leap_days) (defScope s_leap_days) .none kV4 dc4 pm4 an4 cd4 ct4, f5, PySem.W.fnOf "first_day" "first_day" (defArgs s_first_day) (defBody s_first_day) (defScope s_first_day) .none kV5 dc5 pm5 an5 cd5 ct5, f6, PySem.W.fnOf "last_day" "last_day" (defArgs s_last_day) (defBody s_last_day) (defScope s_last_day) .none kV6 dc6 pm6 an6 cd6 ct6, f7, PySem.W.fnOf "month_of" "month_of" (defArgs s_month_of) (defBody s_month_of) (defScope s_month_of) .none kV7 dc7 pm7 an7 cd7 ct7, f8, PySem.W.fnOf "_law_cell_at" "_law_cell_at" (defArgs s__law_cell_at) (defBody s__law_cell_at) (defScope s__law_cell_at) .none kV8 dc8 pm8 an8 cd8 ct8, f9, PySem.W.fnOf "_law_whole" "_law_whole" (defArgs s__law_whole) (defBody s__law_whole) (defScope s__law_whole) .none kV9 dc9 pm9 an9 cd9 ct9, f10, PySem.W.fnOf "_law_start" "_law_start" (defArgs s__law_start) (defBody s__law_start) (defScope s__law_start) .none kV10 dc10 pm10 an10 cd10 ct10, f11, PySem.W.fnOf "_law_lengths" "_law_lengths" (defArgs s__law_lengths) (defBody s__law_lengths) (defScope s__law_lengths) .none kV11 dc11 pm11 an11 cd11 ct11, f12, PySem.W.fnOf "_law_month_ends" "_law_month_ends" (defArgs s__law_month_ends) (defBody s__law_month_ends) (defScope s__law_month_ends) .none kV12 dc12 pm12 an12 cd12 ct12, f13, PySem.W.fnOf "_law_put" "_law_put" (defArgs s__law_put) (defBody s__law_put) (defScope s__law_put) .none kV13 dc13 pm13 an13 cd13 ct13, f14, PySem.W.fnOf "_law_word" "_law_word" (defArgs s__law_word) (defBody s__law_word) (defScope s__law_word) .none kV14 dc14 pm14 an14 cd14 ct14, f15, PySem.W.fnOf "_law_shut" "_law_shut" (defArgs s__law_shut) (defBody s__law_shut) (defScope s__law_shut) .none kV15 dc15 pm15 an15 cd15 ct15, f16, PySem.W.fnOf "_law_no_booking" "_law_no_booking" (defArgs s__law_no_booking) (defBody s__law_no_booking) (defScope s__law_no_booking) .none kV16 dc16 pm16 an16 cd16 ct16, f17, PySem.W.fnOf "_law_all_right" "_law_all_right" (defArgs s__law_all_right) (defBody s__law_all_right) (defScope s__law_all_right) .none kV17 dc17 pm17 an17 cd17 ct17, f18, PySem.W.fnOf "_law_ones_right" "_law_ones_right" (defArgs s__law_ones_right) (defBody s__law_ones_right) (defScope s__law_ones_right) .none kV18 dc18 pm18 an18 cd18 ct18, f19, PySem.W.fnOf "_law_journal_right" "_law_journal_right" (defArgs s__law_journal_right) (defBody s__law_journal_right) (defScope s__law_journal_right) .none kV19 dc19 pm19 an19 cd19 ct19, f20, PySem.W.fnOf "_law_gate_right" "_law_gate_right" (defArgs s__law_gate_right) (defBody s__law_gate_right) (defScope s__law_gate_right) .none kV20 dc20 pm20 an20 cd20 ct20, fa, PySem.W.fnOf "law" "law" (defArgs s_law) (defBody s_law) (defScope s_law) .none kV21 dc21 pm21 an21 cd21 ct21, f22, PySem.W.fnOf "__init__" "Gate.__init__" (defArgs s_Gate___init__) (defBody s_Gate___init__) (defScope s_Gate___init__) .none kV22 dc22 pm22 an22 cd22 ct22, f23, PySem.W.fnOf "closed" "Gate.closed" (defArgs s_Gate_closed) (defBody s_Gate_closed) (defScope s_Gate_closed) .none kV23 dc23 pm23 an23 cd23 ct23, f24, PySem.W.fnOf "lets" "Gate.lets" (defArgs s_Gate_lets) (defBody s_Gate_lets) (defScope s_Gate_lets) .none kV24 dc24 pm24 an24 cd24 ct24, f25, PySem.W.fnOf "need_next" "Gate.need_next" (defArgs s_Gate_need_next) (defBody s_Gate_need_next) (defScope s_Gate_need_next) .none kV25 dc25 pm25 an25 cd25 ct25, f26, PySem.W.fnOf "shut" "Gate.shut" (defArgs s_Gate_shut) (defBody s_Gate_shut) (defScope s_Gate_shut) .none kV26 dc26 pm26 an26 cd26 ct26, f27, PySem.W.fnOf "__init__" "Journal.__init__" (defArgs s_Journal___init__) (defBody s_Journal___init__) (defScope s_Journal___init__) .none kV27 dc27 pm27 an27 cd27 ct27, f28, PySem.W.fnOf "put" "Journal.put" (defArgs s_Journal_put) (defBody s_Journal_put) (defScope s_Journal_put) .none kV28 dc28 pm28 an28 cd28 ct28, f29, PySem.W.fnOf "many" "Journal.many" (defArgs s_Journal_many) (defBody s_Journal_many) (defScope s_Journal_many) .none kV29 dc29 pm29 an29 cd29 ct29, f30, PySem.W.fnOf "booking" "Journal.booking" (defArgs s_Journal_booking) (defBody s_Journal_booking) (defScope s_Journal_booking) .none kV30 dc30 pm30 an30 cd30 ct30, f31, PySem.W.fnOf "every" "Journal.every" (defArgs s_Journal_every) (defBody s_Journal_every) (defScope s_Journal_every) .none kV31 dc31 pm31 an31 cd31 ct31, f32, PySem.W.fnOf "undone_by" "Journal.undone_by" (defArgs s_Journal_undone_by) (defBody s_Journal_undone_by) (defScope s_Journal_undone_by) .none kV32 dc32 pm32 an32 cd32 ct32, C0, C1, C2, C3, C4, C5, D0⟩ := ⟨fun_mk (st := s__wall) l0 c0 k0, PySem.W.mg_of X G a0, fun_mk (st := s_is_whole) l1 c1 k1, PySem.W.mg_of X G a1, fun_mk (st := s_is_among) l2 c2 k2, PySem.W.mg_of X G a2, fun_mk (st := s_is_month) l3 c3 k3, PySem.W.mg_of X G a3, fun_mk (st := s_leap_days) l4 c4 k4, PySem.W.mg_of X G a4, fun_mk (st := s_first_day) l5 c5 k5, PySem.W.mg_of X G a5, fun_mk (st := s_last_day) l6 c6 k6, PySem.W.mg_of X G a6, fun_mk (st := s_month_of) l7 c7 k7, PySem.W.mg_of X G a7, fun_mk (st := s__law_cell_at) l8 c8 k8, PySem.W.mg_of X G a8, fun_mk (st := s__law_whole) l9 c9 k9, PySem.W.mg_of X G a9, fun_mk (st := s__law_start) l10 c10 k10, PySem.W.mg_of X G a10, fun_mk (st := s__law_lengths) l11 c11 k11, PySem.W.mg_of X G a11, fun_mk (st := s__law_month_ends) l12 c12 k12, PySem.W.mg_of X G a12, fun_mk (st := s__law_put) l13 c13 k13, PySem.W.mg_of X G a13, fun_mk (st := s__law_word) l14 c14 k14, PySem.W.mg_of X G a14, fun_mk (st := s__law_shut) l15 c15 k15, PySem.W.mg_of X G a15, fun_mk (st := s__law_no_booking) l16 c16 k16, PySem.W.mg_of X G a16, fun_mk (st := s__law_all_right) l17 c17 k17, PySem.W.mg_of X G a17, fun_mk (st := s__law_ones_right) l18 c18 k18, PySem.W.mg_of X G a18, fun_mk (st := s__law_journal_right) l19 c19 k19, PySem.W.mg_of X G a19, fun_mk (st := s__law_gate_right) l20 c20 k20, PySem.W.mg_of X G a20, fun_mk (st := s_law) l21 c21 k21, PySem.W.mg_of X G a21, fun_mk (st := s_Gate___init__) l22 c22 k22, ⟨a22, i22, k22⟩, fun_mk (st := s_Gate_closed) l23 c23 k23, ⟨a23, i23, k23⟩, fun_mk (st := s_Gate_lets) l24 c24 k24, ⟨a24, i24, k24⟩, fun_mk (st := s_Gate_need_next) l25 c25 k25, ⟨a25, i25, k25⟩, fun_mk (st := s_Gate_shut) l26 c26 k26, ⟨a26, i26, k26⟩, fun_mk (st := s_Journal___init__) l27 c27 k27, ⟨a27, i27, k27⟩, fun_mk (st := s_Journal_put) l28 c28 k28, ⟨a28, i28, k28⟩, fun_mk (st := s_Journal_many) l29 c29 k29, ⟨a29, i29, k29⟩, fun_mk (st := s_Journal_booking) l30 c30 k30, ⟨a30, i30, k30⟩, fun_mk (st := s_Journal_every) l31 c31 k31, ⟨a31, i31, k31⟩, fun_mk (st := s_Journal_undone_by) l32 c32 k32, ⟨a32, i32, k32⟩, PySem.W.mg_of X G p0, PySem.W.mg_of X G p1, PySem.W.mg_of X G p2, PySem.W.mg_of X G p3, PySem.W.mg_of X G p4, PySem.W.mg_of X G p5, ⟨pg4, hd4, po4, sa4⟩, na4_0, ⟨mk4, a22, i22, kc4⟩, ⟨pg5, hd5, po5, sa5⟩, na5_0, na5_1, ⟨mk5, a27, i27, kc5⟩, q1, ⟨u1, w1, y1, (by rw [o1]; rfl), g1, b1⟩, exmOne_of o0 r0 b0 s1_0, kitOne_of o1 r1 s1_1 s1_1, kitOne_of o2 r2 s1_1 s1_2, kitOne_of o3 r3 s1_1 s1_3, kitOne_VE v1, q2, ⟨u2, w2, y2, (by rw [o2]; rfl), g2, b2⟩, exmOne_of o0 r0 b0 s2_0, kitOne_of o1 r1 s2_2 s2_1, kitOne_of o2 r2 s2_2 s2_2, kitOne_of o3 r3 s2_2 s2_3, kitOne_VE v2, q3, ⟨u3, w3, y3, (by rw [o3]; rfl), g3, b3⟩, exmOne_of o0 r0 b0 s3_0, kitOne_of o1 r1 s3_3 s3_1, kitOne_of o2 r2 s3_3 s3_2, kitOne_of o3 r3 s3_3 s3_3, kitOne_VE v3, PySem.W.mg_of X G d0, ⟨_, _, _, e0, rfl, rfl, (by show 12 ≤ sizeLine; decide), (.cons ⟨_, rfl⟩ (.cons ⟨_, rfl⟩ (.cons ⟨_, rfl⟩ (.cons ⟨_, rfl⟩ (.cons ⟨_, rfl⟩ (.cons ⟨_, rfl⟩ (.cons ⟨_, rfl⟩ (.cons ⟨_, rfl⟩ (.cons ⟨_, rfl⟩ (.cons ⟨_, rfl⟩ (.cons ⟨_, rfl⟩ (.cons ⟨_, rfl⟩ .nil))))))))))))⟩, PySem.W.mg_none_of X G z0, PySem.W.mg_none_of X G z1, PySem.W.mg_none_of X G z2, PySem.W.mg_none_of X G z3, PySem.W.mg_none_of X G z4, PySem.W.mg_none_of X G z5, PySem.W.mg_none_of X G z6, PySem.W.mg_none_of X G z7, PySem.W.mg_none_of X G z8, PySem.W.mg_none_of X G z9, PySem.W.mg_none_of X G z10, PySem.W.mg_none_of X G z11⟩
  exact ⟨PySem.W.fnOf "law" "law" (defArgs s_law) (defBody s_law) (defScope s_law) .none kV21 dc21 pm21 an21 cd21 ct21, fun s v => .of_eq rfl, fun base _ _ => ok_law T⟩
end K13
open PySem PySem.W PyProof.Rows
set_option maxRecDepth 100000 in
set_option maxHeartbeats 0 in
theorem PySem.Challenge.cw_evenhall_k13_a_journal_kept_holds : PySem.Challenge.rw_evenhall_k13_a_journal_kept.Holds := by
  w_on; o_law
  refine PySem.W.holds_open (q := K13.vw) (loose := []) (Xt := fun s => PySem.W.xlAt K13.vw [] s && PySem.W.recOk (PySem.W.RowW.records (PySem.W.OpenRow.toRowW (PySem.W.OpenLaw.row PySem.Challenge.rw_evenhall_k13_a_journal_kept))) s) (XP := PySem.W.XL K13.vw []) (Yf := PySem.W.Hook.obs (PySem.W.kHook K13.frag K13.adrs K13.adrs_eq)) (Ya := PySem.W.Hook.val (PySem.W.kHook K13.frag K13.adrs K13.adrs_eq)) (YP := PySem.W.Hook.says (PySem.W.kHook K13.frag K13.adrs K13.adrs_eq)) (N := 4870) K13.left (PySem.W.Hook.of (PySem.W.kHook K13.frag K13.adrs K13.adrs_eq)) (PySem.W.Hook.keeps (PySem.W.kHook K13.frag K13.adrs K13.adrs_eq))
    (fun s e => PySem.W.xl_of s (Bool.and_eq_true_iff.mp e).1) PySem.W.XL.keeps (by rfl) (by rfl) (by rfl) (fun s e => PySem.W.recFacts_of (Bool.and_eq_true_iff.mp e).2) (by rfl) (by assumption) (by decide +kernel) ⟨rfl, rfl, rfl, rfl, rfl, by decide +kernel⟩ ?hw ?hc
  (case hw => w_witness2)
  k_fill
  refine L2.walk_ofX (l := PySem.Challenge.rw_evenhall_k13_a_journal_kept) (n := 63) (k := 14) (x := "_law_script") (sp := K13.sp_law) rfl (by decide) rfl ⟨rfl, by decide, by decide⟩ (fun w h Y => PySem.W.kIn_of Y) ?F ?S
  case F =>
    intro w mg fa h KX G hmg
    refine' K13.all_mk KX G hmg ?a0 ?l0 ?c0 ?k0 ?a1 ?l1 ?c1 ?k1 ?a2 ?l2 ?c2 ?k2 ?a3 ?l3 ?c3 ?k3 ?a4 ?l4 ?c4 ?k4 ?a5 ?l5 ?c5 ?k5 ?a6 ?l6 ?c6 ?k6 ?a7 ?l7 ?c7 ?k7 ?a8 ?l8 ?c8 ?k8 ?a9 ?l9 ?c9 ?k9 ?a10 ?l10 ?c10 ?k10 ?a11 ?l11 ?c11 ?k11 ?a12 ?l12 ?c12 ?k12 ?a13 ?l13 ?c13 ?k13 ?a14 ?l14 ?c14 ?k14 ?a15 ?l15 ?c15 ?k15 ?a16 ?l16 ?c16 ?k16 ?a17 ?l17 ?c17 ?k17 ?a18 ?l18 ?c18 ?k18 ?a19 ?l19 ?c19 ?k19 ?a20 ?l20 ?c20 ?k20 ?a21 ?l21 ?c21 ?k21 ?a22 ?i22 ?l22 ?c22 ?k22 ?a23 ?i23 ?l23 ?c23 ?k23 ?a24 ?i24 ?l24 ?c24 ?k24 ?a25 ?i25 ?l25 ?c25 ?k25 ?a26 ?i26 ?l26 ?c26 ?k26 ?a27 ?i27 ?l27 ?c27 ?k27 ?a28 ?i28 ?l28 ?c28 ?k28 ?a29 ?i29 ?l29 ?c29 ?k29 ?a30 ?i30 ?l30 ?c30 ?k30 ?a31 ?i31 ?l31 ?c31 ?k31 ?a32 ?i32 ?l32 ?c32 ?k32 ?p0 ?p1 ?p2 ?p3 ?p4 ?p5 ?pg4 ?hd4 ?po4 ?sa4 ?mk4 ?kc4 ?na4_0 ?pg5 ?hd5 ?po5 ?sa5 ?mk5 ?kc5 ?na5_0 ?na5_1 ?o0 ?r0 ?b0 ?o1 ?r1 ?b1 ?o2 ?r2 ?b2 ?o3 ?r3 ?b3 ?q1 ?g1 ?v1 ?u1 ?w1 ?y1 ?s1_0 ?s1_1 ?s1_2 ?s1_3 ?q2 ?g2 ?v2 ?u2 ?w2 ?y2 ?s2_0 ?s2_1 ?s2_2 ?s2_3 ?q3 ?g3 ?v3 ?u3 ?w3 ?y3 ?s3_0 ?s3_1 ?s3_2 ?s3_3 ?d0 ?e0 ?z0 ?z1 ?z2 ?z3 ?z4 ?z5 ?z6 ?z7 ?z8 ?z9 ?z10 ?z11
    (case p0 => k_is)
    (case p1 => k_is)
    (case p2 => k_is)
    (case p3 => k_is)
    (case p4 => k_is)
    (case p5 => k_is)
    (case a0 => k_is)
    (case l0 => k_is)
    (case c0 => k_is)
    (case k0 => k_is)
    (case a1 => k_is)
    (case l1 => k_is)
    (case c1 => k_is)
    (case k1 => k_is)
    (case a2 => k_is)
    (case l2 => k_is)
    (case c2 => k_is)
    (case k2 => k_is)
    (case a3 => k_is)
    (case l3 => k_is)
    (case c3 => k_is)
    (case k3 => k_is)
    (case a4 => k_is)
    (case l4 => k_is)
    (case c4 => k_is)
    (case k4 => k_is)
    (case a5 => k_is)
    (case l5 => k_is)
    (case c5 => k_is)
    (case k5 => k_is)
    (case a6 => k_is)
    (case l6 => k_is)
    (case c6 => k_is)
    (case k6 => k_is)
    (case a7 => k_is)
    (case l7 => k_is)
    (case c7 => k_is)
    (case k7 => k_is)
    (case a8 => k_is)
    (case l8 => k_is)
    (case c8 => k_is)
    (case k8 => k_is)
    (case a9 => k_is)
    (case l9 => k_is)
    (case c9 => k_is)
    (case k9 => k_is)
    (case a10 => k_is)
    (case l10 => k_is)
    (case c10 => k_is)
    (case k10 => k_is)
    (case a11 => k_is)
    (case l11 => k_is)
    (case c11 => k_is)
    (case k11 => k_is)
    (case a12 => k_is)
    (case l12 => k_is)
    (case c12 => k_is)
    (case k12 => k_is)
    (case a13 => k_is)
    (case l13 => k_is)
    (case c13 => k_is)
    (case k13 => k_is)
    (case a14 => k_is)
    (case l14 => k_is)
    (case c14 => k_is)
    (case k14 => k_is)
    (case a15 => k_is)
    (case l15 => k_is)
    (case c15 => k_is)
    (case k15 => k_is)
    (case a16 => k_is)
    (case l16 => k_is)
    (case c16 => k_is)
    (case k16 => k_is)
    (case a17 => k_is)
    (case l17 => k_is)
    (case c17 => k_is)
    (case k17 => k_is)
    (case a18 => k_is)
    (case l18 => k_is)
    (case c18 => k_is)
    (case k18 => k_is)
    (case a19 => k_is)
    (case l19 => k_is)
    (case c19 => k_is)
    (case k19 => k_is)
    (case a20 => k_is)
    (case l20 => k_is)
    (case c20 => k_is)
    (case k20 => k_is)
    (case a21 => k_is)
    (case l21 => k_is)
    (case c21 => k_is)
    (case k21 => k_is)
    (case a22 => k_is)
    (case i22 => k_is)
    (case l22 => k_is)
    (case c22 => k_is)
    (case k22 => k_is)
    (case a23 => k_is)
    (case i23 => k_is)
    (case l23 => k_is)
    (case c23 => k_is)
    (case k23 => k_is)
    (case a24 => k_is)
    (case i24 => k_is)
    (case l24 => k_is)
    (case c24 => k_is)
    (case k24 => k_is)
    (case a25 => k_is)
    (case i25 => k_is)
    (case l25 => k_is)
    (case c25 => k_is)
    (case k25 => k_is)
    (case a26 => k_is)
    (case i26 => k_is)
    (case l26 => k_is)
    (case c26 => k_is)
    (case k26 => k_is)
    (case a27 => k_is)
    (case i27 => k_is)
    (case l27 => k_is)
    (case c27 => k_is)
    (case k27 => k_is)
    (case a28 => k_is)
    (case i28 => k_is)
    (case l28 => k_is)
    (case c28 => k_is)
    (case k28 => k_is)
    (case a29 => k_is)
    (case i29 => k_is)
    (case l29 => k_is)
    (case c29 => k_is)
    (case k29 => k_is)
    (case a30 => k_is)
    (case i30 => k_is)
    (case l30 => k_is)
    (case c30 => k_is)
    (case k30 => k_is)
    (case a31 => k_is)
    (case i31 => k_is)
    (case l31 => k_is)
    (case c31 => k_is)
    (case k31 => k_is)
    (case a32 => k_is)
    (case i32 => k_is)
    (case l32 => k_is)
    (case c32 => k_is)
    (case k32 => k_is)
    (case pg4 => k_is)
    (case hd4 => k_is)
    (case po4 => k_is)
    (case sa4 => k_is)
    (case mk4 => k_is)
    (case kc4 => k_is)
    (case na4_0 => k_is)
    (case pg5 => k_is)
    (case hd5 => k_is)
    (case po5 => k_is)
    (case sa5 => k_is)
    (case mk5 => k_is)
    (case kc5 => k_is)
    (case na5_0 => k_is)
    (case na5_1 => k_is)
    (case o0 => k_is)
    (case r0 => k_is)
    (case b0 => k_is)
    (case o1 => k_is)
    (case r1 => k_is)
    (case b1 => k_is)
    (case o2 => k_is)
    (case r2 => k_is)
    (case b2 => k_is)
    (case o3 => k_is)
    (case r3 => k_is)
    (case b3 => k_is)
    (case q1 => k_exc)
    (case g1 => k_is)
    (case v1 => k_is)
    (case u1 => k_is)
    (case w1 => k_is)
    (case y1 => k_is)
    (case s1_0 => k_is)
    (case s1_1 => k_is)
    (case s1_2 => k_is)
    (case s1_3 => k_is)
    (case q2 => k_exc)
    (case g2 => k_is)
    (case v2 => k_is)
    (case u2 => k_is)
    (case w2 => k_is)
    (case y2 => k_is)
    (case s2_0 => k_is)
    (case s2_1 => k_is)
    (case s2_2 => k_is)
    (case s2_3 => k_is)
    (case q3 => k_exc)
    (case g3 => k_is)
    (case v3 => k_is)
    (case u3 => k_is)
    (case w3 => k_is)
    (case y3 => k_is)
    (case s3_0 => k_is)
    (case s3_1 => k_is)
    (case s3_2 => k_is)
    (case s3_3 => k_is)
    (case d0 => k_is)
    (case e0 => k_is)
    (case z0 => k_is)
    (case z1 => k_is)
    (case z2 => k_is)
    (case z3 => k_is)
    (case z4 => k_is)
    (case z5 => k_is)
    (case z6 => k_is)
    (case z7 => k_is)
    (case z8 => k_is)
    (case z9 => k_is)
    (case z10 => k_is)
    (case z11 => k_is)
  case S => exact fun K H a ns hl hO hS => K13.law_starts hO hS hl