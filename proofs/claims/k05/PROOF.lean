import PyProof.Rows.All
import Wide.All
import OpenK.AllK
import Wide.FinOn
import Lean
import PyProof.EqAt
import PyProof.EqKinds
import PyProof.TupleCall
import PyProof.EnumFor
import PyProof.EnumMake
import PyProof.EnumStmt
import PyProof.Rows.SortShell
import PyProof.TupleKey
import PyProof.WalkInts
import KE.KEqDict
import PyProof.Rows.IntRules
import PySem.Challenge.RW_evenhall_k05_shared_out
set_option Elab.async false
set_option linter.all false
set_option maxRecDepth 100000
namespace L2
open PySem
def defArgs (s : Stmt) : Arguments := match s with
  | .FunctionDef _ a _ _ _ _ _ _ _ _ => a
  | _ => { posonlyargs := [], args := [], vararg := none, kwonlyargs := [], kw_defaults := [], kwarg := none, defaults := [] }
def defBody (s : Stmt) : List Stmt := match s with
  | .FunctionDef _ _ b _ _ _ _ _ _ _ => b
  | _ => []
def defScope (s : Stmt) : Scope := match s with
  | .FunctionDef _ _ _ _ _ _ sc _ _ _ => sc
  | _ => { kind := .function, names := [], isGenerator := false, isCoroutine := false }
end L2
namespace K5
open PySem L2
def top (i : Nat) : Stmt := PySem.Challenge.pw_evenhall_k05_shared_out.main.body.getD i (.Pass ⟨0, 0, 0, 0⟩)
abbrev s__wall : Stmt := top 0
abbrev s_is_whole : Stmt := top 7
abbrev s_is_among : Stmt := top 8
abbrev s_rounded : Stmt := top 10
abbrev s_are_weights : Stmt := top 11
abbrev s_shared : Stmt := top 12
abbrev s__law_at : Stmt := top 14
abbrev s__law_mixed : Stmt := top 15
abbrev s__law_whole : Stmt := top 16
abbrev s__law_number : Stmt := top 17
abbrev s__law_weights : Stmt := top 18
abbrev s__law_spoilt : Stmt := top 19
abbrev s__law_is_good : Stmt := top 20
abbrev s__law_told : Stmt := top 21
abbrev s__law_is_shared : Stmt := top 22
abbrev s__law_is_rounded : Stmt := top 23
abbrev s_law : Stmt := top 24
end K5
namespace K5
open PySem L2
abbrev kS (s : String) : Str := Str.ofString s
abbrev kR (a : Addr) : Value := .ref a
abbrev kY (s : String) : Value := .type s
abbrev kB (s : String) : Value := .builtin s
abbrev kZ (s : Str) (t : Tok) : Value := .str s t
abbrev kN : Value := .none
abbrev kD (h : Int) (k v : Value) : DictEntry := ⟨h, k, v⟩
abbrev kO (c : Value) (d : Option Addr) (t : Data) (s : Array (Option Value)) : Obj := ⟨c, d, t, s⟩
abbrev keyHash := PyData.keyHash
set_option maxRecDepth 100000 in
def frag (P : Params) : PySem.W.Frag :=
  (nat_lit 2, (kO kN none (PySem.Data.dict #[] 0) #[]))::
  (nat_lit 3, (kO (kY "dict") none (PySem.Data.dict #[(kD (keyHash P (kS "__name__")) (kZ (kS "__name__") 165) (kZ (kS "law_evenhall_k05_shared_out") 325)), (kD (keyHash P (kS "__doc__")) (kZ (kS "__doc__") 166) kN), (kD (keyHash P (kS "__package__")) (kZ (kS "__package__") 167) kN), (kD (keyHash P (kS "__loader__")) (kZ (kS "__loader__") 168) (kB "__main__.__loader__#opaque")), (kD (keyHash P (kS "__spec__")) (kZ (kS "__spec__") 169) kN), (kD (keyHash P (kS "__annotations__")) (kZ (kS "__annotations__") 170) (kR 6)), (kD (keyHash P (kS "__builtins__")) (kZ (kS "__builtins__") 171) (kR 4)), (kD (keyHash P (kS "__file__")) (kZ (kS "__file__") 173) (kZ (kS "/claim/cut.py") 172)), (kD (keyHash P (kS "__cached__")) (kZ (kS "__cached__") 174) kN), (kD (keyHash P (kS "_wall")) (kZ (kS "_wall") 193) (kR 21)), (kD (keyHash P (kS "HouseError")) (kZ (kS "HouseError") 213) (kR 31)), (kD (keyHash P (kS "BadCount")) (kZ (kS "BadCount") 236) (kR 51)), (kD (keyHash P (kS "BadAmount")) (kZ (kS "BadAmount") 259) (kR 70)), (kD (keyHash P (kS "BadShare")) (kZ (kS "BadShare") 282) (kR 89)), (kD (keyHash P (kS "is_whole")) (kZ (kS "is_whole") 291) (kR 98)), (kD (keyHash P (kS "is_among")) (kZ (kS "is_among") 300) (kR 105)), (kD (keyHash P (kS "rounded")) (kZ (kS "rounded") 312) (kR 112)), (kD (keyHash P (kS "are_weights")) (kZ (kS "are_weights") 318) (kR 117)), (kD (keyHash P (kS "shared")) (kZ (kS "shared") 324) (kR 122)), (kD (keyHash P (kS "_law_at")) (kZ (kS "_law_at") 334) (kR 129)), (kD (keyHash P (kS "_law_mixed")) (kZ (kS "_law_mixed") 342) (kR 136)), (kD (keyHash P (kS "_law_whole")) (kZ (kS "_law_whole") 349) (kR 143)), (kD (keyHash P (kS "_law_number")) (kZ (kS "_law_number") 357) (kR 150)), (kD (keyHash P (kS "_law_weights")) (kZ (kS "_law_weights") 370) (kR 157)), (kD (keyHash P (kS "_law_spoilt")) (kZ (kS "_law_spoilt") 381) (kR 164)), (kD (keyHash P (kS "_law_is_good")) (kZ (kS "_law_is_good") 389) (kR 171)), (kD (keyHash P (kS "_law_told")) (kZ (kS "_law_told") 399) (kR 178)), (kD (keyHash P (kS "_law_is_shared")) (kZ (kS "_law_is_shared") 405) (kR 183)), (kD (keyHash P (kS "_law_is_rounded")) (kZ (kS "_law_is_rounded") 415) (kR 190)), (kD (keyHash P (kS "law")) (kZ (kS "law") 429) (kR 197))] 30) #[]))::
  (nat_lit 15, (kO (kY "tuple") none (PySem.Data.seq #[] 0) #[]))::
  (nat_lit 17, (kO (kY "tuple") none (PySem.Data.seq #[(kZ (kS "k") 190)] 0) #[]))::
  (nat_lit 18, (kO (kY "tuple") none (PySem.Data.seq #[] 0) #[]))::
  (nat_lit 20, (kO (kY "code") none (PySem.Data.fields #[(kZ (kS "_wall") 187), (kZ (kS "_wall") 188), (kZ (kS "/claim/cut.py") 189), (PySem.Value.int (1 : Int) 0), (PySem.Value.int (1 : Int) 0), (PySem.Value.int (0 : Int) 0), (PySem.Value.int (0 : Int) 0), (PySem.Value.int (3 : Int) 0), (kR 15), (PySem.Value.bool true), (PySem.Value.int (181 : Int) 0), (kR 16), kN, (kR 17), (kR 18), (kR 19), (PySem.Value.int (191 : Int) 0), (PySem.Value.int (1 : Int) 0), (kZ (kS "/claim/cut.py") 192)]) #[]))::
  (nat_lit 21, (kO (kY "function") none (PySem.Data.func (PySem.W.fnOf (kS "_wall") (kS "_wall") (defArgs s__wall) (defBody s__wall) (defScope s__wall) kN kN kN (kZ (kS "__main__") 164) none (kR 20) kN)) #[]))::
  (nat_lit 22, (kO (kY "tuple") none (PySem.Data.seq #[(kY "ValueError")] 0) #[]))::
  (nat_lit 29, (kO (kY "tuple") none (PySem.Data.seq #[] 0) #[]))::
  (nat_lit 30, (kO (kY "dict") none (PySem.Data.dict #[(kD (keyHash P (kS "__module__")) (kZ (kS "__module__") 203) (kZ (kS "evenhall.errors") 194)), (kD (keyHash P (kS "__firstlineno__")) (kZ (kS "__firstlineno__") 207) (PySem.Value.int (5 : Int) 206)), (kD (keyHash P (kS "__static_attributes__")) (kZ (kS "__static_attributes__") 208) (kR 29)), (kD (keyHash P (kS "__weakref__")) (kZ (kS "__weakref__") 210) (kR 32)), (kD (keyHash P (kS "__doc__")) (kZ (kS "__doc__") 211) kN)] 3) #[]))::
  (nat_lit 31, (kO (kY "type") none (PySem.Data.cls (PySem.ClassData.mk (kS "HouseError") [(kY "ValueError")] [(kR 31), (kY "ValueError"), (kY "Exception"), (kY "BaseException"), (kY "object")] 30 (kS "HouseError") true [] [(kR 51), (kR 70), (kR 89)] false none false)) #[(some (kR 22)), none, (some (kZ (kS "HouseError") 196)), (some (kZ (kS "HouseError") 204)), (some (kB "ValueError.__new__")), (some (PySem.Value.bool true))]))::
  (nat_lit 32, (kO (kY "getset_descriptor") none (PySem.Data.fields #[(kZ (kS "__weakref__") 209), (kR 31), (kB "ExceptionGroup.__weakref__"), kN]) #[]))::
  (nat_lit 35, (kO (kY "tuple") none (PySem.Data.seq #[(kR 31)] 0) #[]))::
  (nat_lit 42, (kO (kY "tuple") none (PySem.Data.seq #[] 0) #[]))::
  (nat_lit 44, (kO (kY "tuple") none (PySem.Data.seq #[(kZ (kS "self") 229)] 0) #[]))::
  (nat_lit 45, (kO (kY "tuple") none (PySem.Data.seq #[] 0) #[]))::
  (nat_lit 47, (kO (kY "code") none (PySem.Data.fields #[(kZ (kS "small_words") 226), (kZ (kS "BadCount.small_words") 227), (kZ (kS "/claim/cut.py") 228), (PySem.Value.int (9 : Int) 0), (PySem.Value.int (1 : Int) 0), (PySem.Value.int (0 : Int) 0), (PySem.Value.int (0 : Int) 0), (PySem.Value.int (3 : Int) 0), (kR 42), (PySem.Value.bool true), (PySem.Value.int (181 : Int) 0), (kR 43), kN, (kR 44), (kR 45), (kR 46), (PySem.Value.int (230 : Int) 0), (PySem.Value.int (9 : Int) 0), (kZ (kS "/claim/cut.py") 231)]) #[]))::
  (nat_lit 48, (kO (kY "function") none (PySem.Data.func (PySem.FuncData.mk (kS "small_words") (kS "BadCount.small_words") (PySem.Arguments.mk [] [(PySem.Arg.mk (kS "self") none (PySem.Pos.mk 9 20 9 24))] none [] [] none []) (PySem.FuncBody.stmts [(PySem.Stmt.Expr (PySem.Expr.Call (PySem.Expr.Name (kS "_wall") (PySem.Pos.mk 10 8 10 13)) [(PySem.Expr.Constant (PySem.Const.int (0 : Int)) 0 (PySem.Pos.mk 10 14 10 15))] [] (PySem.Pos.mk 10 8 10 16)) (PySem.Pos.mk 10 8 10 16))]) (PySem.Scope.mk PySem.ScopeKind.function [((kS "self"), PySem.NameKind.local), ((kS "_wall"), PySem.NameKind.globalImplicit)] false false []) 3 [] kN kN kN (kZ (kS "evenhall.errors") 194) none (kR 47) kN 0)) #[]))::
  (nat_lit 49, (kO (kY "tuple") none (PySem.Data.seq #[] 0) #[]))::
  (nat_lit 50, (kO (kY "dict") none (PySem.Data.dict #[(kD (keyHash P (kS "__module__")) (kZ (kS "__module__") 221) (kZ (kS "evenhall.errors") 194)), (kD (keyHash P (kS "__firstlineno__")) (kZ (kS "__firstlineno__") 225) (PySem.Value.int (7 : Int) 224)), (kD (keyHash P (kS "small_words")) (kZ (kS "small_words") 232) (kR 48)), (kD (keyHash P (kS "__static_attributes__")) (kZ (kS "__static_attributes__") 233) (kR 49)), (kD (keyHash P (kS "__doc__")) (kZ (kS "__doc__") 234) kN)] 2) #[]))::
  (nat_lit 51, (kO (kY "type") none (PySem.Data.cls (PySem.ClassData.mk (kS "BadCount") [(kR 31)] [(kR 51), (kR 31), (kY "ValueError"), (kY "Exception"), (kY "BaseException"), (kY "object")] 50 (kS "BadCount") true [] [] false none false)) #[(some (kR 35)), none, (some (kZ (kS "BadCount") 214)), (some (kZ (kS "BadCount") 222)), (some (kB "ValueError.__new__")), (some (PySem.Value.bool true))]))::
  (nat_lit 54, (kO (kY "tuple") none (PySem.Data.seq #[(kR 31)] 0) #[]))::
  (nat_lit 61, (kO (kY "tuple") none (PySem.Data.seq #[] 0) #[]))::
  (nat_lit 63, (kO (kY "tuple") none (PySem.Data.seq #[(kZ (kS "self") 252)] 0) #[]))::
  (nat_lit 64, (kO (kY "tuple") none (PySem.Data.seq #[] 0) #[]))::
  (nat_lit 66, (kO (kY "code") none (PySem.Data.fields #[(kZ (kS "small_words") 249), (kZ (kS "BadAmount.small_words") 250), (kZ (kS "/claim/cut.py") 251), (PySem.Value.int (13 : Int) 0), (PySem.Value.int (1 : Int) 0), (PySem.Value.int (0 : Int) 0), (PySem.Value.int (0 : Int) 0), (PySem.Value.int (3 : Int) 0), (kR 61), (PySem.Value.bool true), (PySem.Value.int (181 : Int) 0), (kR 62), kN, (kR 63), (kR 64), (kR 65), (PySem.Value.int (253 : Int) 0), (PySem.Value.int (13 : Int) 0), (kZ (kS "/claim/cut.py") 254)]) #[]))::
  (nat_lit 67, (kO (kY "function") none (PySem.Data.func (PySem.FuncData.mk (kS "small_words") (kS "BadAmount.small_words") (PySem.Arguments.mk [] [(PySem.Arg.mk (kS "self") none (PySem.Pos.mk 13 20 13 24))] none [] [] none []) (PySem.FuncBody.stmts [(PySem.Stmt.Expr (PySem.Expr.Call (PySem.Expr.Name (kS "_wall") (PySem.Pos.mk 14 8 14 13)) [(PySem.Expr.Constant (PySem.Const.int (1 : Int)) 0 (PySem.Pos.mk 14 14 14 15))] [] (PySem.Pos.mk 14 8 14 16)) (PySem.Pos.mk 14 8 14 16))]) (PySem.Scope.mk PySem.ScopeKind.function [((kS "self"), PySem.NameKind.local), ((kS "_wall"), PySem.NameKind.globalImplicit)] false false []) 3 [] kN kN kN (kZ (kS "evenhall.errors") 194) none (kR 66) kN 0)) #[]))::
  (nat_lit 68, (kO (kY "tuple") none (PySem.Data.seq #[] 0) #[]))::
  (nat_lit 69, (kO (kY "dict") none (PySem.Data.dict #[(kD (keyHash P (kS "__module__")) (kZ (kS "__module__") 244) (kZ (kS "evenhall.errors") 194)), (kD (keyHash P (kS "__firstlineno__")) (kZ (kS "__firstlineno__") 248) (PySem.Value.int (11 : Int) 247)), (kD (keyHash P (kS "small_words")) (kZ (kS "small_words") 255) (kR 67)), (kD (keyHash P (kS "__static_attributes__")) (kZ (kS "__static_attributes__") 256) (kR 68)), (kD (keyHash P (kS "__doc__")) (kZ (kS "__doc__") 257) kN)] 2) #[]))::
  (nat_lit 70, (kO (kY "type") none (PySem.Data.cls (PySem.ClassData.mk (kS "BadAmount") [(kR 31)] [(kR 70), (kR 31), (kY "ValueError"), (kY "Exception"), (kY "BaseException"), (kY "object")] 69 (kS "BadAmount") true [] [] false none false)) #[(some (kR 54)), none, (some (kZ (kS "BadAmount") 237)), (some (kZ (kS "BadAmount") 245)), (some (kB "ValueError.__new__")), (some (PySem.Value.bool true))]))::
  (nat_lit 73, (kO (kY "tuple") none (PySem.Data.seq #[(kR 31)] 0) #[]))::
  (nat_lit 80, (kO (kY "tuple") none (PySem.Data.seq #[] 0) #[]))::
  (nat_lit 82, (kO (kY "tuple") none (PySem.Data.seq #[(kZ (kS "self") 275)] 0) #[]))::
  (nat_lit 83, (kO (kY "tuple") none (PySem.Data.seq #[] 0) #[]))::
  (nat_lit 85, (kO (kY "code") none (PySem.Data.fields #[(kZ (kS "small_words") 272), (kZ (kS "BadShare.small_words") 273), (kZ (kS "/claim/cut.py") 274), (PySem.Value.int (17 : Int) 0), (PySem.Value.int (1 : Int) 0), (PySem.Value.int (0 : Int) 0), (PySem.Value.int (0 : Int) 0), (PySem.Value.int (3 : Int) 0), (kR 80), (PySem.Value.bool true), (PySem.Value.int (181 : Int) 0), (kR 81), kN, (kR 82), (kR 83), (kR 84), (PySem.Value.int (276 : Int) 0), (PySem.Value.int (17 : Int) 0), (kZ (kS "/claim/cut.py") 277)]) #[]))::
  (nat_lit 86, (kO (kY "function") none (PySem.Data.func (PySem.FuncData.mk (kS "small_words") (kS "BadShare.small_words") (PySem.Arguments.mk [] [(PySem.Arg.mk (kS "self") none (PySem.Pos.mk 17 20 17 24))] none [] [] none []) (PySem.FuncBody.stmts [(PySem.Stmt.Expr (PySem.Expr.Call (PySem.Expr.Name (kS "_wall") (PySem.Pos.mk 18 8 18 13)) [(PySem.Expr.Constant (PySem.Const.int (2 : Int)) 0 (PySem.Pos.mk 18 14 18 15))] [] (PySem.Pos.mk 18 8 18 16)) (PySem.Pos.mk 18 8 18 16))]) (PySem.Scope.mk PySem.ScopeKind.function [((kS "self"), PySem.NameKind.local), ((kS "_wall"), PySem.NameKind.globalImplicit)] false false []) 3 [] kN kN kN (kZ (kS "evenhall.errors") 194) none (kR 85) kN 0)) #[]))::
  (nat_lit 87, (kO (kY "tuple") none (PySem.Data.seq #[] 0) #[]))::
  (nat_lit 88, (kO (kY "dict") none (PySem.Data.dict #[(kD (keyHash P (kS "__module__")) (kZ (kS "__module__") 267) (kZ (kS "evenhall.errors") 194)), (kD (keyHash P (kS "__firstlineno__")) (kZ (kS "__firstlineno__") 271) (PySem.Value.int (15 : Int) 270)), (kD (keyHash P (kS "small_words")) (kZ (kS "small_words") 278) (kR 86)), (kD (keyHash P (kS "__static_attributes__")) (kZ (kS "__static_attributes__") 279) (kR 87)), (kD (keyHash P (kS "__doc__")) (kZ (kS "__doc__") 280) kN)] 2) #[]))::
  (nat_lit 89, (kO (kY "type") none (PySem.Data.cls (PySem.ClassData.mk (kS "BadShare") [(kR 31)] [(kR 89), (kR 31), (kY "ValueError"), (kY "Exception"), (kY "BaseException"), (kY "object")] 88 (kS "BadShare") true [] [] false none false)) #[(some (kR 73)), none, (some (kZ (kS "BadShare") 260)), (some (kZ (kS "BadShare") 268)), (some (kB "ValueError.__new__")), (some (PySem.Value.bool true))]))::
  (nat_lit 92, (kO (kY "tuple") none (PySem.Data.seq #[] 0) #[]))::
  (nat_lit 94, (kO (kY "tuple") none (PySem.Data.seq #[(kZ (kS "thing") 288)] 0) #[]))::
  (nat_lit 95, (kO (kY "tuple") none (PySem.Data.seq #[] 0) #[]))::
  (nat_lit 97, (kO (kY "code") none (PySem.Data.fields #[(kZ (kS "is_whole") 285), (kZ (kS "is_whole") 286), (kZ (kS "/claim/cut.py") 287), (PySem.Value.int (20 : Int) 0), (PySem.Value.int (1 : Int) 0), (PySem.Value.int (0 : Int) 0), (PySem.Value.int (0 : Int) 0), (PySem.Value.int (3 : Int) 0), (kR 92), (PySem.Value.bool true), (PySem.Value.int (181 : Int) 0), (kR 93), kN, (kR 94), (kR 95), (kR 96), (PySem.Value.int (289 : Int) 0), (PySem.Value.int (20 : Int) 0), (kZ (kS "/claim/cut.py") 290)]) #[]))::
  (nat_lit 98, (kO (kY "function") none (PySem.Data.func (PySem.W.fnOf (kS "is_whole") (kS "is_whole") (defArgs s_is_whole) (defBody s_is_whole) (defScope s_is_whole) kN kN kN (kZ (kS "evenhall.words") 283) none (kR 97) kN)) #[]))::
  (nat_lit 99, (kO (kY "tuple") none (PySem.Data.seq #[] 0) #[]))::
  (nat_lit 101, (kO (kY "tuple") none (PySem.Data.seq #[(kZ (kS "thing") 295), (kZ (kS "least") 296), (kZ (kS "most") 297)] 0) #[]))::
  (nat_lit 102, (kO (kY "tuple") none (PySem.Data.seq #[] 0) #[]))::
  (nat_lit 104, (kO (kY "code") none (PySem.Data.fields #[(kZ (kS "is_among") 292), (kZ (kS "is_among") 293), (kZ (kS "/claim/cut.py") 294), (PySem.Value.int (22 : Int) 0), (PySem.Value.int (3 : Int) 0), (PySem.Value.int (0 : Int) 0), (PySem.Value.int (0 : Int) 0), (PySem.Value.int (3 : Int) 0), (kR 99), (PySem.Value.bool true), (PySem.Value.int (181 : Int) 0), (kR 100), kN, (kR 101), (kR 102), (kR 103), (PySem.Value.int (298 : Int) 0), (PySem.Value.int (22 : Int) 0), (kZ (kS "/claim/cut.py") 299)]) #[]))::
  (nat_lit 105, (kO (kY "function") none (PySem.Data.func (PySem.W.fnOf (kS "is_among") (kS "is_among") (defArgs s_is_among) (defBody s_is_among) (defScope s_is_among) kN kN kN (kZ (kS "evenhall.words") 283) none (kR 104) kN)) #[]))::
  (nat_lit 106, (kO (kY "tuple") none (PySem.Data.seq #[] 0) #[]))::
  (nat_lit 108, (kO (kY "tuple") none (PySem.Data.seq #[(kZ (kS "number") 306), (kZ (kS "by") 307), (kZ (kS "down") 308), (kZ (kS "twice_rest") 309)] 0) #[]))::
  (nat_lit 109, (kO (kY "tuple") none (PySem.Data.seq #[] 0) #[]))::
  (nat_lit 111, (kO (kY "code") none (PySem.Data.fields #[(kZ (kS "rounded") 303), (kZ (kS "rounded") 304), (kZ (kS "/claim/cut.py") 305), (PySem.Value.int (25 : Int) 0), (PySem.Value.int (2 : Int) 0), (PySem.Value.int (0 : Int) 0), (PySem.Value.int (0 : Int) 0), (PySem.Value.int (3 : Int) 0), (kR 106), (PySem.Value.bool true), (PySem.Value.int (181 : Int) 0), (kR 107), kN, (kR 108), (kR 109), (kR 110), (PySem.Value.int (310 : Int) 0), (PySem.Value.int (25 : Int) 0), (kZ (kS "/claim/cut.py") 311)]) #[]))::
  (nat_lit 112, (kO (kY "function") none (PySem.Data.func (PySem.W.fnOf (kS "rounded") (kS "rounded") (defArgs s_rounded) (defBody s_rounded) (defScope s_rounded) kN kN kN (kZ (kS "evenhall.shares") 301) none (kR 111) kN)) #[]))::
  (nat_lit 113, (kO (kY "tuple") none (PySem.Data.seq #[] 0) #[]))::
  (nat_lit 116, (kO (kY "code") none (PySem.Data.fields #[(kZ (kS "are_weights") 313), (kZ (kS "are_weights") 314), (kZ (kS "/claim/cut.py") 315), (PySem.Value.int (31 : Int) 0), (PySem.Value.int (1 : Int) 0), (PySem.Value.int (0 : Int) 0), (PySem.Value.int (0 : Int) 0), (PySem.Value.int (3 : Int) 0), (kR 113), (PySem.Value.bool true), (PySem.Value.int (181 : Int) 0), (kR 114), kN, kN, kN, (kR 115), (PySem.Value.int (316 : Int) 0), (PySem.Value.int (31 : Int) 0), (kZ (kS "/claim/cut.py") 317)]) #[]))::
  (nat_lit 117, (kO (kY "function") none (PySem.Data.func (PySem.W.fnOf (kS "are_weights") (kS "are_weights") (defArgs s_are_weights) (defBody s_are_weights) (defScope s_are_weights) kN kN kN (kZ (kS "evenhall.shares") 301) none (kR 116) kN)) #[]))::
  (nat_lit 118, (kO (kY "tuple") none (PySem.Data.seq #[] 0) #[]))::
  (nat_lit 121, (kO (kY "code") none (PySem.Data.fields #[(kZ (kS "shared") 319), (kZ (kS "shared") 320), (kZ (kS "/claim/cut.py") 321), (PySem.Value.int (35 : Int) 0), (PySem.Value.int (2 : Int) 0), (PySem.Value.int (0 : Int) 0), (PySem.Value.int (0 : Int) 0), (PySem.Value.int (3 : Int) 0), (kR 118), (PySem.Value.bool true), (PySem.Value.int (181 : Int) 0), (kR 119), kN, kN, kN, (kR 120), (PySem.Value.int (322 : Int) 0), (PySem.Value.int (35 : Int) 0), (kZ (kS "/claim/cut.py") 323)]) #[]))::
  (nat_lit 122, (kO (kY "function") none (PySem.Data.func (PySem.W.fnOf (kS "shared") (kS "shared") (defArgs s_shared) (defBody s_shared) (defScope s_shared) kN kN kN (kZ (kS "evenhall.shares") 301) none (kR 121) kN)) #[]))::
  (nat_lit 123, (kO (kY "tuple") none (PySem.Data.seq #[] 0) #[]))::
  (nat_lit 125, (kO (kY "tuple") none (PySem.Data.seq #[(kZ (kS "_law_script") 330), (kZ (kS "_law_k") 331)] 0) #[]))::
  (nat_lit 126, (kO (kY "tuple") none (PySem.Data.seq #[] 0) #[]))::
  (nat_lit 128, (kO (kY "code") none (PySem.Data.fields #[(kZ (kS "_law_at") 327), (kZ (kS "_law_at") 328), (kZ (kS "/claim/cut.py") 329), (PySem.Value.int (47 : Int) 0), (PySem.Value.int (2 : Int) 0), (PySem.Value.int (0 : Int) 0), (PySem.Value.int (0 : Int) 0), (PySem.Value.int (3 : Int) 0), (kR 123), (PySem.Value.bool true), (PySem.Value.int (181 : Int) 0), (kR 124), kN, (kR 125), (kR 126), (kR 127), (PySem.Value.int (332 : Int) 0), (PySem.Value.int (47 : Int) 0), (kZ (kS "/claim/cut.py") 333)]) #[]))::
  (nat_lit 129, (kO (kY "function") none (PySem.Data.func (PySem.W.fnOf (kS "_law_at") (kS "_law_at") (defArgs s__law_at) (defBody s__law_at) (defScope s__law_at) kN kN kN (kZ (kS "law_evenhall_k05_shared_out") 325) none (kR 128) kN)) #[]))::
  (nat_lit 130, (kO (kY "tuple") none (PySem.Data.seq #[] 0) #[]))::
  (nat_lit 132, (kO (kY "tuple") none (PySem.Data.seq #[(kZ (kS "_law_script") 338), (kZ (kS "_law_k") 339)] 0) #[]))::
  (nat_lit 133, (kO (kY "tuple") none (PySem.Data.seq #[] 0) #[]))::
  (nat_lit 135, (kO (kY "code") none (PySem.Data.fields #[(kZ (kS "_law_mixed") 335), (kZ (kS "_law_mixed") 336), (kZ (kS "/claim/cut.py") 337), (PySem.Value.int (51 : Int) 0), (PySem.Value.int (2 : Int) 0), (PySem.Value.int (0 : Int) 0), (PySem.Value.int (0 : Int) 0), (PySem.Value.int (3 : Int) 0), (kR 130), (PySem.Value.bool true), (PySem.Value.int (181 : Int) 0), (kR 131), kN, (kR 132), (kR 133), (kR 134), (PySem.Value.int (340 : Int) 0), (PySem.Value.int (51 : Int) 0), (kZ (kS "/claim/cut.py") 341)]) #[]))::
  (nat_lit 136, (kO (kY "function") none (PySem.Data.func (PySem.W.fnOf (kS "_law_mixed") (kS "_law_mixed") (defArgs s__law_mixed) (defBody s__law_mixed) (defScope s__law_mixed) kN kN kN (kZ (kS "law_evenhall_k05_shared_out") 325) none (kR 135) kN)) #[]))::
  (nat_lit 137, (kO (kY "tuple") none (PySem.Data.seq #[] 0) #[]))::
  (nat_lit 139, (kO (kY "tuple") none (PySem.Data.seq #[(kZ (kS "_law_found") 346)] 0) #[]))::
  (nat_lit 140, (kO (kY "tuple") none (PySem.Data.seq #[] 0) #[]))::
  (nat_lit 142, (kO (kY "code") none (PySem.Data.fields #[(kZ (kS "_law_whole") 343), (kZ (kS "_law_whole") 344), (kZ (kS "/claim/cut.py") 345), (PySem.Value.int (53 : Int) 0), (PySem.Value.int (1 : Int) 0), (PySem.Value.int (0 : Int) 0), (PySem.Value.int (0 : Int) 0), (PySem.Value.int (3 : Int) 0), (kR 137), (PySem.Value.bool true), (PySem.Value.int (181 : Int) 0), (kR 138), kN, (kR 139), (kR 140), (kR 141), (PySem.Value.int (347 : Int) 0), (PySem.Value.int (53 : Int) 0), (kZ (kS "/claim/cut.py") 348)]) #[]))::
  (nat_lit 143, (kO (kY "function") none (PySem.Data.func (PySem.W.fnOf (kS "_law_whole") (kS "_law_whole") (defArgs s__law_whole) (defBody s__law_whole) (defScope s__law_whole) kN kN kN (kZ (kS "law_evenhall_k05_shared_out") 325) none (kR 142) kN)) #[]))::
  (nat_lit 144, (kO (kY "tuple") none (PySem.Data.seq #[] 0) #[]))::
  (nat_lit 146, (kO (kY "tuple") none (PySem.Data.seq #[(kZ (kS "_law_script") 353), (kZ (kS "_law_cell") 354)] 0) #[]))::
  (nat_lit 147, (kO (kY "tuple") none (PySem.Data.seq #[] 0) #[]))::
  (nat_lit 149, (kO (kY "code") none (PySem.Data.fields #[(kZ (kS "_law_number") 350), (kZ (kS "_law_number") 351), (kZ (kS "/claim/cut.py") 352), (PySem.Value.int (55 : Int) 0), (PySem.Value.int (1 : Int) 0), (PySem.Value.int (0 : Int) 0), (PySem.Value.int (0 : Int) 0), (PySem.Value.int (3 : Int) 0), (kR 144), (PySem.Value.bool true), (PySem.Value.int (181 : Int) 0), (kR 145), kN, (kR 146), (kR 147), (kR 148), (PySem.Value.int (355 : Int) 0), (PySem.Value.int (55 : Int) 0), (kZ (kS "/claim/cut.py") 356)]) #[]))::
  (nat_lit 150, (kO (kY "function") none (PySem.Data.func (PySem.W.fnOf (kS "_law_number") (kS "_law_number") (defArgs s__law_number) (defBody s__law_number) (defScope s__law_number) kN kN kN (kZ (kS "law_evenhall_k05_shared_out") 325) none (kR 149) kN)) #[]))::
  (nat_lit 151, (kO (kY "tuple") none (PySem.Data.seq #[] 0) #[]))::
  (nat_lit 153, (kO (kY "tuple") none (PySem.Data.seq #[(kZ (kS "_law_script") 361), (kZ (kS "_law_cell") 362), (kZ (kS "_law_many") 363), (kZ (kS "_law_most") 364), (kZ (kS "_law_found") 365), (kZ (kS "_law_k") 366), (kZ (kS "_law_draw") 367)] 0) #[]))::
  (nat_lit 154, (kO (kY "tuple") none (PySem.Data.seq #[] 0) #[]))::
  (nat_lit 156, (kO (kY "code") none (PySem.Data.fields #[(kZ (kS "_law_weights") 358), (kZ (kS "_law_weights") 359), (kZ (kS "/claim/cut.py") 360), (PySem.Value.int (60 : Int) 0), (PySem.Value.int (1 : Int) 0), (PySem.Value.int (0 : Int) 0), (PySem.Value.int (0 : Int) 0), (PySem.Value.int (3 : Int) 0), (kR 151), (PySem.Value.bool true), (PySem.Value.int (181 : Int) 0), (kR 152), kN, (kR 153), (kR 154), (kR 155), (PySem.Value.int (368 : Int) 0), (PySem.Value.int (60 : Int) 0), (kZ (kS "/claim/cut.py") 369)]) #[]))::
  (nat_lit 157, (kO (kY "function") none (PySem.Data.func (PySem.W.fnOf (kS "_law_weights") (kS "_law_weights") (defArgs s__law_weights) (defBody s__law_weights) (defScope s__law_weights) kN kN kN (kZ (kS "law_evenhall_k05_shared_out") 325) none (kR 156) kN)) #[]))::
  (nat_lit 158, (kO (kY "tuple") none (PySem.Data.seq #[] 0) #[]))::
  (nat_lit 160, (kO (kY "tuple") none (PySem.Data.seq #[(kZ (kS "_law_weights_here") 374), (kZ (kS "_law_cell") 375), (kZ (kS "_law_at_here") 376), (kZ (kS "_law_odd") 377), (kZ (kS "_law_way") 378)] 0) #[]))::
  (nat_lit 161, (kO (kY "tuple") none (PySem.Data.seq #[] 0) #[]))::
  (nat_lit 163, (kO (kY "code") none (PySem.Data.fields #[(kZ (kS "_law_spoilt") 371), (kZ (kS "_law_spoilt") 372), (kZ (kS "/claim/cut.py") 373), (PySem.Value.int (75 : Int) 0), (PySem.Value.int (2 : Int) 0), (PySem.Value.int (0 : Int) 0), (PySem.Value.int (0 : Int) 0), (PySem.Value.int (3 : Int) 0), (kR 158), (PySem.Value.bool true), (PySem.Value.int (181 : Int) 0), (kR 159), kN, (kR 160), (kR 161), (kR 162), (PySem.Value.int (379 : Int) 0), (PySem.Value.int (75 : Int) 0), (kZ (kS "/claim/cut.py") 380)]) #[]))::
  (nat_lit 164, (kO (kY "function") none (PySem.Data.func (PySem.W.fnOf (kS "_law_spoilt") (kS "_law_spoilt") (defArgs s__law_spoilt) (defBody s__law_spoilt) (defScope s__law_spoilt) kN kN kN (kZ (kS "law_evenhall_k05_shared_out") 325) none (kR 163) kN)) #[]))::
  (nat_lit 165, (kO (kY "tuple") none (PySem.Data.seq #[] 0) #[]))::
  (nat_lit 167, (kO (kY "tuple") none (PySem.Data.seq #[(kZ (kS "_law_weights_here") 385), (kZ (kS "_law_one") 386)] 0) #[]))::
  (nat_lit 168, (kO (kY "tuple") none (PySem.Data.seq #[] 0) #[]))::
  (nat_lit 170, (kO (kY "code") none (PySem.Data.fields #[(kZ (kS "_law_is_good") 382), (kZ (kS "_law_is_good") 383), (kZ (kS "/claim/cut.py") 384), (PySem.Value.int (84 : Int) 0), (PySem.Value.int (1 : Int) 0), (PySem.Value.int (0 : Int) 0), (PySem.Value.int (0 : Int) 0), (PySem.Value.int (3 : Int) 0), (kR 165), (PySem.Value.bool true), (PySem.Value.int (181 : Int) 0), (kR 166), kN, (kR 167), (kR 168), (kR 169), (PySem.Value.int (387 : Int) 0), (PySem.Value.int (84 : Int) 0), (kZ (kS "/claim/cut.py") 388)]) #[]))::
  (nat_lit 171, (kO (kY "function") none (PySem.Data.func (PySem.W.fnOf (kS "_law_is_good") (kS "_law_is_good") (defArgs s__law_is_good) (defBody s__law_is_good) (defScope s__law_is_good) kN kN kN (kZ (kS "law_evenhall_k05_shared_out") 325) none (kR 170) kN)) #[]))::
  (nat_lit 172, (kO (kY "tuple") none (PySem.Data.seq #[] 0) #[]))::
  (nat_lit 174, (kO (kY "tuple") none (PySem.Data.seq #[(kZ (kS "_law_number_here") 393), (kZ (kS "_law_weights_here") 394), (kZ (kS "e") 395), (kZ (kS "_law_good") 396)] 0) #[]))::
  (nat_lit 175, (kO (kY "tuple") none (PySem.Data.seq #[] 0) #[]))::
  (nat_lit 177, (kO (kY "code") none (PySem.Data.fields #[(kZ (kS "_law_told") 390), (kZ (kS "_law_told") 391), (kZ (kS "/claim/cut.py") 392), (PySem.Value.int (91 : Int) 0), (PySem.Value.int (2 : Int) 0), (PySem.Value.int (0 : Int) 0), (PySem.Value.int (0 : Int) 0), (PySem.Value.int (3 : Int) 0), (kR 172), (PySem.Value.bool true), (PySem.Value.int (181 : Int) 0), (kR 173), kN, (kR 174), (kR 175), (kR 176), (PySem.Value.int (397 : Int) 0), (PySem.Value.int (91 : Int) 0), (kZ (kS "/claim/cut.py") 398)]) #[]))::
  (nat_lit 178, (kO (kY "function") none (PySem.Data.func (PySem.W.fnOf (kS "_law_told") (kS "_law_told") (defArgs s__law_told) (defBody s__law_told) (defScope s__law_told) kN kN kN (kZ (kS "law_evenhall_k05_shared_out") 325) none (kR 177) kN)) #[]))::
  (nat_lit 179, (kO (kY "tuple") none (PySem.Data.seq #[] 0) #[]))::
  (nat_lit 182, (kO (kY "code") none (PySem.Data.fields #[(kZ (kS "_law_is_shared") 400), (kZ (kS "_law_is_shared") 401), (kZ (kS "/claim/cut.py") 402), (PySem.Value.int (99 : Int) 0), (PySem.Value.int (3 : Int) 0), (PySem.Value.int (0 : Int) 0), (PySem.Value.int (0 : Int) 0), (PySem.Value.int (3 : Int) 0), (kR 179), (PySem.Value.bool true), (PySem.Value.int (181 : Int) 0), (kR 180), kN, kN, kN, (kR 181), (PySem.Value.int (403 : Int) 0), (PySem.Value.int (99 : Int) 0), (kZ (kS "/claim/cut.py") 404)]) #[]))::
  (nat_lit 183, (kO (kY "function") none (PySem.Data.func (PySem.W.fnOf (kS "_law_is_shared") (kS "_law_is_shared") (defArgs s__law_is_shared) (defBody s__law_is_shared) (defScope s__law_is_shared) kN kN kN (kZ (kS "law_evenhall_k05_shared_out") 325) none (kR 182) kN)) #[]))::
  (nat_lit 184, (kO (kY "tuple") none (PySem.Data.seq #[] 0) #[]))::
  (nat_lit 186, (kO (kY "tuple") none (PySem.Data.seq #[(kZ (kS "_law_number_here") 409), (kZ (kS "_law_by") 410), (kZ (kS "_law_found") 411), (kZ (kS "_law_off") 412)] 0) #[]))::
  (nat_lit 187, (kO (kY "tuple") none (PySem.Data.seq #[] 0) #[]))::
  (nat_lit 189, (kO (kY "code") none (PySem.Data.fields #[(kZ (kS "_law_is_rounded") 406), (kZ (kS "_law_is_rounded") 407), (kZ (kS "/claim/cut.py") 408), (PySem.Value.int (116 : Int) 0), (PySem.Value.int (2 : Int) 0), (PySem.Value.int (0 : Int) 0), (PySem.Value.int (0 : Int) 0), (PySem.Value.int (3 : Int) 0), (kR 184), (PySem.Value.bool true), (PySem.Value.int (181 : Int) 0), (kR 185), kN, (kR 186), (kR 187), (kR 188), (PySem.Value.int (413 : Int) 0), (PySem.Value.int (116 : Int) 0), (kZ (kS "/claim/cut.py") 414)]) #[]))::
  (nat_lit 190, (kO (kY "function") none (PySem.Data.func (PySem.W.fnOf (kS "_law_is_rounded") (kS "_law_is_rounded") (defArgs s__law_is_rounded) (defBody s__law_is_rounded) (defScope s__law_is_rounded) kN kN kN (kZ (kS "law_evenhall_k05_shared_out") 325) none (kR 189) kN)) #[]))::
  (nat_lit 191, (kO (kY "tuple") none (PySem.Data.seq #[] 0) #[]))::
  (nat_lit 193, (kO (kY "tuple") none (PySem.Data.seq #[(kZ (kS "_law_script") 419), (kZ (kS "_law_number_here") 420), (kZ (kS "_law_by") 421), (kZ (kS "_law_weights_here") 422), (kZ (kS "_law_is_list") 423), (kZ (kS "_law_handed") 424), (kZ (kS "_law_found") 425), (kZ (kS "_law_kept") 426)] 0) #[]))::
  (nat_lit 194, (kO (kY "tuple") none (PySem.Data.seq #[] 0) #[]))::
  (nat_lit 196, (kO (kY "code") none (PySem.Data.fields #[(kZ (kS "law") 416), (kZ (kS "law") 417), (kZ (kS "/claim/cut.py") 418), (PySem.Value.int (122 : Int) 0), (PySem.Value.int (1 : Int) 0), (PySem.Value.int (0 : Int) 0), (PySem.Value.int (0 : Int) 0), (PySem.Value.int (3 : Int) 0), (kR 191), (PySem.Value.bool true), (PySem.Value.int (181 : Int) 0), (kR 192), kN, (kR 193), (kR 194), (kR 195), (PySem.Value.int (427 : Int) 0), (PySem.Value.int (122 : Int) 0), (kZ (kS "/claim/cut.py") 428)]) #[]))::
  (nat_lit 197, (kO (kY "function") none (PySem.Data.func (PySem.W.fnOf (kS "law") (kS "law") (defArgs s_law) (defBody s_law) (defScope s_law) kN kN kN (kZ (kS "law_evenhall_k05_shared_out") 325) none (kR 196) kN)) #[])) :: []
def adrs : List Addr := [nat_lit 2, nat_lit 3, nat_lit 15, nat_lit 17, nat_lit 18, nat_lit 20, nat_lit 21, nat_lit 22, nat_lit 29, nat_lit 30, nat_lit 31, nat_lit 32, nat_lit 35, nat_lit 42, nat_lit 44, nat_lit 45, nat_lit 47, nat_lit 48, nat_lit 49, nat_lit 50, nat_lit 51, nat_lit 54, nat_lit 61, nat_lit 63, nat_lit 64, nat_lit 66, nat_lit 67, nat_lit 68, nat_lit 69, nat_lit 70, nat_lit 73, nat_lit 80, nat_lit 82, nat_lit 83, nat_lit 85, nat_lit 86, nat_lit 87, nat_lit 88, nat_lit 89, nat_lit 92, nat_lit 94, nat_lit 95, nat_lit 97, nat_lit 98, nat_lit 99, nat_lit 101, nat_lit 102, nat_lit 104, nat_lit 105, nat_lit 106, nat_lit 108, nat_lit 109, nat_lit 111, nat_lit 112, nat_lit 113, nat_lit 116, nat_lit 117, nat_lit 118, nat_lit 121, nat_lit 122, nat_lit 123, nat_lit 125, nat_lit 126, nat_lit 128, nat_lit 129, nat_lit 130, nat_lit 132, nat_lit 133, nat_lit 135, nat_lit 136, nat_lit 137, nat_lit 139, nat_lit 140, nat_lit 142, nat_lit 143, nat_lit 144, nat_lit 146, nat_lit 147, nat_lit 149, nat_lit 150, nat_lit 151, nat_lit 153, nat_lit 154, nat_lit 156, nat_lit 157, nat_lit 158, nat_lit 160, nat_lit 161, nat_lit 163, nat_lit 164, nat_lit 165, nat_lit 167, nat_lit 168, nat_lit 170, nat_lit 171, nat_lit 172, nat_lit 174, nat_lit 175, nat_lit 177, nat_lit 178, nat_lit 179, nat_lit 182, nat_lit 183, nat_lit 184, nat_lit 186, nat_lit 187, nat_lit 189, nat_lit 190, nat_lit 191, nat_lit 193, nat_lit 194, nat_lit 196, nat_lit 197]
theorem adrs_eq (P : Params) : adrs = (frag P).map (·.1) := by kernel_rfl
def vw : Program := PySem.W.view PySem.Challenge.pw_evenhall_k05_shared_out [0, 2, 3, 4, 5, 7, 8, 10, 11, 12, 14, 15, 16, 17, 18, 19, 20, 21, 22, 23, 24]
set_option maxRecDepth 100000 in
set_option maxHeartbeats 0 in
theorem left : PySem.W.LeftO PySem.Challenge.pw_evenhall_k05_shared_out vw [] (fun s => PySem.W.xlAt vw [] s && PySem.W.recOk (PySem.W.RowW.records (PySem.W.OpenRow.toRowW (PySem.W.OpenLaw.row PySem.Challenge.rw_evenhall_k05_shared_out))) s) (PySem.W.kHook frag adrs adrs_eq).obs (PySem.W.kHook frag adrs adrs_eq).val 3060 := fun w => by kernel_rfl
end K5
set_option Elab.async false
set_option linter.all false
set_option maxRecDepth 100000
namespace L2
open PySem PySem.Spec PyProof.Rows
abbrev Key := Sum Int Str
def keyIs : Key → Value → Bool
  | .inl k, v => Value.isInt k v
  | .inr x, v => Value.isStrOf x v
def keyH (w : World) : Key → Int
  | .inl k => hashInt k
  | .inr x => hashStr w x
theorem keyIs_shape : ∀ {k : Key} {v : Value}, keyIs k v = true → (∃ i t, k = Sum.inl i ∧ v = Value.int i t) ∨ (∃ x t, k = Sum.inr x ∧ v = Value.str x t)
  | .inl i, v, h => by
    obtain ⟨t, e⟩ := Value.isInt_shape (k := i) (v := v) h
    exact .inl ⟨i, t, rfl, e⟩
  | .inr x, v, h => by
    obtain ⟨t, e⟩ := Value.isStrOf_shape (x := x) (v := v) h
    exact .inr ⟨x, t, rfl, e⟩
theorem keyIs_int (i : Int) (t : Tok) : keyIs (.inl i) (.int i t) = true := by simp [keyIs, Value.isInt]
theorem keyIs_str (x : Str) (t : Tok) : keyIs (.inr x) (.str x t) = true := by simp [keyIs, Value.isStrOf]
theorem key_ll (a b : Int) : decide ((Sum.inl a : Key) = Sum.inl b) = (a == b) := by
  by_cases e : a = b
  · subst e; simp
  · have h : ¬ (Sum.inl a : Key) = Sum.inl b := fun q => e (Sum.inl.inj q)
    rw [decide_eq_false h]
    exact (beq_eq_false_iff_ne.mpr e).symm
theorem key_rr (a b : Str) : decide ((Sum.inr a : Key) = Sum.inr b) = decide (a = b) := by
  by_cases e : a = b
  · subst e; simp
  · have h : ¬ (Sum.inr a : Key) = Sum.inr b := fun q => e (Sum.inr.inj q)
    rw [decide_eq_false h, decide_eq_false e]
theorem key_lr (a : Int) (b : Str) : decide ((Sum.inl a : Key) = Sum.inr b) = false := decide_eq_false (fun q => nomatch q)
theorem key_rl (a : Str) (b : Int) : decide ((Sum.inr a : Key) = Sum.inl b) = false := decide_eq_false (fun q => nomatch q)
def mixKind (prog : Program) (w : World) : PySem.KeyKind prog w Key where
  is := keyIs
  hash := keyH w
  inj := fun v a b ha hb => by
    rcases keyIs_shape ha with ⟨i, t, rfl, rfl⟩ | ⟨x, t, rfl, rfl⟩
    · rcases keyIs_shape hb with ⟨j, u, rfl, e⟩ | ⟨y, u, rfl, e⟩
      · injection e with e1 _; rw [e1]
      · exact nomatch e
    · rcases keyIs_shape hb with ⟨j, u, rfl, e⟩ | ⟨y, u, rfl, e⟩
      · exact nomatch e
      · injection e with e1 _; rw [e1]
  byValue := fun k v h => by
    rcases keyIs_shape h with ⟨i, t, rfl, rfl⟩ | ⟨x, t, rfl, rfl⟩ <;> rfl
  pyHash := fun hv h => by
    rcases keyIs_shape hv with ⟨i, t, rfl, rfl⟩ | ⟨x, t, rfl, rfl⟩
    · exact wpAny_pyHash_int h
    · exact wpAny_pyHash_str h
  eqBool := fun hu hv h => by
    rcases keyIs_shape hu with ⟨i, t, rfl, rfl⟩ | ⟨x, t, rfl, rfl⟩
    · rcases keyIs_shape hv with ⟨j, u, rfl, rfl⟩ | ⟨y, u, rfl, rfl⟩
      · rw [key_ll] at h; exact wpAny_eqBool_int h
      · rw [key_lr] at h; exact SeqAt.EqAt.int_str i t y u _ _ _ _ h
    · rcases keyIs_shape hv with ⟨j, u, rfl, rfl⟩ | ⟨y, u, rfl, rfl⟩
      · rw [key_rl] at h; exact SeqAt.EqAt.str_int x t j u _ _ _ _ h
      · rw [key_rr] at h; exact wpAny_eqBool_str h
  «strs» := fun k x t v h => by
    rcases keyIs_shape h with ⟨i, u, rfl, e⟩ | ⟨y, u, rfl, e⟩
    · exact nomatch e
    · injection e with e1 _
      subst e1
      cases v <;> rfl
theorem mixKind_int (prog : Program) (w : World) (i : Int) (t : Tok) : (mixKind prog w).is (.inl i) (.int i t) = true := keyIs_int i t
theorem mixKind_str (prog : Program) (w : World) (x : Str) (t : Tok) : (mixKind prog w).is (.inr x) (.str x t) = true := keyIs_str x t
end L2
namespace L2
open PySem PySem.Spec PyProof.Rows
inductive V where
  | non | bl (b : Bool) | int (i : Int) | str (x : Str) | byt (b : Array UInt8) | flt (b : UInt64) | ref (a : Addr) | ty (n : String)
  deriving DecidableEq
def RelV : V → Value → Prop
  | .non, u => u = Value.none
  | .bl b, u => u = Value.bool b
  | .int i, u => ∃ t, u = Value.int i t
  | .str x, u => ∃ t, u = Value.str x t
  | .byt b, u => ∃ t, u = Value.bytes b t
  | .flt b, u => ∃ t, u = Value.float b t
  | .ref a, u => u = Value.ref a
  | .ty n, u => u = Value.type n
abbrev Vals : List V → List Value → Prop := Paired RelV
theorem Vals.length {xs : List V} {us : List Value} (r : Vals xs us) : xs.length = us.length := Paired.length r
theorem Vals.get : ∀ {xs : List V} {us : List Value} {i : Nat} {x : V}, Vals xs us → xs[i]? = some x → ∃ u, us[i]? = some u ∧ RelV x u
  | _, _, _, _, .nil, e => by simp at e
  | _, _, 0, _, .cons r _, e => by simp at e; subst e; exact ⟨_, rfl, r⟩
  | _, _, i + 1, x, .cons _ t, e => by
    obtain ⟨u, h1, h2⟩ := Vals.get (i := i) (x := x) t (by simpa using e)
    exact ⟨u, by simpa using h1, h2⟩
theorem Vals.set {x : V} {u : Value} (r : RelV x u) : ∀ {xs : List V} {us : List Value} (i : Nat), Vals xs us → Vals (xs.set i x) (us.set i u)
  | _, _, _, .nil => .nil
  | _, _, 0, .cons _ t => .cons r t
  | _, _, i + 1, .cons q t => .cons q (Vals.set r i t)
theorem Vals.append : ∀ {xs ys : List V} {us ws : List Value}, Vals xs us → Vals ys ws → Vals (xs ++ ys) (us ++ ws)
  | _, _, _, _, .nil, s => s
  | _, _, _, _, .cons r t, s => .cons r (Vals.append t s)
theorem Vals.take : ∀ {xs : List V} {us : List Value} (n : Nat), Vals xs us → Vals (xs.take n) (us.take n)
  | _, _, 0, _ => .nil
  | _, _, _ + 1, .nil => .nil
  | _, _, n + 1, .cons r t => .cons r (Vals.take n t)
theorem Vals.drop : ∀ {xs : List V} {us : List Value} (n : Nat), Vals xs us → Vals (xs.drop n) (us.drop n)
  | _, _, 0, r => r
  | _, _, _ + 1, .nil => .nil
  | _, _, n + 1, .cons _ t => Vals.drop n t
theorem Vals.none_of : ∀ {xs : List V} {us : List Value} {i : Nat}, Vals xs us → xs[i]? = none → us[i]? = none := fun {xs us i} r e => by
  have h1 := r.length
  have h2 : xs.length ≤ i := List.getElem?_eq_none_iff.mp e
  exact List.getElem?_eq_none_iff.mpr (by omega)
def RelO : Option V → Option Value → Prop
  | some v, some u => RelV v u
  | none, none => True
  | _, _ => False
def KV {κ : Type} : List (κ × V) → List (κ × Value) → Prop := Paired fun (p : κ × V) (q : κ × Value) => p.1 = q.1 ∧ RelV p.2 q.2
def kV : Key → V
  | .inl i => .int i
  | .inr x => .str x
inductive HO where
  | lst (xs : List V)
  | tup (xs : List V)
  | dK (kvs : List (Key × V)) | dT (kvs : List (List Key × V))
  | set (S : Int → Bool) (n : Nat)
  | ins (C dx : Addr) (fs : List (Str × V))
  | own (x : Addr)
  | xd (fs : List (Str × V))
  | met (f x : Addr)
  | rng (lo hi : Int)
  | frz (o : Obj) (u : HO)
  | tbl (ps : Array Value)
  | ext (φ : Heap → Prop)
abbrev Hp := Addr → Option HO
def upd (H : Hp) (a : Addr) (o : HO) : Hp := fun b => if b = a then some o else H b
theorem upd_same {H : Hp} {a : Addr} {o : HO} : upd H a o a = some o := by unfold upd; rw [if_pos rfl]
theorem upd_ne {H : Hp} {a b : Addr} {o : HO} (h : b ≠ a) : upd H a o b = H b := by unfold upd; rw [if_neg h]
theorem ne_of_none {H : Hp} {a b : Addr} {o : HO} (h : H a = some o) (h' : H b = none) : a ≠ b := by
  intro e; subst e; rw [h] at h'; cases h'
section
variable (P : Program) (w : World)
def ObjOk (H : Hp) (h : Heap) (a : Addr) : HO → Prop
  | .lst xs => xs.length ≤ sizeLine ∧ ∃ (its : List Value) (n : Nat), Vals xs its ∧ h.get? a = some { cls := .type "list", data := .seq its.toArray n }
  | .tup xs => xs.length ≤ sizeLine ∧ ∃ its : List Value, Vals xs its ∧ IsTup h a its.toArray
  | .dK kvs => kvs.length ≤ sizeLine ∧ (a == sysModules) = false ∧ ∃ vs, KV kvs vs ∧ h.DictOf (mixKind P w) a vs
  | .dT kvs => kvs.length ≤ sizeLine ∧ (a == sysModules) = false ∧ ∃ xs : List (List Key × Addr × Value),
      Paired (fun (p : List Key × V) (q : List Key × Addr × Value) => p.1 = q.1 ∧ H q.2.1 = some (.tup (p.1.map kV)) ∧ RelV p.2 q.2.2) kvs xs ∧
      ∃ o es ep, h.get? a = some o ∧ o.ExactDict ∧ o.data = .dict es ep ∧ es.toList = xs.map (entryOfKey (tupleKind (mixKind P w))) ∧ (xs.map (·.1)).Nodup
  | .set S n => h.SetOf (intKind P w) a S n
  | .ins C dx fs => H dx = some (.own a) ∧ fs.length ≤ 1000 ∧ dx ≠ a ∧ h.get? a = some (PySem.W.instObj C dx) ∧
      ∃ mA, h.Ns1 dx mA ∧ (∀ f, RelO (fs.lookup f) (mA f)) ∧ PySem.Within mA (fs.map (·.1))
  | .own _ => ∃ o, h.get? a = some o
  | .xd fs => ∃ mA, h.Ns1 a mA ∧ ∀ f, RelO (fs.lookup f) (mA f)
  | .rng lo hi => ∃ t u v, h.get? a = some { cls := .type "range", data := .fields #[.int lo t, .int hi u, .int 1 v] }
  | .frz o u => h.get? a = some o ∧ ObjOk H h a u
  | .tbl ps => h.get? a = some { cls := .none, data := .fields ps }
  | .met f x => h.get? a = some (PySem.W.methodObj (.ref f) (.ref x))
  | .ext φ => φ h ∧ (∃ o, h.get? a = some o) ∧ ∀ h1 h2 : Heap, φ h1 → (∀ o, h1.get? a = some o → h2.get? a = some o) → φ h2
def HOk (H : Hp) (h : Heap) : Prop := ∀ a o, H a = some o → ObjOk P w H h a o
end
section
variable {P : Program} {w : World} {H H' : Hp} {h h' : Heap} {a : Addr} {o : HO}
theorem ObjOk.lt (x : ObjOk P w H h a o) : a < h.objs.size := by
  cases o with
  | lst xs => obtain ⟨_, _, _, _, e⟩ := x; exact Heap.lt_size e
  | tup xs => obtain ⟨_, _, _, p⟩ := x; exact p.lt
  | dK kvs => obtain ⟨_, _, _, _, o, _, _, e, _⟩ := x; exact Heap.lt_size e
  | dT kvs => obtain ⟨_, _, _, _, o, _, _, e, _⟩ := x; exact Heap.lt_size e
  | set S n => obtain ⟨o, _, _, _, e, _⟩ := x; exact Heap.lt_size e
  | ins C dx fs => obtain ⟨_, _, _, e, _⟩ := x; exact Heap.lt_size e
  | own y => obtain ⟨_, e⟩ := x; exact Heap.lt_size e
  | xd fs => obtain ⟨_, ⟨_, _, _, e, _⟩, _⟩ := x; exact Heap.lt_size e
  | rng lo hi => obtain ⟨_, _, _, e⟩ := x; exact Heap.lt_size e
  | frz ob u => obtain ⟨e, _⟩ := x; exact Heap.lt_size e
  | tbl ps => exact Heap.lt_size (show h.get? a = some _ from x)
  | met f y => exact Heap.lt_size (show h.get? a = some _ from x)
  | ext φ => obtain ⟨_, ⟨_, e⟩, _⟩ := x; exact Heap.lt_size e
theorem Paired.mapP {α β : Type} {F G : α → β → Prop} : ∀ {l₁ : List α} {l₂ : List β}, Paired F l₁ l₂ → (∀ a b, F a b → G a b) → Paired G l₁ l₂
  | _, _, .nil, _ => .nil
  | _, _, .cons r t, f => .cons (f _ _ r) (Paired.mapP t f)
theorem ObjOk.stay (x : ObjOk P w H h a o) (k : ∀ b u, (b = a ∨ H b = some (.own a)) → h.get? b = some u → h'.get? b = some u)
    (ho : ∀ b, H b = some (.own a) → H' b = some (.own a)) (ht : ∀ b xs, H b = some (.tup xs) → H' b = some (.tup xs)) : ObjOk P w H' h' a o := by
  induction o with
  | lst xs => obtain ⟨z, its, n, r, e⟩ := x; exact ⟨z, its, n, r, k _ _ (.inl rfl) e⟩
  | tup xs => obtain ⟨z, its, r, ob, e, c⟩ := x; exact ⟨z, its, r, ob, k _ _ (.inl rfl) e, c⟩
  | dK kvs => obtain ⟨z, y, vs, r, ob, es, ep, e, c⟩ := x; exact ⟨z, y, vs, r, ob, es, ep, k _ _ (.inl rfl) e, c⟩
  | dT kvs =>
    obtain ⟨z, y, xs, r, ob, es, ep, e, c⟩ := x
    exact ⟨z, y, xs, Paired.mapP r fun p q z => ⟨z.1, ht _ _ z.2.1, z.2.2⟩, ob, es, ep, k _ _ (.inl rfl) e, c⟩
  | set S n => obtain ⟨ob, es, ep, t, e, c⟩ := x; exact ⟨ob, es, ep, t, k _ _ (.inl rfl) e, c⟩
  | ins C dx fs =>
    obtain ⟨d, z, ne, e, mA, ⟨od, es, ep, e2, c⟩, r⟩ := x
    exact ⟨ho _ d, z, ne, k _ _ (.inl rfl) e, mA, ⟨od, es, ep, k _ _ (.inr d) e2, c⟩, r⟩
  | own y => obtain ⟨ob, e⟩ := x; exact ⟨ob, k _ _ (.inl rfl) e⟩
  | xd fs => obtain ⟨mA, ⟨od, es, ep, e, c⟩, r⟩ := x; exact ⟨mA, ⟨od, es, ep, k _ _ (.inl rfl) e, c⟩, r⟩
  | rng lo hi => obtain ⟨t, u, v, e⟩ := x; exact ⟨t, u, v, k _ _ (.inl rfl) e⟩
  | frz ob u ih => obtain ⟨e, q⟩ := x; exact ⟨k _ _ (.inl rfl) e, ih q⟩
  | tbl ps =>
    have e : h.get? a = some { cls := .none, data := .fields ps } := x
    show h'.get? a = some { cls := .none, data := .fields ps }
    exact k a _ (.inl rfl) e
  | met f y =>
    have e : h.get? a = some (PySem.W.methodObj (.ref f) (.ref y)) := x
    show h'.get? a = some (PySem.W.methodObj (.ref f) (.ref y))
    exact k a _ (.inl rfl) e
  | ext φ => obtain ⟨p, ⟨o, e⟩, st⟩ := x; exact ⟨st _ _ p fun o q => k _ _ (.inl rfl) q, ⟨o, k _ _ (.inl rfl) e⟩, st⟩
theorem HOk.lt (x : HOk P w H h) (e : H a = some o) : a < h.objs.size := (x a o e).lt
theorem HOk.fresh (x : HOk P w H h) (e : h.objs.size ≤ a) : H a = none := by
  cases q : H a with
  | none => rfl
  | some u => exact absurd (Nat.lt_of_lt_of_le (x.lt q) e) (Nat.lt_irrefl _)
theorem HOk.kept (x : HOk P w H h) (k : ∀ b u, h.get? b = some u → h'.get? b = some u) : HOk P w H h' := fun a o e =>
  (x a o e).stay (fun b u _ q => k b u q) (fun _ q => q) fun _ _ q => q
theorem HOk.laid (x : HOk P w H h) (k : ∀ b u, h.get? b = some u → h'.get? b = some u) (hp : h.objs.size ≤ a) (new : ObjOk P w (upd H a o) h' a o) : HOk P w (upd H a o) h' := fun b u e => by
  have hn := x.fresh hp
  by_cases hb : b = a
  · subst hb; rw [upd_same] at e; cases e; exact new
  · rw [upd_ne hb] at e
    exact (x b u e).stay (fun c v _ q => k c v q) (fun c q => by rw [upd_ne (ne_of_none q hn)]; exact q) fun c xs q => by rw [upd_ne (ne_of_none q hn)]; exact q
end
def Rd (H : Hp) (a : Addr) (u : HO) : Prop := H a = some u ∨ ∃ o, H a = some (.frz o u)
theorem Rd.of {H : Hp} {a : Addr} {u : HO} (h : H a = some u) : Rd H a u := .inl h
theorem Rd.ok {P : Program} {w : World} {H : Hp} {h : Heap} {a : Addr} {u : HO} (r : Rd H a u) (x : HOk P w H h) : ObjOk P w H h a u := by
  rcases r with r | ⟨o, r⟩
  · exact x a u r
  · obtain ⟨_, q⟩ := x a _ r
    exact q
def Mut : Option HO → Prop
  | some (.lst _) => True
  | some (.dK _) => True
  | some (.dT _) => True
  | some (.set _ _) => True
  | some (.ins _ _ _) => True
  | some (.ext _) => True
  | _ => False
section
variable {P : Program} {w : World} {H : Hp} {h h' : Heap} {x e : Addr} {o' : HO}
theorem HOk.write (ok : HOk P w H h) (mu : Mut (H x)) (he : e = x ∨ H e = some (.own x)) (k : ∀ b u, b ≠ e → h.get? b = some u → h'.get? b = some u) (heo : ∃ u, h'.get? e = some u)
    (new : ObjOk P w (upd H x o') h' x o') : HOk P w (upd H x o') h' := fun b u q => by
  have nown : ∀ c y, H c = some (.own y) → c ≠ x := fun c y r z => by subst z; rw [r] at mu; exact mu
  have ntup : ∀ c xs, H c = some (.tup xs) → c ≠ x := fun c xs r z => by subst z; rw [r] at mu; exact mu
  by_cases hb : b = x
  · subst hb; rw [upd_same] at q; cases q; exact new
  · rw [upd_ne hb] at q
    by_cases hbe : b = e
    · have q' : H b = some (.own x) := by
        rcases he with z | z
        · exact absurd (hbe.trans z) hb
        · rw [hbe]; exact z
      rw [q] at q'; cases q'
      obtain ⟨v, hv⟩ := heo
      exact ⟨v, by rw [hbe]; exact hv⟩
    · refine (ok b u q).stay (fun c v hc r => k c v ?_ r) (fun c r => by rw [upd_ne (nown c b r)]; exact r) fun c xs r => by rw [upd_ne (ntup c xs r)]; exact r
      rcases hc with rfl | hc
      · exact hbe
      · rintro rfl
        rcases he with z | z
        · exact nown c b hc z
        · rw [hc] at z; cases z; exact hb rfl
end
structure Un (fs ex : List Addr) (H H' : Hp) (h h' : Heap) : Prop where
  keep : ∀ b o, h.get? b = some o → H b = none → b ∉ fs → b ∉ ex → h'.get? b = some o
  slot : ∀ b o, h.get? b = some o → H b = none → b ∈ fs → b ∉ ex → ∃ sl, h'.get? b = some { o with slots := sl }
  free : ∀ b o, h.get? b = some o → H b = none → b ∉ ex → H' b = none
  there : ∀ b o, h.get? b = some o → b ∉ ex → ∃ o', h'.get? b = some o'
  tups : ∀ b xs, H b = some (.tup xs) → H' b = some (.tup xs)
  frzs : ∀ b o u, H b = some (.frz o u) → H' b = some (.frz o u)
  tbls : ∀ b ps, H b = some (.tbl ps) → ∃ more, H' b = some (.tbl (ps ++ more))
section
variable {fs fs' ex ex' : List Addr} {H H1 H2 : Hp} {h h1 h2 h' : Heap} {a x e : Addr} {o : HO}
theorem Un.any (u : Un fs ex H H1 h h1) {b : Addr} {ob : Obj} (q : h.get? b = some ob) (n : H b = none) (hx : b ∉ ex) : ∃ sl, h1.get? b = some { ob with slots := sl } := by
  by_cases hb : b ∈ fs
  · exact u.slot b ob q n hb hx
  · exact ⟨ob.slots, u.keep b ob q n hb hx⟩
theorem Un.trans (a : Un fs ex H H1 h h1) (b : Un fs ex H1 H2 h1 h2) : Un fs ex H H2 h h2 where
  keep := fun c ob q n hc hx => b.keep c ob (a.keep c ob q n hc hx) (a.free c ob q n hx) hc hx
  slot := fun c ob q n hc hx => by
    obtain ⟨sl, e1⟩ := a.slot c ob q n hc hx
    obtain ⟨sl', e2⟩ := b.slot c _ e1 (a.free c ob q n hx) hc hx
    exact ⟨sl', e2⟩
  free := fun c ob q n hx => by
    obtain ⟨o', e1⟩ := a.there c ob q hx
    exact b.free c o' e1 (a.free c ob q n hx) hx
  there := fun c ob q hx => by
    obtain ⟨o', e1⟩ := a.there c ob q hx
    exact b.there c o' e1 hx
  tups := fun c xs q => b.tups c xs (a.tups c xs q)
  frzs := fun c ob xs q => b.frzs c ob xs (a.frzs c ob xs q)
  tbls := fun c ps q => by
    obtain ⟨m1, e1⟩ := a.tbls c ps q
    obtain ⟨m2, e2⟩ := b.tbls c _ e1
    exact ⟨m1 ++ m2, by rw [e2, Array.append_assoc]⟩
theorem Un.kept (k : ∀ b u, h.get? b = some u → h'.get? b = some u) : Un fs ex H H h h' :=
  ⟨fun b ob q _ _ _ => k b ob q, fun b ob q _ _ _ => ⟨ob.slots, k b ob q⟩, fun _ _ _ n _ => n, fun b ob q _ => ⟨ob, k b ob q⟩, fun _ _ q => q, fun _ _ _ q => q, fun _ ps q => ⟨#[], by rw [q]; simp⟩⟩
theorem Un.refl : Un fs ex H H h h := Un.kept fun _ _ q => q
theorem Un.laid (k : ∀ b u, h.get? b = some u → h'.get? b = some u) (hp : h.objs.size ≤ a) (hn : H a = none) : Un fs ex H (upd H a o) h h' where
  keep := fun b u q _ _ _ => k b u q
  slot := fun b u q _ _ _ => ⟨u.slots, k b u q⟩
  free := fun b u q n _ => by rw [upd_ne (Nat.ne_of_lt (Nat.lt_of_lt_of_le (Heap.lt_size q) hp))]; exact n
  there := fun b u q _ => ⟨u, k b u q⟩
  tups := fun b xs q => by rw [upd_ne (ne_of_none q hn)]; exact q
  frzs := fun b u xs q => by rw [upd_ne (ne_of_none q hn)]; exact q
  tbls := fun b ps q => ⟨#[], by rw [upd_ne (ne_of_none q hn), q]; simp⟩
theorem Un.write (mu : Mut (H x)) (he : e = x ∨ H e = some (.own x)) (k : ∀ b u, b ≠ e → h.get? b = some u → h'.get? b = some u) (heo : ∃ u, h'.get? e = some u) : Un fs ex H (upd H x o) h h' := by
  have hx : ∀ b, H b = none → b ≠ x := fun b n z => by subst z; rw [n] at mu; exact mu
  have hb : ∀ b, H b = none → b ≠ e := fun b n z => by
    subst z
    rcases he with r | r
    · exact hx b n r
    · rw [n] at r; cases r
  have hm : ∀ b u, H b = some u → ¬ Mut (some u) → b ≠ x := fun b u q nm z => by subst z; rw [q] at mu; exact nm mu
  refine ⟨fun b u q n _ _ => k b u (hb b n) q, fun b u q n _ _ => ⟨u.slots, k b u (hb b n) q⟩, fun b u q n _ => by rw [upd_ne (hx b n)]; exact n, fun b u q _ => ?_,
    fun b xs q => by rw [upd_ne (hm b _ q fun z => z)]; exact q, fun b u xs q => by rw [upd_ne (hm b _ q fun z => z)]; exact q, fun b ps q => ⟨#[], by rw [upd_ne (hm b _ q fun z => z), q]; simp⟩⟩
  by_cases hbe : b = e
  · subst hbe; exact heo
  · exact ⟨u, k b u hbe q⟩
theorem Un.mono (u : Un fs ex H H1 h h1) (hs : ∀ b ∈ fs, b ∈ fs') (hx : ∀ b ∈ ex, b ∈ ex') : Un fs' ex' H H1 h h1 :=
  ⟨fun b ob q n hb he => u.keep b ob q n (fun z => hb (hs b z)) fun z => he (hx b z), fun _ _ q n _ he => u.any q n fun z => he (hx _ z), fun b ob q n he => u.free b ob q n fun z => he (hx b z), fun b ob q he => u.there b ob q fun z => he (hx b z), u.tups, u.frzs, u.tbls⟩
end
def trk (h : Heap) (H : Hp) : List Addr := (List.range h.objs.size).filter fun a => (H a).isSome
def hidT (h : Heap) (H : Hp) : Heap := PySem.W.hideAll h (trk h H)
theorem hidT_size (h : Heap) (H : Hp) : (hidT h H).objs.size = h.objs.size := PySem.W.hideAll_size _ _
theorem hidT_get {h : Heap} {H : Hp} {b : Addr} {o : Obj} (e : h.get? b = some o) (n : H b = none) : (hidT h H).get? b = some o :=
  PySem.W.hideAll_get _ e fun hm => by
    have q : (H b).isSome = true := (List.mem_filter.mp hm).2
    rw [n] at q; simp at q
theorem of_hidT {h : Heap} {H : Hp} {b : Addr} {o : Obj} (e : (hidT h H).get? b = some o) : h.get? b = some o ∧ H b = none := by
  have e' : h.get? b = some o := PySem.W.of_hideAll (trk h H) e
  refine ⟨e', ?_⟩
  cases q : H b with
  | none => rfl
  | some x =>
    have hm : b ∈ trk h H := List.mem_filter.mpr ⟨List.mem_range.mpr (Heap.lt_size e'), by simp [q]⟩
    have z : (hidT h H).get? b = none := PySem.W.hideAll_none (trk h H) hm
    rw [z] at e; cases e
def allNews (g h : Heap) (L : Addr) : List (Addr × Obj) := (List.range h.objs.size).filterMap fun a => if a = L ∨ (g.get? a).isSome = true then none else (h.get? a).map fun o => (a, o)
def rest (g h : Heap) (L d : Addr) : List (Addr × Obj) := (allNews g h L).filter fun p => decide (p.1 ≠ d)
end L2
namespace L2
open PySem PySem.Spec PyProof.Rows
structure Mod (K : PySem.W.Frag) (mg : Str → Option Value) (base : Heap) : Prop where
  kin : K.In base
  glob : base.Ns mainGlobals mg
  blt : ∃ mb, base.Ns builtinsNs mb ∧ ∀ x : Str, x ≠ "__name__" → mb x = bootBuiltins x
  nolimit : base.NoLimit
structure Cx where
  prog : Program
  w : World
  K : PySem.W.Frag
  mg : Str → Option Value
  base : Heap
  A : Around
  N : List Str
  s₀ : Shared
  H₀ : Hp
  env : Env
  outer : List Env
  stack : List Env
  ex : List Addr
  fn : Str → Bool
  calm : Bool
  pn : List (Addr × Obj)
  xe : Value → Shared → Prop
def frs (l : List Env) : List Addr := l.filterMap (·.frame)
abbrev Cx.fs (X : Cx) : List Addr := frs X.outer
def Vis (sc : Scope) (x : Str) : Prop := sc.names.lookup x = some .local ∨ sc.names.lookup x = some .cell ∨ sc.names.lookup x = some .free
def Loc (sc : Scope) (x : Str) : Prop := sc.names.lookup x = some .local ∨ sc.names.lookup x = some .cell
def Look (env : Env) (h : Heap) (m : Str → Option Value) (x : Str) (u : Value) : Prop :=
  (env.kindOf x = some .local ∧ m x = some u) ∨ ((env.kindOf x = some .cell ∨ env.kindOf x = some .free) ∧ ∃ c, env.cells.lookup x = some c ∧ h.IsCell c (some u))
structure Cx.Ok (X : Cx) : Prop where
  mod : Mod X.K X.mg X.base
  kind : X.env.scope.kind = .function
  glob : X.env.globals = mainGlobals
  blt : X.env.builtins = builtinsNs
  above : X.s₀.heap.objs.size ≤ X.env.locals
  inj : ∀ x y c, X.env.cells.lookup x = some c → X.env.cells.lookup y = some c → x = y
  has : ∀ x, (X.env.kindOf x = some .cell ∨ X.env.kindOf x = some .free) → ∃ c, X.env.cells.lookup x = some c
  cab : ∀ x c, X.fn x = true → X.env.cells.lookup x = some c → X.s₀.heap.objs.size ≤ c
  hd : X.calm = true → X.A.handled = none
  frames : X.A.frames = some X.stack
  stk : X.stack = X.outer ∨ (X.stack = X.env :: X.outer ∧ X.env.frame = some X.env.locals)
  exf : ∀ b ∈ X.ex, b ≠ X.env.locals ∧ ∀ x c, X.env.cells.lookup x = some c → c ≠ b
  bs : ∀ b o, X.base.get? b = some o → X.s₀.heap.get? b = some o ∧ X.H₀ b = none
  bsz : X.base.objs.size ≤ X.s₀.heap.objs.size
  noex : ∀ b o, X.base.get? b = some o → b ∉ X.ex
  exfs : ∀ b ∈ X.ex, b ∉ X.fs
  funs : X.s₀.heap.FunFrames X.base X.outer
  frf : ∀ b ∈ X.fs, X.H₀ b = none
structure Inv (X : Cx) (pins : List (Addr × Obj)) (σ : List (Option V)) (H : Hp) (s : Shared) : Prop where
  ok : X.Ok
  os : s.os = X.s₀.os
  bare : AllBare s.gens
  base : Un X.fs X.ex X.H₀ H X.s₀.heap s.heap
  loc : ∃ m, s.heap.Ns X.env.locals m ∧ ∀ (i : Nat) (x : Str) (v : V), X.N[i]? = some x → σ[i]? = some (some v) → Vis X.env.scope x → ∃ u, RelV v u ∧ Look X.env s.heap m x u
  cell : ∀ x c, X.env.cells.lookup x = some c → ∃ v, s.heap.IsCell c v
  free : H X.env.locals = none
  freeC : ∀ x c, X.env.cells.lookup x = some c → H c = none
  pin : ∀ p ∈ X.pn ++ pins, s.heap.get? p.1 = some p.2 ∧ H p.1 = none ∧ p.1 ≠ X.env.locals ∧ p.1 ∉ X.fs ∧ ∀ v, p.2.data ≠ .cell v
  hok : HOk X.prog X.w H s.heap
  len : σ.length = X.N.length
section
variable {X : Cx} {pins : List (Addr × Obj)} {σ : List (Option V)} {H H' : Hp} {s : Shared} {h' : Heap}
theorem Cx.Ok.nofr (ok : X.Ok) {b : Addr} {o : Obj} (e : X.base.get? b = some o) : b ∉ X.fs := fun hb => by
  have := (ok.funs.mem hb).1
  rw [e] at this; cases this
theorem Inv.bs (I : Inv X pins σ H s) : ∀ b o, X.base.get? b = some o → s.heap.get? b = some o ∧ H b = none := fun b o e =>
  ⟨I.base.keep b o (I.ok.bs b o e).1 (I.ok.bs b o e).2 (I.ok.nofr e) (I.ok.noex b o e), I.base.free b o (I.ok.bs b o e).1 (I.ok.bs b o e).2 (I.ok.noex b o e)⟩
theorem Inv.bk (I : Inv X pins σ H s) : ∀ b o, X.base.get? b = some o → s.heap.get? b = some o := fun b o e => (I.bs b o e).1
theorem Inv.mod (I : Inv X pins σ H s) : Mod X.K X.mg X.base := I.ok.mod
theorem Inv.kIn (I : Inv X pins σ H s) : X.K.In s.heap := I.ok.mod.kin.keeps I.bk
theorem Inv.nolimit (I : Inv X pins σ H s) : s.heap.NoLimit := I.ok.mod.nolimit.keeps I.bk
theorem Inv.fr (I : Inv X pins σ H s) : ∃ m, Fr X.base X.env.locals s.heap m :=
  let ⟨m, hn, _⟩ := I.loc
  ⟨m, hn, I.bk, Nat.le_trans I.ok.bsz I.ok.above⟩
theorem Inv.lt (I : Inv X pins σ H s) : X.env.locals < s.heap.objs.size := let ⟨_, hn, _⟩ := I.loc; hn.lt
theorem Inv.sz (I : Inv X pins σ H s) : X.s₀.heap.objs.size ≤ s.heap.objs.size := Nat.le_trans I.ok.above (Nat.le_of_lt I.lt)
theorem Inv.nofs (I : Inv X pins σ H s) {a : Addr} (h : s.heap.objs.size ≤ a) : a ∉ X.fs := fun hb => by
  obtain ⟨_, o, ho, _⟩ := I.ok.funs.mem hb
  exact absurd (Nat.lt_of_lt_of_le (Heap.lt_size ho) (Nat.le_trans I.sz h)) (Nat.lt_irrefl _)
theorem Inv.cne (I : Inv X pins σ H s) : ∀ x c, X.env.cells.lookup x = some c → c ≠ X.env.locals := fun x c e z => by
  obtain ⟨v, o, ho, hd⟩ := I.cell x c e
  obtain ⟨m, ⟨o', es, ep, ho', hd', _⟩, _⟩ := I.loc
  rw [z, ho'] at ho; cases ho; rw [hd'] at hd; cases hd
theorem Inv.funs (I : Inv X pins σ H s) : s.heap.FunFrames X.base X.outer := by
  have all : ∀ (l : List Env), (∀ b ∈ frs l, b ∈ X.fs) → X.s₀.heap.FunFrames X.base l → s.heap.FunFrames X.base l := by
    intro l
    induction l with
    | nil => intro _ _; trivial
    | cons env r ih =>
      intro hs hl
      obtain ⟨hk, ⟨L, o, hf, hn, ho, hd⟩, hr⟩ := hl
      have hL : L ∈ X.fs := hs L (by unfold frs; rw [List.filterMap_cons, hf]; exact List.mem_cons_self)
      obtain ⟨sl, e⟩ := I.base.slot L o ho (I.ok.frf L hL) hL fun z => I.ok.exfs L z hL
      exact ⟨hk, ⟨L, _, hf, hn, e, hd⟩, ih (fun b hb => hs b (by unfold frs; rw [List.filterMap_cons, hf]; exact List.mem_cons_of_mem _ hb)) hr⟩
  exact all X.outer (fun _ hb => hb) I.ok.funs
theorem Inv.stack (I : Inv X pins σ H s) : s.heap.FunFrames X.base X.stack := by
  rcases I.ok.stk with e | ⟨e, hf⟩
  · rw [e]; exact I.funs
  · rw [e]
    obtain ⟨m, hn, _⟩ := I.loc
    refine .cons (by rw [I.ok.kind]; decide) hf hn ?_ I.funs
    exact Heap.get?_none_of_le (Nat.le_trans I.ok.bsz I.ok.above)
theorem Inv.stkSub (I : Inv X pins σ H s) : ∀ b ∈ frs X.stack, b ∈ X.env.locals :: X.fs := fun b hb => by
  rcases I.ok.stk with e | ⟨e, hf⟩
  · rw [e] at hb; exact List.mem_cons_of_mem _ hb
  · rw [e] at hb
    unfold frs at hb
    rw [List.filterMap_cons, hf] at hb
    exact hb
theorem Inv.stkFree (I : Inv X pins σ H s) : ∀ b ∈ frs X.stack, H b = none := fun b hb => by
  rcases List.mem_cons.mp (I.stkSub b hb) with e | hb
  · rw [e]; exact I.free
  · obtain ⟨_, o, ho, _⟩ := I.ok.funs.mem hb
    exact I.base.free b o ho (I.ok.frf b hb) fun z => I.ok.exfs b z hb
theorem Inv.step {g' : Array GenState} {t' : Nat} {d' : Drawn} {ch : List Addr} (I : Inv X pins σ H s)
    (hch : ∀ b ∈ ch, (b ∈ X.ex ∨ X.s₀.heap.objs.size ≤ b) ∧ b ≠ X.env.locals ∧ (∀ x c, X.env.cells.lookup x = some c → c ≠ b) ∧ ∀ p ∈ X.pn ++ pins, p.1 ≠ b)
    (keep : ∀ b o, b ≠ X.env.locals → b ∉ X.fs → b ∉ ch → s.heap.get? b = some o → H b = none → h'.get? b = some o)
    (slot : ∀ b o, b ≠ X.env.locals → b ∈ X.fs → b ∉ ch → s.heap.get? b = some o → H b = none → ∃ sl, h'.get? b = some { o with slots := sl }) (free : ∀ b o, b ∉ ch → s.heap.get? b = some o → H b = none → H' b = none)
    (there : ∀ b o, b ∉ ch → s.heap.get? b = some o → ∃ o', h'.get? b = some o')
    (tups : ∀ b xs, H b = some (.tup xs) → H' b = some (.tup xs)) (frzs : ∀ b o u, H b = some (.frz o u) → H' b = some (.frz o u)) (tbls : ∀ b ps, H b = some (.tbl ps) → ∃ more, H' b = some (.tbl (ps ++ more)))
    (ns : ∀ m, s.heap.Ns X.env.locals m → h'.Ns X.env.locals m) (hok : HOk X.prog X.w H' h') (hg : AllBare g') :
    Inv X pins σ H' { s with heap := h', gens := g', drawn := d', toks := t' } := by
  have neL : ∀ b o, X.s₀.heap.get? b = some o → b ≠ X.env.locals := fun b o e => Nat.ne_of_lt (Nat.lt_of_lt_of_le (Heap.lt_size e) I.ok.above)
  have neC : ∀ b o, X.s₀.heap.get? b = some o → b ∉ X.ex → b ∉ ch := fun b o e hx hb => by
    rcases (hch b hb).1 with z | z
    · exact hx z
    · exact absurd (Nat.lt_of_lt_of_le (Heap.lt_size e) z) (Nat.lt_irrefl _)
  have cellK : ∀ x c, X.env.cells.lookup x = some c → ∀ v, s.heap.IsCell c v → h'.IsCell c v := fun x c e v ⟨o, ho, hd⟩ => by
    have nch : c ∉ ch := fun z => (hch c z).2.2.1 x c e rfl
    by_cases hc : c ∈ X.fs
    · obtain ⟨sl, q⟩ := slot c o (I.cne x c e) hc nch ho (I.freeC x c e)
      exact ⟨_, q, hd⟩
    · exact ⟨o, keep c o (I.cne x c e) hc nch ho (I.freeC x c e), hd⟩
  refine ⟨I.ok, I.os, hg, ⟨fun b o e n hb hx => ?_, fun b o e n hb hx => ?_, fun b o e n hx => ?_, fun b o e hx => ?_, fun b xs e => tups b xs (I.base.tups b xs e), fun b o xs e => frzs b o xs (I.base.frzs b o xs e), fun b ps e => ?_⟩, ?_, fun x c e => ?_, ?_, fun x c e => ?_, fun p hp => ?_, hok, I.len⟩
  · exact keep b o (neL b o e) hb (neC b o e hx) (I.base.keep b o e n hb hx) (I.base.free b o e n hx)
  · obtain ⟨sl, e1⟩ := I.base.slot b o e n hb hx
    obtain ⟨sl', e2⟩ := slot b _ (neL b o e) hb (neC b o e hx) e1 (I.base.free b o e n hx)
    exact ⟨sl', e2⟩
  · obtain ⟨o', e1⟩ := I.base.there b o e hx
    exact free b o' (neC b o e hx) e1 (I.base.free b o e n hx)
  · obtain ⟨o', e1⟩ := I.base.there b o e hx
    exact there b o' (neC b o e hx) e1
  · obtain ⟨m1, e1⟩ := I.base.tbls b ps e
    obtain ⟨m2, e2⟩ := tbls b _ e1
    exact ⟨m1 ++ m2, by rw [e2, Array.append_assoc]⟩
  · obtain ⟨m, hn, hl⟩ := I.loc
    refine ⟨m, ns m hn, fun i x v e1 e2 e3 => ?_⟩
    obtain ⟨u, r, l⟩ := hl i x v e1 e2 e3
    refine ⟨u, r, ?_⟩
    rcases l with l | ⟨k, c, e, z⟩
    · exact .inl l
    · exact .inr ⟨k, c, e, cellK x c e _ z⟩
  · obtain ⟨v, z⟩ := I.cell x c e
    exact ⟨v, cellK x c e v z⟩
  · obtain ⟨m, ⟨o, _, _, ho, _⟩, _⟩ := I.loc
    exact free _ o (fun z => (hch _ z).2.1 rfl) ho I.free
  · obtain ⟨v, o, ho, hd⟩ := I.cell x c e
    exact free c o (fun z => (hch c z).2.2.1 x c e rfl) ho (I.freeC x c e)
  · obtain ⟨e, n, ne, nf, d⟩ := I.pin p hp
    have nch : p.1 ∉ ch := fun z => (hch p.1 z).2.2.2 p hp rfl
    exact ⟨keep p.1 p.2 ne nf nch e n, free p.1 p.2 nch e n, ne, nf, d⟩
theorem Inv.un {t' : Nat} (I : Inv X pins σ H s) (u : Un X.fs [] H H' s.heap h') (hok : HOk X.prog X.w H' h') : Inv X pins σ H' { s with heap := h', toks := t' } := by
  obtain ⟨m, ⟨o, es, ep, ho, r⟩, _⟩ := id I.loc
  obtain ⟨sl, hL⟩ := u.any ho I.free (by simp)
  exact I.step (g' := s.gens) (d' := s.drawn) (ch := []) (fun _ z => nomatch z) (fun b o _ hb _ e n => u.keep b o e n hb (by simp)) (fun b o _ hb _ e n => u.slot b o e n hb (by simp)) (fun b o _ e n => u.free b o e n (by simp)) (fun b o _ e => u.there b o e (by simp)) u.tups u.frzs u.tbls (fun m' hm => by
    obtain ⟨o', es', ep', ho', r'⟩ := hm
    rw [ho] at ho'; cases ho'
    exact ⟨_, es', ep', hL, r'⟩) hok I.bare
theorem Inv.call {g' : Array GenState} {t' : Nat} {d' : Drawn} {ch : List Addr} (I : Inv X pins σ H s) (u : Un (frs X.stack) ch H H' s.heap h') (hok : HOk X.prog X.w H' h') (hg : AllBare g')
    (hch : ∀ b ∈ ch, (b ∈ X.ex ∨ X.s₀.heap.objs.size ≤ b) ∧ b ≠ X.env.locals ∧ (∀ x c, X.env.cells.lookup x = some c → c ≠ b) ∧ ∀ p ∈ X.pn ++ pins, p.1 ≠ b) :
    Inv X pins σ H' { s with heap := h', gens := g', drawn := d', toks := t' } := by
  obtain ⟨m, ⟨o, es, ep, ho, r⟩, _⟩ := id I.loc
  obtain ⟨sl, hL⟩ := u.any ho I.free fun z => (hch _ z).2.1 rfl
  exact I.step (ch := ch) hch (fun b o hL hb hc e n => u.keep b o e n (fun z => (List.mem_cons.mp (I.stkSub b z)).elim hL hb) hc) (fun b o _ _ hc e n => u.any e n hc) (fun b o hc e n => u.free b o e n hc) (fun b o hc e => u.there b o e hc) u.tups u.frzs u.tbls (fun m' hm => by
    obtain ⟨o', es', ep', ho', r'⟩ := hm
    rw [ho] at ho'; cases ho'
    exact ⟨_, es', ep', hL, r'⟩) hok hg
theorem Inv.turned {t' : Nat} {it : Addr} (I : Inv X pins σ H s) (k : ∀ b o, b ≠ it → s.heap.get? b = some o → h'.get? b = some o) (hn : H it = none) (hL : it ≠ X.env.locals)
    (h1 : it ∈ X.ex ∨ X.s₀.heap.objs.size ≤ it) (h2 : ∀ x c, X.env.cells.lookup x = some c → c ≠ it) (h3 : ∀ p ∈ X.pn ++ pins, p.1 ≠ it) : Inv X pins σ H { s with heap := h', toks := t' } := by
  have nit : ∀ b u, H b = some u → b ≠ it := fun b u e z => by rw [z, hn] at e; cases e
  refine I.step (g' := s.gens) (d' := s.drawn) (ch := [it]) (fun b hb => ?_) (fun b o _ _ hc e _ => k b o (fun z => hc (by simp [z])) e) (fun b o _ _ hc e _ => ⟨o.slots, k b o (fun z => hc (by simp [z])) e⟩) (fun _ _ _ _ n => n)
    (fun b o hc e => ⟨o, k b o (fun z => hc (by simp [z])) e⟩) (fun _ _ e => e) (fun _ _ _ e => e) (fun b ps e => ⟨#[], by rw [e]; simp⟩) (fun m hm => ?_) (fun b u e => ?_) I.bare
  · have e : b = it := by simpa using hb
    subst e
    exact ⟨h1, hL, h2, h3⟩
  · obtain ⟨o, es, ep, ho, r⟩ := hm
    exact ⟨o, es, ep, k _ o (Ne.symm hL) ho, r⟩
  · refine (I.hok b u e).stay (fun c v hc q => k c v ?_ q) (fun _ q => q) fun _ _ q => q
    rcases hc with z | z
    · rw [z]; exact nit b u e
    · exact nit c _ z
theorem Inv.tok (I : Inv X pins σ H s) (t : Nat) : Inv X pins σ H { s with toks := t } := I.un (h' := s.heap) (t' := t) Un.refl I.hok
theorem Inv.kept {t' : Nat} (I : Inv X pins σ H s) (k : ∀ b u, s.heap.get? b = some u → h'.get? b = some u) : Inv X pins σ H { s with heap := h', toks := t' } := I.un (Un.kept k) (I.hok.kept k)
theorem Inv.laid {a : Addr} {o : HO} {t' : Nat} (I : Inv X pins σ H s) (k : ∀ b u, s.heap.get? b = some u → h'.get? b = some u) (hp : s.heap.objs.size ≤ a) (new : ObjOk X.prog X.w (upd H a o) h' a o) :
    Inv X pins σ (upd H a o) { s with heap := h', toks := t' } := I.un (Un.laid k hp (I.hok.fresh hp)) (I.hok.laid k hp new)
theorem Inv.write {x e : Addr} {o : HO} {t' : Nat} (I : Inv X pins σ H s) (mu : Mut (H x)) (he : e = x ∨ H e = some (.own x)) (k : ∀ b u, b ≠ e → s.heap.get? b = some u → h'.get? b = some u) (heo : ∃ u, h'.get? e = some u)
    (new : ObjOk X.prog X.w (upd H x o) h' x o) : Inv X pins σ (upd H x o) { s with heap := h', toks := t' } := I.un (Un.write mu he k heo) (I.hok.write mu he k heo new)
theorem Inv.pins_of {pins' : List (Addr × Obj)} (I : Inv X pins σ H s) (h : ∀ p ∈ pins', s.heap.get? p.1 = some p.2 ∧ H p.1 = none ∧ p.1 ≠ X.env.locals ∧ p.1 ∉ X.fs ∧ ∀ v, p.2.data ≠ .cell v) : Inv X pins' σ H s :=
  ⟨I.ok, I.os, I.bare, I.base, I.loc, I.cell, I.free, I.freeC, fun p hp => (List.mem_append.mp hp).elim (fun z => I.pin p (List.mem_append_left _ z)) (h p), I.hok, I.len⟩
theorem nodup_ix {N : List Str} (hN : N.Nodup) {i j : Nat} {x : Str} (a : N[i]? = some x) (b : N[j]? = some x) : i = j := by
  obtain ⟨h1, e1⟩ := List.getElem?_eq_some_iff.mp a
  obtain ⟨h2, e2⟩ := List.getElem?_eq_some_iff.mp b
  exact (List.getElem_inj hN).mp (e1.trans e2.symm)
theorem store_ok2 {M : Model} {A : Around} {E : Value → Shared → Prop} {i : Nat} {x : Str} {v : V} {u : Value} {Q : Unit → Shared → Prop} (I : Inv X pins σ H s) (hN : X.N.Nodup) (hi : X.N[i]? = some x) (hx : Loc X.env.scope x) (r : RelV v u)
    (h : ∀ s', Inv X pins (σ.set i (some v)) H s' → (∃ a, Heap.SameBut a s.heap s'.heap ∧ (a = X.env.locals ∨ X.env.cells.lookup x = some a)) → Q () s') (hf : X.fn x = true ∨ X.env.scope.names.lookup x = some .local := by first | exact .inl rfl | exact .inr rfl | assumption) : wpAny M A (storeName X.env x u) Q E s := by
  obtain ⟨m, hn, hl⟩ := id I.loc
  have hcls : (X.env.scope.kind == .class || (X.env.scope.kind == .module && X.env.locals != X.env.globals)) = false := by rw [I.ok.kind]; rfl
  have hiσ : i < σ.length := by rw [I.len]; exact (List.getElem?_eq_some_iff.mp hi).1
  have cne := I.cne
  have tracked : ∀ {a : Addr} {h' : Heap}, (∃ o, s.heap.get? a = some o ∧ H a = none) → Heap.SameBut a s.heap h' → HOk X.prog X.w H h' := fun {a h'} ha hs b ob e => by
    obtain ⟨_, _, hfree⟩ := ha
    refine (I.hok b ob e).stay (fun c w' hc q => (hs.2 c ?_).trans q) (fun _ q => q) fun _ _ q => q
    rintro rfl
    rcases hc with rfl | hc
    · rw [hfree] at e; cases e
    · rw [hfree] at hc; cases hc
  rcases hx with hk | hk
  · refine wpAny_storeName_local hk hn (fun h' hn' hs => ?_) hcls
    obtain ⟨oL, _, _, hoL, _⟩ := id hn
    refine h _ ⟨I.ok, I.os, I.bare, ⟨fun b o e n hb hx => ?_, fun b o e n hb hx => ?_, I.base.free, fun b o e hx => ?_, I.base.tups, I.base.frzs, I.base.tbls⟩, ⟨_, hn', fun j y v' e1 e2 e3 => ?_⟩, fun y c e => ?_, I.free, I.freeC, fun p hp => ?_, tracked ⟨oL, hoL, I.free⟩ hs, by simpa using I.len⟩ ⟨_, hs, .inl rfl⟩
    · exact (hs.2 b (Nat.ne_of_lt (Nat.lt_of_lt_of_le (Heap.lt_size e) I.ok.above))).trans (I.base.keep b o e n hb hx)
    · obtain ⟨sl, e1⟩ := I.base.slot b o e n hb hx
      exact ⟨sl, (hs.2 b (Nat.ne_of_lt (Nat.lt_of_lt_of_le (Heap.lt_size e) I.ok.above))).trans e1⟩
    · obtain ⟨o', e1⟩ := I.base.there b o e hx
      exact ⟨o', (hs.2 b (Nat.ne_of_lt (Nat.lt_of_lt_of_le (Heap.lt_size e) I.ok.above))).trans e1⟩
    · by_cases hj : j = i
      · subst hj
        rw [hi] at e1; cases e1
        rw [List.getElem?_set_self hiσ] at e2
        cases e2
        exact ⟨u, r, .inl ⟨hk, by simp⟩⟩
      · rw [List.getElem?_set_ne (Ne.symm hj)] at e2
        obtain ⟨u', r', q⟩ := hl j y v' e1 e2 e3
        refine ⟨u', r', ?_⟩
        rcases q with ⟨k, e⟩ | ⟨k, c, e, z⟩
        · refine .inl ⟨k, ?_⟩
          have : y ≠ x := fun e => hj (nodup_ix hN e1 (e ▸ hi))
          simp [this, e]
        · exact .inr ⟨k, c, e, z.sameBut hs (cne y c e)⟩
    · obtain ⟨w', z⟩ := I.cell y c e
      exact ⟨w', z.sameBut hs (cne y c e)⟩
    · obtain ⟨e, n, ne, nf, d⟩ := I.pin p hp
      exact ⟨(hs.2 p.1 ne).trans e, n, ne, nf, d⟩
  · have hfn : X.fn x = true := by
      rcases hf with z | z
      · exact z
      · rw [z] at hk; cases hk
    obtain ⟨c, hc⟩ := I.ok.has x (.inl hk)
    obtain ⟨w', z⟩ := I.cell x c hc
    refine wpAny_storeName_cell I.ok.kind hk hc z (fun h' hc' hs => ?_)
    obtain ⟨oc, hoc, hocd⟩ := id z
    refine h { s with heap := h' } ⟨I.ok, I.os, I.bare, ⟨fun b o e n hb hx => ?_, fun b o e n hb hx => ?_, I.base.free, fun b o e hx => ?_, I.base.tups, I.base.frzs, I.base.tbls⟩, ⟨m, hn.sameBut hs (Ne.symm (cne x c hc)), fun j y v' e1 e2 e3 => ?_⟩, fun y c' e => ?_, I.free, I.freeC, fun p hp => ?_, tracked ⟨oc, hoc, I.freeC x c hc⟩ hs, by simpa using I.len⟩ ⟨c, hs, .inr hc⟩
    · exact (hs.2 b (Nat.ne_of_lt (Nat.lt_of_lt_of_le (Heap.lt_size e) (I.ok.cab x c hfn hc)))).trans (I.base.keep b o e n hb hx)
    · obtain ⟨sl, e1⟩ := I.base.slot b o e n hb hx
      exact ⟨sl, (hs.2 b (Nat.ne_of_lt (Nat.lt_of_lt_of_le (Heap.lt_size e) (I.ok.cab x c hfn hc)))).trans e1⟩
    · obtain ⟨o', e1⟩ := I.base.there b o e hx
      exact ⟨o', (hs.2 b (Nat.ne_of_lt (Nat.lt_of_lt_of_le (Heap.lt_size e) (I.ok.cab x c hfn hc)))).trans e1⟩
    · by_cases hj : j = i
      · subst hj
        rw [hi] at e1; cases e1
        rw [List.getElem?_set_self hiσ] at e2
        cases e2
        exact ⟨u, r, .inr ⟨.inl hk, c, hc, hc'⟩⟩
      · rw [List.getElem?_set_ne (Ne.symm hj)] at e2
        obtain ⟨u', r', q⟩ := hl j y v' e1 e2 e3
        refine ⟨u', r', ?_⟩
        rcases q with q | ⟨k, c', e, z'⟩
        · exact .inl q
        · refine .inr ⟨k, c', e, z'.sameBut hs ?_⟩
          rintro rfl
          exact hj (nodup_ix hN e1 (I.ok.inj _ _ _ e hc ▸ hi))
    · by_cases hcc : c' = c
      · subst hcc; exact ⟨_, hc'⟩
      · obtain ⟨w2, z2⟩ := I.cell y c' e
        exact ⟨w2, z2.sameBut hs hcc⟩
    · obtain ⟨e, n, ne, nf, d⟩ := I.pin p hp
      refine ⟨(hs.2 p.1 ?_).trans e, n, ne, nf, d⟩
      intro q
      rw [q, hoc] at e
      have q' : oc = p.2 := Option.some.inj e
      exact d w' (by rw [← q']; exact hocd)
theorem store_ok {M : Model} {A : Around} {E : Value → Shared → Prop} {i : Nat} {x : Str} {v : V} {u : Value} {Q : Unit → Shared → Prop} (I : Inv X pins σ H s) (hN : X.N.Nodup) (hi : X.N[i]? = some x) (hx : Loc X.env.scope x) (r : RelV v u)
    (h : ∀ s', Inv X pins (σ.set i (some v)) H s' → Q () s') (hf : X.fn x = true ∨ X.env.scope.names.lookup x = some .local := by first | exact .inl rfl | exact .inr rfl | assumption) : wpAny M A (storeName X.env x u) Q E s :=
  store_ok2 I hN hi hx r (fun s' I' _ => h s' I') hf
theorem Inv.call' {s' : Shared} {ch : List Addr} (I : Inv X pins σ H s) (ho : s'.os = s.os) (u : Un (frs X.stack) ch H H' s.heap s'.heap) (hok : HOk X.prog X.w H' s'.heap) (hg : AllBare s'.gens)
    (hch : ∀ b ∈ ch, (b ∈ X.ex ∨ X.s₀.heap.objs.size ≤ b) ∧ b ≠ X.env.locals ∧ (∀ x c, X.env.cells.lookup x = some c → c ≠ b) ∧ ∀ p ∈ X.pn ++ pins, p.1 ≠ b) : Inv X pins σ H' s' := by
  obtain ⟨h', g', d', t', o'⟩ := s'
  have e : o' = s.os := ho
  subst e
  exact I.call (g' := g') (t' := t') (d' := d') u hok hg hch
end
abbrev XK := Value → Option Addr → Hp → Prop
abbrev St := List (Option V)
abbrev VK := V → Hp → Prop
abbrev TE := St → Hp → VK → Prop
abbrev TT := St → Hp → (Bool → Hp → Prop) → Prop
abbrev TA := St → Hp → (List V → Hp → Prop) → Prop
structure Ends where
  nx : St → Hp → Prop
  rt : VK
  bk : St → Hp → Prop := fun _ _ => False
  ct : St → Hp → Prop := fun _ _ => False
abbrev TS := Ends → St → Hp → Prop
def EP (X : Cx) (pins : List (Addr × Obj)) (σ : St) (Q : VK) (u : Value) (s' : Shared) : Prop := ∃ v H', Inv X pins σ H' s' ∧ RelV v u ∧ Q v H'
def TP (X : Cx) (pins : List (Addr × Obj)) (σ : St) (Q : Bool → Hp → Prop) (b : Bool) (s' : Shared) : Prop := ∃ H', Inv X pins σ H' s' ∧ Q b H'
def AP (X : Cx) (pins : List (Addr × Obj)) (σ : St) (Q : List V → Hp → Prop) (us : List Value) (s' : Shared) : Prop := ∃ vs H', Inv X pins σ H' s' ∧ Vals vs us ∧ Q vs H'
def SP (X : Cx) (pins : List (Addr × Obj)) (D : Ends) (f : Flow) (s' : Shared) : Prop :=
  match f with
  | .next => ∃ σ' H', Inv X pins σ' H' s' ∧ D.nx σ' H'
  | .brk => ∃ σ' H', Inv X pins σ' H' s' ∧ D.bk σ' H'
  | .cont => ∃ σ' H', Inv X pins σ' H' s' ∧ D.ct σ' H'
  | .ret u => ∃ v σ' H', Inv X pins σ' H' s' ∧ RelV v u ∧ D.rt v H'
def PE (X : Cx) (e : Expr) (t : TE) : Prop :=
  ∀ (pins : List (Addr × Obj)) (s : Shared) (σ : St) (H : Hp) (Q : VK), Inv X pins σ H s → t σ H Q → wpAny (model X.prog X.w) X.A (eval e X.env) (EP X pins σ Q) X.xe s
def PT (X : Cx) (e : Expr) (t : TT) : Prop :=
  ∀ (pins : List (Addr × Obj)) (s : Shared) (σ : St) (H : Hp) (Q : Bool → Hp → Prop), Inv X pins σ H s → t σ H Q → wpAny (model X.prog X.w) X.A (isTrue e X.env (eval e X.env)) (TP X pins σ Q) X.xe s
def PW (X : Cx) (e : Expr) (t : TT) : Prop :=
  ∀ (whole : Sem Value) (pins : List (Addr × Obj)) (s : Shared) (σ : St) (H : Hp) (Q : Bool → Hp → Prop), Inv X pins σ H s → t σ H Q → wpAny (model X.prog X.w) X.A (isTrue e X.env whole) (TP X pins σ Q) X.xe s
theorem PW.pt {X : Cx} {e : Expr} {t : TT} (h : PW X e t) : PT X e t := h _
def PA (X : Cx) (es : List Expr) (t : TA) : Prop :=
  ∀ (pos : Pos) (pins : List (Addr × Obj)) (s : Shared) (σ : St) (H : Hp) (Q : List V → Hp → Prop), Inv X pins σ H s → t σ H Q → wpAny (model X.prog X.w) X.A (spliced (backTo pos (starEach es X.env))) (AP X pins σ Q) X.xe s
def PS (X : Cx) (st : Stmt) (t : TS) : Prop :=
  ∀ (pins : List (Addr × Obj)) (s : Shared) (σ : St) (H : Hp) (D : Ends), Inv X pins σ H s → t D σ H → wpAny (model X.prog X.w) X.A (exec st X.env) (SP X pins D) X.xe s
def PSs (X : Cx) (st : List Stmt) (t : TS) : Prop :=
  ∀ (pins : List (Addr × Obj)) (s : Shared) (σ : St) (H : Hp) (D : Ends), Inv X pins σ H s → t D σ H → wpAny (model X.prog X.w) X.A (execs st X.env) (SP X pins D) X.xe s
theorem thn {α : Type} {t : Sem α} {Q Q' : α → Shared → Prop} {M : Model} {A : Around} {E : Value → Shared → Prop} {s : Shared} (h : wpAny M A t Q E s) (hQ : ∀ a s, Q a s → Q' a s) : wpAny M A t Q' E s := wpAny_mono h hQ fun _ _ x => x
end L2
namespace L2
open PySem PySem.Spec PyProof.Rows
section
variable {X : Cx}
theorem bin {a b : Expr} {ta tb : TE} (ha : PE X a ta) (hb : PE X b tb) {pins : List (Addr × Obj)} {s : Shared} {σ : St} {H : Hp} {R : V → V → Hp → Prop} (I : Inv X pins σ H s) (h : ta σ H fun x H1 => tb σ H1 fun y H2 => R x y H2)
    {α : Type} {Q : α → Shared → Prop} {f : Value → Value → Sem α}
    (hf : ∀ v u s2 x y H2, Inv X pins σ H2 s2 → RelV x v → RelV y u → R x y H2 → wpAny (model X.prog X.w) X.A (f v u) Q X.xe s2) :
    wpAny (model X.prog X.w) X.A (eval a X.env) (fun v s₁ => wpAny (model X.prog X.w) X.A (eval b X.env) (fun u s₂ => wpAny (model X.prog X.w) X.A (f v u) Q X.xe s₂) X.xe s₁) X.xe s := by
  refine thn (ha pins s σ H _ I h) fun v s1 ⟨x, H1, I1, r1, q1⟩ => ?_
  refine thn (hb pins s1 σ H1 _ I1 q1) fun u s2 ⟨y, H2, I2, r2, q2⟩ => ?_
  exact hf v u s2 x y H2 I2 r1 r2 q2
def tVar (i : Nat) : TE := fun σ H Q => ∃ v, σ[i]? = some (some v) ∧ Q v H
def tC (v : V) : TE := fun _ H Q => Q v H
theorem pe_var {i : Nat} {x : Str} {pos : Pos} (hN : X.N[i]? = some x) (hv : Vis X.env.scope x) (hd : (x == ("__debug__" : Str)) = false := by decide) (hcd : (x == ("__classdict__" : Str)) = false := by decide) : PE X (.Name x pos) (tVar i) := by
  intro pins s σ H Q I h
  obtain ⟨v, e, h⟩ := h
  obtain ⟨m, hn, hl⟩ := I.loc
  obtain ⟨u, r, l⟩ := hl i x v hN e hv
  have fin : EP X pins σ Q u s := ⟨v, H, I, r, h⟩
  rcases l with ⟨hk, hm⟩ | ⟨hk, c, hc, hcell⟩
  · exact wpAny_Name (wpAny_loadName_local I.ok.kind hk hn hm fin) hd
  · rcases hk with hk | hk
    · exact wpAny_Name (wpAny_loadName_cell I.ok.kind hk hc hcell fin) hd
    · exact wpAny_Name (wpAny_loadName_free I.ok.kind hk hc hcell fin hcd) hd
theorem pe_int {i j pos} : PE X (.Constant (.int i) j pos) (tC (.int i)) := fun _ _ _ H _ I h => wpAny_Constant_int ⟨.int i, H, I.tok _, ⟨_, rfl⟩, h⟩
theorem pe_bl {b j pos} : PE X (.Constant (.bool b) j pos) (tC (.bl b)) := fun _ _ _ H _ I h => Constant_bool ⟨.bl b, H, I, rfl, h⟩
theorem pe_non {j pos} : PE X (.Constant .none j pos) (tC .non) := fun _ _ _ H _ I h => Constant_none ⟨.non, H, I, rfl, h⟩
theorem pe_str {x j pos} : PE X (.Constant (.str x) j pos) (tC (.str x)) := fun _ _ _ H _ I h => Calls.Constant_str ⟨.str x, H, I.tok _, ⟨_, rfl⟩, h⟩
def Gl (X : Cx) (x : Str) : Prop := X.env.kindOf x = some .globalImplicit
theorem ld_glob {E : Value → Shared → Prop} {pins : List (Addr × Obj)} {s : Shared} {σ : St} {H : Hp} {x : Str} {u : Value} {pos : Pos} {Q : Value → Shared → Prop} (I : Inv X pins σ H s) (hg : Gl X x) (hm : X.mg x = some u) (h : Q u s)
    (hd : (x == ("__debug__" : Str)) = false := by decide) : wpAny (model X.prog X.w) X.A (eval (.Name x pos) X.env) Q E s :=
  Calls.Name_function_global I.ok.kind hg (Calls.loadGlobal_global (by rw [I.ok.glob]; exact I.mod.glob.keeps I.bk) hm h) hd
theorem ld_blt {E : Value → Shared → Prop} {pins : List (Addr × Obj)} {s : Shared} {σ : St} {H : Hp} {x : Str} {u : Value} {pos : Pos} {Q : Value → Shared → Prop} (I : Inv X pins σ H s) (hg : Gl X x) (hm : X.mg x = none) (hv : bootBuiltins x = some u) (h : Q u s)
    (hn : x ≠ "__name__" := by decide) (hd : (x == ("__debug__" : Str)) = false := by decide) : wpAny (model X.prog X.w) X.A (eval (.Name x pos) X.env) Q E s := by
  obtain ⟨mb, h1, h2⟩ := I.mod.blt
  exact Calls.Name_function_global I.ok.kind hg (Calls.loadGlobal_builtin (by rw [I.ok.glob]; exact I.mod.glob.keeps I.bk) hm (by rw [I.ok.blt]; exact h1.keeps I.bk) ((h2 x hn).trans hv) h) hd
theorem pe_glob {x : Str} {v : V} {u : Value} {pos : Pos} (hg : Gl X x) (hm : X.mg x = some u) (r : RelV v u) (hd : (x == ("__debug__" : Str)) = false := by decide) : PE X (.Name x pos) (tC v) :=
  fun _ _ _ H _ I h => ld_glob I hg hm ⟨v, H, I, r, h⟩ hd
theorem pe_bltn {x : Str} {v : V} {u : Value} {pos : Pos} (hg : Gl X x) (hm : X.mg x = none) (hv : bootBuiltins x = some u) (r : RelV v u) (hn : x ≠ "__name__" := by decide) (hd : (x == ("__debug__" : Str)) = false := by decide) : PE X (.Name x pos) (tC v) :=
  fun _ _ _ H _ I h => ld_blt I hg hm hv ⟨v, H, I, r, h⟩ hn hd
variable {a b : Expr} {ta tb : TE} {pos : Pos}
variable {tA tB' : TT} {rest : List Expr}
def tAnd (t u : TT) : TT := fun σ H Q => t σ H fun c H1 => if c = true then u σ H1 Q else Q false H1
def tOr (t u : TT) : TT := fun σ H Q => t σ H fun c H1 => if c = true then Q true H1 else u σ H1 Q
def tNot (t : TT) : TT := fun σ H Q => t σ H fun c H1 => Q (!c) H1
theorem pw_and1 (ha : PT X a tA) : PW X (.BoolOp .And [a] pos) tA := by
  intro wh pins s σ H Q I h
  refine isTrue_and (thn (ha pins s σ H Q I h) fun c s1 e => ?_)
  cases c with
  | true => exact isTrue_and_nil e
  | false => exact e
theorem pw_or1 (ha : PT X a tA) : PW X (.BoolOp .Or [a] pos) tA := by
  intro wh pins s σ H Q I h
  refine isTrue_or (thn (ha pins s σ H Q I h) fun c s1 e => ?_)
  cases c with
  | false => exact isTrue_or_nil e
  | true => exact e
theorem pw_and (ha : PT X a tA) (hb : PW X (.BoolOp .And (b :: rest) pos) tB') : PW X (.BoolOp .And (a :: b :: rest) pos) (tAnd tA tB') := by
  intro wh pins s σ H Q I h
  refine isTrue_and (thn (ha pins s σ H _ I h) fun c s1 ⟨H1, I1, q1⟩ => ?_)
  cases c with
  | true => exact hb wh pins s1 σ H1 Q I1 q1
  | false => exact ⟨H1, I1, q1⟩
theorem pw_or (ha : PT X a tA) (hb : PW X (.BoolOp .Or (b :: rest) pos) tB') : PW X (.BoolOp .Or (a :: b :: rest) pos) (tOr tA tB') := by
  intro wh pins s σ H Q I h
  refine isTrue_or (thn (ha pins s σ H _ I h) fun c s1 ⟨H1, I1, q1⟩ => ?_)
  cases c with
  | true => exact ⟨H1, I1, q1⟩
  | false => exact hb wh pins s1 σ H1 Q I1 q1
theorem pt_not (ha : PT X a tA) : PT X (.UnaryOp .Not a pos) (tNot tA) := by
  intro pins s σ H Q I h
  exact isTrue_not (ha pins s σ H (fun c H1 => Q (!c) H1) I h)
theorem pe_one {op} {t : TE} (h : PE X a t) : PE X (.BoolOp op [a] pos) t := fun pins s σ H Q I hw => BoolOp_one (h pins s σ H Q I hw)
def tIf (t : TT) (ta tb : TE) : TE := fun σ H Q => t σ H fun c H1 => if c = true then ta σ H1 Q else tb σ H1 Q
theorem pe_ifExp {c : Expr} (hc : PT X c tA) (ha : PE X a ta) (hb : PE X b tb) : PE X (.IfExp c a b pos) (tIf tA ta tb) := by
  intro pins s σ H Q I h
  refine wpAny_IfExp (thn (hc pins s σ H _ I h) fun d s1 ⟨H1, I1, q1⟩ => ?_)
  cases d with
  | true => exact ha pins s1 σ H1 Q I1 q1
  | false => exact hb pins s1 σ H1 Q I1 q1
end
end L2
namespace L2
open PySem PySem.Spec PyProof.Rows
def SqL (K : PySem.W.Frag) (H : Hp) (a : Addr) (xs : List V) : Prop :=
  Rd H a (.lst xs) ∨
    ∃ (o : Obj) (its : Array Value) (n : Nat), K.lookup a = some o ∧ o.cls = .type "list" ∧ o.dict = none ∧ o.data = .seq its n ∧ its.size ≤ sizeLine ∧ Vals xs its.toList
def SqT (K : PySem.W.Frag) (H : Hp) (a : Addr) (xs : List V) : Prop :=
  Rd H a (.tup xs) ∨
    ∃ (o : Obj) (its : Array Value) (n : Nat), K.lookup a = some o ∧ o.cls = .type "tuple" ∧ o.data = .seq its n ∧ its.size ≤ sizeLine ∧ Vals xs its.toList
def absV : Value → Option V
  | .none => some .non
  | .bool b => some (.bl b)
  | .int i _ => some (.int i)
  | .str x _ => some (.str x)
  | .bytes b _ => some (.byt b)
  | .float b _ => some (.flt b)
  | .ref a => some (.ref a)
  | .type n => some (.ty n)
  | _ => none
theorem RelV.abs {x : V} {u : Value} (r : RelV x u) : absV u = some x := by
  cases x with
  | non => cases r; rfl
  | bl _ => cases r; rfl
  | int _ => obtain ⟨t, rfl⟩ := r; rfl
  | str _ => obtain ⟨t, rfl⟩ := r; rfl
  | byt _ => obtain ⟨t, rfl⟩ := r; rfl
  | flt _ => obtain ⟨t, rfl⟩ := r; rfl
  | ref _ => cases r; rfl
  | ty _ => cases r; rfl
theorem RelV.inj {x y : V} {u : Value} (r : RelV x u) (q : RelV y u) : x = y := Option.some.inj (r.abs.symm.trans q.abs)
theorem Vals.inj : ∀ {xs ys : List V} {us : List Value}, Vals xs us → Vals ys us → xs = ys
  | _, _, _, .nil, .nil => rfl
  | _, _, _, .cons r t, .cons r' t' => by rw [r.inj r', Vals.inj t t']
section
variable {X : Cx} {pins : List (Addr × Obj)} {σ : St} {H : Hp} {s : Shared} {a : Addr} {xs ys : List V}
theorem SqL.of {K : PySem.W.Frag} (h : H a = some (.lst xs)) : SqL K H a xs := .inl (.inl h)
theorem SqT.of {K : PySem.W.Frag} (h : H a = some (.tup xs)) : SqT K H a xs := .inl (.inl h)
theorem Inv.list (I : Inv X pins σ H s) (h : SqL X.K H a xs) : ∃ its : List Value, Vals xs its ∧ PlainL s.heap a its.toArray ∧ xs.length ≤ sizeLine := by
  rcases h with h | ⟨o, its, n, hk, hc, hd, hs, hz, r⟩
  · obtain ⟨z, its, n, r, e⟩ := h.ok I.hok
    exact ⟨its, r, ⟨_, n, e, rfl, rfl, rfl⟩, z⟩
  · refine ⟨its.toList, r, ⟨o, n, I.kIn a o hk, hc, hd, by simpa using hs⟩, ?_⟩
    have e := r.length
    simp only [Array.length_toList] at e
    omega
theorem Inv.tuple (I : Inv X pins σ H s) (h : SqT X.K H a xs) : ∃ its : List Value, Vals xs its ∧ IsTup s.heap a its.toArray ∧ xs.length ≤ sizeLine := by
  rcases h with h | ⟨o, its, n, hk, hc, hs, hz, r⟩
  · obtain ⟨z, its, r, p⟩ := h.ok I.hok
    exact ⟨its, r, p, z⟩
  · refine ⟨its.toList, r, ⟨o, I.kIn a o hk, hc, n, by simpa using hs⟩, ?_⟩
    have e := r.length
    simp only [Array.length_toList] at e
    omega
theorem Inv.list_inj (I : Inv X pins σ H s) (h : SqL X.K H a xs) (h' : SqL X.K H a ys) : xs = ys := by
  obtain ⟨its, r, ⟨o, n, e, _, _, d⟩, _⟩ := I.list h
  obtain ⟨its', r', ⟨o', n', e', _, _, d'⟩, _⟩ := I.list h'
  rw [e] at e'; cases e'
  rw [d] at d'
  injection d' with d1 _
  have : its = its' := by simpa using congrArg Array.toList d1
  subst this
  exact r.inj r'
end
abbrev Cx.wish (X : Cx) (E : Value → Shared → Prop) : Cx := { X with xe := E }
abbrev Cx.nox (X : Cx) : Cx := X.wish fun _ _ => False
theorem Cx.Ok.wish {X : Cx} (ok : X.Ok) (E : Value → Shared → Prop) : (X.wish E).Ok :=
  ⟨ok.mod, ok.kind, ok.glob, ok.blt, ok.above, ok.inj, ok.has, ok.cab, ok.hd, ok.frames, ok.stk, ok.exf, ok.bs, ok.bsz, ok.noex, ok.exfs, ok.funs, ok.frf⟩
theorem Cx.Ok.unwish {X : Cx} {E : Value → Shared → Prop} (ok : (X.wish E).Ok) : X.Ok :=
  ⟨ok.mod, ok.kind, ok.glob, ok.blt, ok.above, ok.inj, ok.has, ok.cab, ok.hd, ok.frames, ok.stk, ok.exf, ok.bs, ok.bsz, ok.noex, ok.exfs, ok.funs, ok.frf⟩
section
variable {X : Cx} {pins : List (Addr × Obj)} {σ : St} {H : Hp} {s : Shared} {E : Value → Shared → Prop}
theorem Inv.wish (I : Inv X pins σ H s) (E : Value → Shared → Prop) : Inv (X.wish E) pins σ H s := ⟨I.ok.wish E, I.os, I.bare, I.base, I.loc, I.cell, I.free, I.freeC, I.pin, I.hok, I.len⟩
theorem Inv.unwish (I : Inv (X.wish E) pins σ H s) : Inv X pins σ H s := ⟨I.ok.unwish, I.os, I.bare, I.base, I.loc, I.cell, I.free, I.freeC, I.pin, I.hok, I.len⟩
theorem SP.unwish {D : Ends} {f : Flow} {s' : Shared} (h : SP (X.wish E) pins D f s') : SP X pins D f s' := by
  cases f with
  | next => obtain ⟨σ', H', I, q⟩ := h; exact ⟨σ', H', I.unwish, q⟩
  | brk => obtain ⟨σ', H', I, q⟩ := h; exact ⟨σ', H', I.unwish, q⟩
  | cont => obtain ⟨σ', H', I, q⟩ := h; exact ⟨σ', H', I.unwish, q⟩
  | ret u => obtain ⟨v, σ', H', I, r, q⟩ := h; exact ⟨v, σ', H', I.unwish, r, q⟩
theorem PE.nox {e : Expr} {t : TE} (h : PE X.nox e t) : PE X e t := fun pins s σ H Q I hw =>
  wpAny_mono (h pins s σ H Q (I.wish _) hw) (fun _ _ ⟨v, H', I', r, q⟩ => ⟨v, H', I'.unwish, r, q⟩) fun _ _ z => False.elim z
theorem PT.nox {e : Expr} {t : TT} (h : PT X.nox e t) : PT X e t := fun pins s σ H Q I hw =>
  wpAny_mono (h pins s σ H Q (I.wish _) hw) (fun _ _ ⟨H', I', q⟩ => ⟨H', I'.unwish, q⟩) fun _ _ z => False.elim z
theorem PSs.nox {st : List Stmt} {t : TS} (h : PSs X.nox st t) : PSs X st t := fun pins s σ H D I hw =>
  wpAny_mono (h pins s σ H D (I.wish _) hw) (fun _ _ q => q.unwish) fun _ _ z => False.elim z
end
section
variable {X : Cx} {st : Stmt} {rest : List Stmt} {t u : TS} {e : Expr} {te : TE} {pos : Pos}
def tNext : TS := fun D σ H => D.nx σ H
def tSeq (t u : TS) : TS := fun D σ H => t { D with nx := u D } σ H
theorem pss_nil : PSs X [] tNext := fun _ _ σ H _ I h => wpAny_execs_nil ⟨σ, H, I, h⟩
theorem pss_cons (h1 : PS X st t) (h2 : PSs X rest u) : PSs X (st :: rest) (tSeq t u) := by
  intro pins s σ H D I h
  refine wpAny_execs_cons (thn (h1 pins s σ H { D with nx := u D } I h) fun f s1 q => ?_)
  cases f with
  | next =>
    obtain ⟨σ', H', I', q⟩ := q
    exact h2 pins s1 σ' H' D I' q
  | ret v => exact q
  | brk => exact q
  | cont => exact q
theorem pss_one (h1 : PS X st t) : PSs X [st] t := by
  intro pins s σ H D I h
  refine wpAny_execs_cons (thn (h1 pins s σ H D I h) fun f s1 q => ?_)
  cases f with
  | next => exact wpAny_execs_nil q
  | ret v => exact q
  | brk => exact q
  | cont => exact q
theorem Inv.quiet {pins : List (Addr × Obj)} {σ : St} {H : Hp} {s : Shared} (I : Inv X pins σ H s) : interactive X.env = false := by simp [interactive, I.ok.kind]
def tDrop (te : TE) : TS := fun D σ H => te σ H fun _ H1 => D.nx σ H1
theorem ps_expr (he : PE X e te) (hs : swapsWith e none pos.line X.env = pure false := by rfl) : PS X (.Expr e pos) (tDrop te) := by
  intro pins s σ H D I h
  exact wpAny_Expr_any (thn (he pins s σ H _ I h) fun v s1 ⟨x, H1, I1, r1, q1⟩ => ⟨σ, H1, I1, q1⟩) I.quiet hs
def tRet (te : TE) : TS := fun D σ H => te σ H D.rt
theorem ps_ret (he : PE X e te) : PS X (.Return (some e) pos) (tRet te) := by
  intro pins s σ H D I h
  exact wpAny_Return_some (thn (he pins s σ H _ I h) fun v s1 ⟨x, H1, I1, r1, q1⟩ => ⟨x, σ, H1, I1, r1, q1⟩)
def tIfS (c : TT) (t u : TS) : TS := fun D σ H => c σ H fun b H1 => if b = true then t D σ H1 else u D σ H1
theorem ps_if {c : Expr} {a b : List Stmt} {tc : TT} (hc : PT X c tc) (ha : PSs X a t) (hb : PSs X b u) : PS X (.If c a b pos) (tIfS tc t u) := by
  intro pins s σ H D I h
  refine wpAny_If (thn (hc pins s σ H _ I h) fun d s1 ⟨H1, I1, q1⟩ => ?_)
  cases d with
  | true => exact ha pins s1 σ H1 D I1 q1
  | false => exact hb pins s1 σ H1 D I1 q1
end
abbrev TG := V → St → Hp → (St → Hp → Prop) → Prop
abbrev TGs := List V → St → Hp → (St → Hp → Prop) → Prop
def PG (X : Cx) (target : Expr) (t : TG) : Prop :=
  ∀ (pins : List (Addr × Obj)) (s : Shared) (σ : St) (H : Hp) (v : V) (u : Value) (Q : St → Hp → Prop), Inv X pins σ H s → RelV v u → t v σ H Q →
    wpAny (model X.prog X.w) X.A (assign target X.env u) (fun _ s' => ∃ σ' H', Inv X pins σ' H' s' ∧ Q σ' H') X.xe s
def PGs (X : Cx) (ts : List Expr) (t : TGs) : Prop :=
  ∀ (pins : List (Addr × Obj)) (s : Shared) (σ : St) (H : Hp) (vs : List V) (us : List Value) (Q : St → Hp → Prop), Inv X pins σ H s → Vals vs us → t vs σ H Q →
    wpAny (model X.prog X.w) X.A (assignInOrder ((assignEach ts X.env).map (·.2)) us) (fun _ s' => ∃ σ' H', Inv X pins σ' H' s' ∧ Q σ' H') X.xe s
abbrev TSet := V → V → V → Hp → (Hp → Prop) → Prop
def PSet (X : Cx) (t : TSet) : Prop :=
  ∀ (pins : List (Addr × Obj)) (s : Shared) (σ : St) (H : Hp) (o i v : V) (ov iv u : Value) (Q : Hp → Prop), Inv X pins σ H s → RelV o ov → RelV i iv → RelV v u → t o i v H Q →
    wpAny (model X.prog X.w) X.A (setItem ov iv u) (fun _ s' => ∃ H', Inv X pins σ H' s' ∧ Q H') X.xe s
section
variable {X : Cx} {pos : Pos}
def gName (i : Nat) : TG := fun v σ H Q => Q (σ.set i (some v)) H
theorem pg_name {i : Nat} {x : Str} (hN : X.N.Nodup) (hi : X.N[i]? = some x) (hx : Loc X.env.scope x) (hf : X.fn x = true ∨ X.env.scope.names.lookup x = some .local := by first | exact .inl rfl | exact .inr rfl | assumption) : PG X (.Name x pos) (gName i) := by
  intro pins s σ H v u Q I r h
  exact wpAny_assign_Name (store_ok I hN hi hx r (fun s' I' => ⟨_, H, I', h⟩) hf)
def gNil : TGs := fun vs σ H Q => vs = [] ∧ Q σ H
def gCons (t : TG) (u : TGs) : TGs := fun vs σ H Q => ∃ v r, vs = v :: r ∧ t v σ H fun σ' H' => u r σ' H' Q
theorem pgs_nil : PGs X [] gNil := by
  intro pins s σ H vs us Q I r h
  obtain ⟨e, h⟩ := h
  subst e
  cases r
  exact assignInOrder_nil ⟨σ, H, I, h⟩
theorem pgs_cons {e : Expr} {es : List Expr} {t : TG} {u : TGs} (h1 : PG X e t) (h2 : PGs X es u)
    (hs : (assignEach (e :: es) X.env).map (·.2) = assign e X.env :: (assignEach es X.env).map (·.2) := by rfl) : PGs X (e :: es) (gCons t u) := by
  intro pins s σ H vs us Q I r h
  obtain ⟨v, vr, e1, h⟩ := h
  subst e1
  cases r with
  | cons r rr =>
    rw [hs]
    refine assignInOrder_cons (thn (h1 pins s σ H _ _ _ I r h) fun _ s1 ⟨σ1, H1, I1, q1⟩ => ?_)
    exact h2 pins s1 σ1 H1 _ _ Q I1 rr q1
def gTup (K : PySem.W.Frag) (n : Nat) (t : TGs) : TG := fun v σ H Q => ∃ a xs, v = .ref a ∧ SqT K H a xs ∧ xs.length = n ∧ t xs σ H Q
theorem pg_tup {es : List Expr} {k : Nat} {t : TGs} {n : Nat} (hc : X.calm = true) (h : PGs X es t)
    (hn : (assignEach es X.env).length = n := by rfl) (hst : (assignEach es X.env).findIdx? (·.1) = none := by rfl) : PG X (.Tuple es k pos) (gTup X.K n t) := by
  intro pins s σ H v u Q I r hw
  obtain ⟨a, xs, e1, hq, hl, hw⟩ := hw
  subst e1
  cases r
  obtain ⟨its, rv, ht, hz⟩ := I.tuple hq
  refine assign_Tuple_tuple (I.ok.hd hc) ht (by simp [hn, ← hl, rv.length]) hst fun h' hx => ?_
  have I1 : Inv X pins σ H { s with heap := h' } := I.kept (t' := s.toks) fun b o e => hx b o (Nat.ne_of_lt (Heap.lt_size e)) e
  exact h pins _ σ H xs _ Q I1 (by simpa using rv) hw
def gSub (to ti : TE) (t : TSet) : TG := fun v σ H Q => to σ H fun o H1 => ti σ H1 fun i H2 => t o i v H2 fun H3 => Q σ H3
theorem pg_sub {o i : Expr} {to ti : TE} {t : TSet} (ho : PE X o to) (hi : PE X i ti) (hs : PSet X t)
    (ha : ∀ v, assign (.Subscript o i pos) X.env v = (do
      let ov ← holding [v] (eval o X.env)
      let iv ← holding [v, ov] (eval i X.env)
      standAt pos
      holding [v, ov, iv] (setItem ov iv v)
      release [v, ov, iv] []) := by intro _; rfl) : PG X (.Subscript o i pos) (gSub to ti t) := by
  intro pins s σ H v u Q I r h
  rw [ha]
  refine wpAny_bind (wpAny_holding (thn (ho pins s σ H _ I h) fun ov s1 ⟨x, H1, I1, r1, q1⟩ => ?_))
  refine wpAny_bind (wpAny_holding (thn (hi pins s1 σ H1 _ I1 q1) fun iv s2 ⟨y, H2, I2, r2, q2⟩ => ?_))
  refine wpAny_bind (wpAny_standAt (wpAny_bind (wpAny_holding (thn (hs pins s2 σ H2 x y v ov iv u _ I2 r1 r2 r q2) fun _ s3 ⟨H3, I3, q3⟩ => ?_))))
  exact wpAny_release ⟨σ, H3, I3, q3⟩
def tAsg (te : TE) (g : TG) : TS := fun D σ H => te σ H fun x H1 => g x σ H1 D.nx
theorem ps_asg {tg e : Expr} {te : TE} {g : TG} (he : PE X e te) (hg : PG X tg g) (hs : swapsWithSole [tg] e pos.line X.env = pure false := by rfl) (hw : swappedStores [tg] e X.env = pure none := by rfl)
    (h1 : (assignEach [tg] X.env).map (·.2) = [assign tg X.env] := by rfl) : PS X (.Assign [tg] e pos) (tAsg te g) := by
  intro pins s σ H D I h
  refine wpAny_Assign_stores (thn (he pins s σ H _ I h) fun v s1 ⟨x, H1, I1, r1, q1⟩ => ?_) hs hw
  rw [h1]
  exact thn (hg pins s1 σ H1 x v _ I1 r1 q1) fun _ s2 q => q
theorem ps_set {i : Nat} {x : Str} {e : Expr} {te : TE} {pos' : Pos} (hN : X.N.Nodup) (hi : X.N[i]? = some x) (hx : Loc X.env.scope x) (he : PE X e te) (hs : swapsWith e (some (.Name x pos')) pos.line X.env = pure false := by rfl) (hf : X.fn x = true ∨ X.env.scope.names.lookup x = some .local := by first | exact .inl rfl | exact .inr rfl | assumption) :
    PS X (.Assign [.Name x pos'] e pos) (tAsg te (gName i)) := by
  intro pins s σ H D I h
  refine wpAny_Assign_Name (thn (he pins s σ H _ I h) fun v s1 ⟨y, H1, I1, r1, q1⟩ => ?_) hs
  exact store_ok I1 hN hi hx r1 (fun s2 I2 => ⟨_, H1, I2, q1⟩) hf
end
section
variable {X : Cx} {pos : Pos}
end
structure It where
  go : Nat → Hp → Prop
  yld : Nat → Hp → V → Hp → Prop
  stop : Nat → Hp → Prop
def FpOk (X : Cx) (pins : List (Addr × Obj)) (H : Hp) (b : Addr) : Prop :=
  H b = none ∧ b ≠ X.env.locals ∧ b ∉ X.fs ∧ (b ∈ X.ex ∨ X.s₀.heap.objs.size ≤ b) ∧ (∀ x c, X.env.cells.lookup x = some c → c ≠ b) ∧ ∀ p ∈ X.pn ++ pins, p.1 ≠ b
theorem Inv.fpOk {X : Cx} {pins : List (Addr × Obj)} {σ : St} {H H' : Hp} {s : Shared} {b : Addr} (I : Inv X pins σ H s) (hb : s.heap.objs.size ≤ b) (hn : H' b = none) : FpOk X pins H' b := by
  refine ⟨hn, Nat.ne_of_gt (Nat.lt_of_lt_of_le I.lt hb), I.nofs hb, .inr (Nat.le_trans I.sz hb), fun x c e z => ?_, fun p hp z => ?_⟩
  · obtain ⟨v, q⟩ := I.cell x c e
    exact absurd (Nat.lt_of_lt_of_le q.lt (by rw [z]; exact hb)) (Nat.lt_irrefl _)
  · exact absurd (Nat.lt_of_lt_of_le (Heap.lt_size (I.pin p hp).1) (by rw [z]; exact hb)) (Nat.lt_irrefl _)
structure Turn (P : Program) (w : World) (K : PySem.W.Frag) (tg : Expr) (J : It) (fp : List Addr) (it : Addr) (tn : Nat → Heap → Prop) : Prop where
  mem : it ∈ fp
  obj : ∀ i h, tn i h → ∀ b ∈ fp, ∃ o, h.get? b = some o ∧ ∀ v, o.data ≠ .cell v
  keep : ∀ i h h', tn i h → (∀ b ∈ fp, ∀ o, h.get? b = some o → h'.get? b = some o) → tn i h'
  item : ∀ (X : Cx), X.prog = P → X.w = w → X.K = K → X.calm = true → ∀ (i : Nat) (pins : List (Addr × Obj)) (s : Shared) (σ : St) (H : Hp) (E : Value → Shared → Prop), Inv X pins σ H s → (∀ b ∈ fp, FpOk X pins H b) → tn i s.heap → J.go i H →
    wpAny (model P w) X.A (pyNext (.ref it)) (fun r s1 => ∃ u, r = some u ∧
      wpAny (model P w) X.A (letOwnedTupleGo tg (.ref it) u) (fun _ s2 => ∃ x H', Inv X pins σ H' s2 ∧ RelV x u ∧ J.yld i H x H' ∧ tn (i + 1) s2.heap ∧ ∀ b ∈ fp, H' b = none) E s1) E s
  done : ∀ (X : Cx), X.prog = P → X.w = w → X.K = K → X.calm = true → ∀ (i : Nat) (pins : List (Addr × Obj)) (s : Shared) (σ : St) (H : Hp) (E : Value → Shared → Prop), Inv X pins σ H s → (∀ b ∈ fp, FpOk X pins H b) → tn i s.heap → J.stop i H →
    wpAny (model P w) X.A (pyNext (.ref it)) (fun r s1 => r = none ∧ Inv X pins σ H s1) E s
  self : ∀ (A : Around) (i : Nat) (s : Shared) (Q : Value → Shared → Prop) (E : Value → Shared → Prop), tn i s.heap → Q (.ref it) s → wpAny (model P w) A (pyIter (.ref it)) Q E s
abbrev TI := St → Hp → (It → Hp → Prop) → Prop
def PIE (X : Cx) (pins : List (Addr × Obj)) (σ : St) (tg : Expr) (R : It → Hp → Prop) (itv : Value) (s2 : Shared) : Prop :=
  ∃ (it : Addr) (fp : List Addr) (tn : Nat → Heap → Prop) (J : It) (H' : Hp), itv = .ref it ∧ Inv X pins σ H' s2 ∧ Turn X.prog X.w X.K tg J fp it tn ∧ tn 0 s2.heap ∧ (∀ b ∈ fp, FpOk X pins H' b) ∧ R J H'
def PI (X : Cx) (tg iter : Expr) (wi : TI) : Prop :=
  ∀ (pins : List (Addr × Obj)) (s : Shared) (σ : St) (H : Hp) (R : It → Hp → Prop), Inv X pins σ H s → wi σ H R →
    wpAny (model X.prog X.w) X.A (eval iter X.env) (fun v s1 => wpAny (model X.prog X.w) X.A (pyIter v) (PIE X pins σ tg R) X.xe s1) X.xe s
theorem go_of {M : Model} {A : Around} {E : Value → Shared → Prop} {s : Shared} {tg : Expr} {it : Addr} {u : Value} {o : Obj} {n : String} {vs : Array Value} {Q : Unit → Shared → Prop} (ho : s.heap.get? it = some o) (hc : o.cls = .type n) (hd : o.data = .fields vs)
    (hn : ["enumerate", "zip", "dict_itemiterator", "dict_reverseitemiterator", "odict_iterator", "itertools.zip_longest", "itertools.pairwise"].contains n = false) (hQ : Q () s) : wpAny M A (letOwnedTupleGo tg (.ref it) u) Q E s := by
  unfold letOwnedTupleGo
  cases tg <;> first
    | exact wpAny_pure hQ
    | (cases u <;> first
        | exact wpAny_pure hQ
        | (refine wpAny_bind (wpAny_load ho ?_)
           rw [hc, hd]
           show wpAny M A (if (["enumerate", "zip", "dict_itemiterator", "dict_reverseitemiterator", "odict_iterator", "itertools.zip_longest", "itertools.pairwise"].contains n && vs[0]? == some (rawInt _)) = true then _ else _) Q E s
           rw [if_neg (by intro h; rw [hn, Bool.false_and] at h; cases h)]
           exact wpAny_pure hQ))
def Itl (K : PySem.W.Frag) (a : Addr) : It :=
  ⟨fun i H => ∃ xs x, SqL K H a xs ∧ xs[i]? = some x, fun i H x H' => H' = H ∧ ∀ xs, SqL K H a xs → xs[i]? = some x, fun i H => ∃ xs, SqL K H a xs ∧ xs.length ≤ i⟩
def Itr (lo : Int) (n : Nat) : It := ⟨fun i _ => i < n, fun i H x H' => H' = H ∧ x = .int (lo + i), fun i _ => n ≤ i⟩
theorem turn_list {P : Program} {w : World} {K : PySem.W.Frag} {tg : Expr} (a it : Addr) : Turn P w K tg (Itl K a) [it] it (fun i h => h.IsListIter it a i) where
  mem := by simp
  obj := fun i h st b hb => by
    have e : b = it := by simpa using hb
    subst e
    obtain ⟨o, e, c, d⟩ := st
    exact ⟨o, e, fun v z => by rw [d] at z; cases z⟩
  keep := fun i h h' st k => st.at fun o e => k it (by simp) o e
  item := by
    intro X hP hw hK hc i pins s σ H E I hf st hg
    subst hP hw hK
    obtain ⟨xs, x, hq, hx⟩ := hg
    obtain ⟨its, rv, p, hz⟩ := I.list hq
    obtain ⟨u, hu, ru⟩ := rv.get hx
    obtain ⟨f0, f1, f2, f3, f4, f5⟩ := hf it (by simp)
    refine wpAny_pyNext_list_item st p.isList (x := u) (by simpa using hu) fun h' st' sb => ?_
    have I1 : Inv X pins σ H { s with heap := h' } := I.turned (t' := s.toks) (fun b o hb e => (sb.2 b hb).trans e) f0 f1 f3 f4 f5
    obtain ⟨o, e, c, d⟩ := id st'
    exact ⟨u, rfl, go_of (s := { s with heap := h' }) e c d (by decide) ⟨x, H, I1, ru, ⟨rfl, fun ys hy => by rw [I.list_inj hy hq]; exact hx⟩, st', fun b hb => (hf b hb).1⟩⟩
  done := by
    intro X hP hw hK hc i pins s σ H E I hf st hg
    subst hP hw hK
    obtain ⟨xs, hq, hx⟩ := hg
    obtain ⟨its, rv, p, hz⟩ := I.list hq
    obtain ⟨f0, f1, f2, f3, f4, f5⟩ := hf it (by simp)
    have hl := rv.length
    exact wpAny_pyNext_list_end (I.ok.hd hc) st p.isList (by simp; omega) fun h' eb => ⟨rfl, I.turned (t' := s.toks) (fun b o hb e => eb b o hb e) f0 f1 f3 f4 f5⟩
  self := fun _ _ _ _ _ st h => wpAny_pyIter_listiter st h
theorem turn_range {P : Program} {w : World} {K : PySem.W.Frag} {tg : Expr} (it : Addr) (lo : Int) (n : Nat) : Turn P w K tg (Itr lo n) [it] it (fun i h => IsRangeIter h it (lo + (i : Nat) * 1) ((n : Int) - (i : Nat)) 1) where
  mem := by simp
  obj := fun i h st b hb => by
    have e : b = it := by simpa using hb
    subst e
    exact ⟨_, st, fun v z => by
      have z' : Data.fields _ = Data.cell v := z
      cases z'⟩
  keep := fun i h h' st k => k it (by simp) _ st
  item := by
    intro X hP hw hK hc i pins s σ H E I hf st hg
    subst hP hw hK
    obtain ⟨f0, f1, f2, f3, f4, f5⟩ := hf it (by simp)
    have W := Walks.range (prog := X.prog) (w := X.w) (I.ok.hd hc) it lo 1 n
    refine W.item i s _ _ hg st fun v h' tk hv st' kk => ?_
    obtain ⟨t, rfl⟩ := hv
    have I1 : Inv X pins σ H { s with heap := h', toks := tk } := I.turned (fun b o hb e => kk b o (by simpa using hb) e) f0 f1 f3 f4 f5
    refine ⟨_, rfl, go_of (s := { s with heap := h', toks := tk }) (n := "range_iterator") st' rfl rfl (by decide) ⟨.int (lo + i), H, I1, ⟨t, ?_⟩, ⟨rfl, rfl⟩, st', fun b hb => (hf b hb).1⟩⟩
    rw [Int.mul_one]
  done := by
    intro X hP hw hK hc i pins s σ H E I hf st hg
    subst hP hw hK
    obtain ⟨f0, f1, f2, f3, f4, f5⟩ := hf it (by simp)
    exact wpAny_pyNext_range_end (I.ok.hd hc) st (by have : n ≤ i := hg; omega) fun h' eb => ⟨rfl, I.turned (t' := s.toks) (fun b o hb e => eb b o hb e) f0 f1 f3 f4 f5⟩
  self := fun _ _ _ _ _ st h => wpAny_pyIter_rangeiter st h
end L2
namespace L2
open PySem PySem.Spec PyProof.Rows
section
variable {X : Cx} {tg : Expr}
def iList (K : PySem.W.Frag) (tl : TE) : TI := fun σ H R => tl σ H fun x H1 => ∃ a, x = .ref a ∧ (∃ xs, SqL K H1 a xs) ∧ R (Itl K a) H1
theorem pi_list {l : Expr} {tl : TE} (hl : PE X l tl) : PI X tg l (iList X.K tl) := by
  intro pins s σ H R I h
  refine thn (hl pins s σ H _ I h) fun v s1 ⟨x, H1, I1, r1, q1⟩ => ?_
  obtain ⟨a, e, ⟨xs, hq⟩, q⟩ := q1
  subst e
  cases r1
  obtain ⟨its, rv, p, hz⟩ := I1.list hq
  refine wpAny_pyIter_list p.isList ?_
  refine ⟨s1.heap.objs.size, [s1.heap.objs.size], _, _, H1, rfl, I1.kept (t' := s1.toks) fun b o e => Heap.get?_push_of_some _ e, turn_list a _, ⟨_, Heap.get?_push_size _ rfl, rfl, rfl⟩, fun b hb => ?_, q⟩
  have e : b = s1.heap.objs.size := by simpa using hb
  subst e
  exact I1.fpOk (Nat.le_refl _) (I1.hok.fresh (Nat.le_refl _))
theorem range_it {pins : List (Addr × Obj)} {σ : St} {H : Hp} {s : Shared} {R : It → Hp → Prop} {E : Value → Shared → Prop} {lo hi : Int} {t u v : Tok} {tk : Nat} (I : Inv X pins σ H s) (h1 : -(2 ^ 62) ≤ lo) (h2 : lo < 2 ^ 62) (h3 : -(2 ^ 62) ≤ hi) (h4 : hi < 2 ^ 62)
    (q : R (Itr lo (hi - lo).toNat) H) : wpAny (model X.prog X.w) X.A (pyIter (.ref s.heap.objs.size)) (PIE X pins σ tg R) E { s with heap := s.heap.push { cls := .type "range", data := .fields #[.int lo t, .int hi u, .int 1 v] }, toks := tk } := by
  refine wpAny_pyIter_range (IsRange.new ..) (small_one h1 h2 h3 h4) ?_
  have I1 : Inv X pins σ H { s with heap := s.heap.push { cls := .type "range", data := .fields #[.int lo t, .int hi u, .int 1 v] }, toks := tk } := I.kept fun b o e => Heap.get?_push_of_some _ e
  refine ⟨(s.heap.push { cls := .type "range", data := .fields #[.int lo t, .int hi u, .int 1 v] }).objs.size, [(s.heap.push { cls := .type "range", data := .fields #[.int lo t, .int hi u, .int 1 v] }).objs.size], _, _, H, rfl,
    I1.kept (t' := tk) fun b o e => Heap.get?_push_of_some _ e, turn_range _ lo (hi - lo).toNat, ?_, fun b hb => ?_, q⟩
  · have e1 : lo + ((0 : Nat) : Int) * 1 = lo := by simp
    have e2 : (((hi - lo).toNat : Nat) : Int) - ((0 : Nat) : Int) = Builtin.Range.rangeSize lo hi 1 := by rw [rangeSize_one]; split <;> omega
    show IsRangeIter _ _ (lo + ((0 : Nat) : Int) * 1) ((((hi - lo).toNat : Nat) : Int) - ((0 : Nat) : Int)) 1
    rw [e1, e2]
    exact Heap.get?_push_size _ rfl
  · have e : b = (s.heap.push { cls := .type "range", data := .fields #[.int lo t, .int hi u, .int 1 v] }).objs.size := by simpa using hb
    subst e
    exact I1.fpOk (Nat.le_refl _) (I1.hok.fresh (Nat.le_refl _))
def iRng1 (ta : TA) : TI := fun σ H R => ta σ H fun vs H1 => ∃ j : Int, vs = [.int j] ∧ -(2 ^ 62) ≤ j ∧ j < 2 ^ 62 ∧ R (Itr 0 j.toNat) H1
theorem pi_range1 {a : Expr} {ta : TA} {p pos : Pos} (hg : Gl X "range") (hm : X.mg "range" = none) (ha : PA X [a] ta) (hs : starEach [a] X.env = [(false, eval a X.env)] := by rfl) : PI X tg (.Call (.Name "range" p) [a] [] pos) (iRng1 ta) := by
  intro pins s σ H R I h
  refine Call_ (ld_blt I hg hm boot_range (PyProof.Rows.callWith_type1 (thn (ha pos pins s σ H _ I h) fun us s1 ⟨vs, H1, I1, r1, q1⟩ => ?_) hs rfl))
  obtain ⟨j, e, q1, q2, q⟩ := q1
  subst e
  cases r1 with
  | cons r rr =>
    cases rr
    obtain ⟨t, rfl⟩ := r
    exact call_range_1 (range_it I1 (by omega) (by omega) q1 q2 (by simpa using q))
def tFor (wi : TI) (g : TG) (tb : TS) : TS := fun D σ H => wi σ H fun J H1 => ∃ W : Nat → Nat → St → Hp → Prop, (∃ m, W 0 m σ H1) ∧ ∀ i m σ H, W i m σ H →
  (J.stop i H ∧ D.nx σ H) ∨ (J.go i H ∧ ∃ N : St → Hp → Prop, (∀ σ' H', N σ' H' → ∃ m', m' < m ∧ W (i + 1) m' σ' H') ∧ ∀ x H', J.yld i H x H' → g x σ H' fun σ2 H2 => tb { D with nx := N, ct := N, bk := D.nx } σ2 H2)
def pinsAt (fp : List Addr) (h : Heap) : List (Addr × Obj) := fp.filterMap fun b => (h.get? b).map fun o => (b, o)
theorem mem_pinsAt {fp : List Addr} {h : Heap} {b : Addr} {o : Obj} (hb : b ∈ fp) (e : h.get? b = some o) : (b, o) ∈ pinsAt fp h := List.mem_filterMap.mpr ⟨b, hb, by rw [e]; rfl⟩
theorem of_pinsAt {fp : List Addr} {h : Heap} {p : Addr × Obj} (hp : p ∈ pinsAt fp h) : p.1 ∈ fp ∧ h.get? p.1 = some p.2 := by
  obtain ⟨b, hb, e⟩ := List.mem_filterMap.mp hp
  cases q : h.get? b with
  | none => rw [q] at e; cases e
  | some o =>
    rw [q] at e
    have e' : (b, o) = p := Option.some.inj e
    subst e'
    exact ⟨hb, q⟩
theorem Inv.pinned {pins : List (Addr × Obj)} {σ : St} {H : Hp} {s : Shared} {fp : List Addr} (I : Inv X pins σ H s) (hf : ∀ b ∈ fp, FpOk X pins H b) (ho : ∀ b ∈ fp, ∃ o, s.heap.get? b = some o ∧ ∀ v, o.data ≠ .cell v) : Inv X (pins ++ pinsAt fp s.heap) σ H s :=
  I.pins_of fun p hp => (List.mem_append.mp hp).elim (fun z => I.pin p (List.mem_append_right _ z)) fun z => by
    obtain ⟨hb, e⟩ := of_pinsAt z
    obtain ⟨f0, f1, f2, _⟩ := hf p.1 hb
    obtain ⟨o, e', d⟩ := ho p.1 hb
    rw [e] at e'; cases e'
    exact ⟨e, f0, f1, f2, d⟩
theorem Inv.unpinned {pins pl : List (Addr × Obj)} {σ : St} {H : Hp} {s : Shared} (I : Inv X (pins ++ pl) σ H s) : Inv X pins σ H s := I.pins_of fun p hp => I.pin p (List.mem_append_right _ (List.mem_append_left _ hp))
theorem ps_for {iter : Expr} {body : List Stmt} {wi : TI} {g : TG} {tb : TS} {pos : Pos} (hp : PassesOwn (model X.prog X.w) X.A X.env X.xe) (hc : X.calm = true) (hi : PI X tg iter wi) (hg : PG X tg g) (hb : PSs X body tb)
    (hs : ∀ x, foldedSetIterable iter X.env x = pure x := by intro _; rfl) : PS X (.For tg iter body [] pos) (tFor wi g tb) := by
  intro pins s σ H D I h
  refine wpAny_For (thn (hi pins s σ H _ I h) fun v s1 h1 => thn h1 fun itv s2 h2 => ?_) hs
  obtain ⟨it, fp, tn, J, H2, e, I2, T, st2, f2, W, ⟨m0, w0⟩, turn⟩ := h2
  subst e
  have stat : ∀ {H' : Hp}, (∀ b ∈ fp, H' b = none) → ∀ b ∈ fp, FpOk X pins H' b := fun hn b hb => ⟨hn b hb, (f2 b hb).2⟩
  refine codeAny_forLoop_any (fun n s' => ∃ i σ' H', Inv X pins σ' H' s' ∧ tn i s'.heap ∧ (∀ b ∈ fp, H' b = none) ∧ W i n σ' H') ?_ m0 ⟨0, σ, H2, I2, st2, fun b hb => (f2 b hb).1, w0⟩
  rintro n s3 ⟨i, σ3, H3, I3, st3, fr3, w3⟩
  rcases turn i n σ3 H3 w3 with ⟨stop, qn⟩ | ⟨go, N, hN, step⟩
  · refine wpAny_passesOwn hp (thn (T.done X rfl rfl rfl hc i pins s3 σ3 H3 X.xe I3 (stat fr3) st3 stop) fun r s4 ⟨hr, I4⟩ => ?_)
    subst hr
    exact wpAny_execs_nil ⟨σ3, H3, I4, qn⟩
  · refine wpAny_passesOwn hp (thn (T.item X rfl rfl rfl hc i pins s3 σ3 H3 X.xe I3 (stat fr3) st3 go) fun r s4 ⟨u, hr, h4⟩ => ?_)
    subst hr
    refine wpAny_passesOwn hp (thn h4 fun _ s5 ⟨x, H5, I5, r5, y5, st5, fr5⟩ => ?_)
    have I5' := I5.pinned (stat fr5) (T.obj _ _ st5)
    refine wpAny_passesOwn hp (thn (hg _ s5 σ3 H5 x u _ I5' r5 (step x H5 y5)) fun _ s6 ⟨σ6, H6, I6, q6⟩ => ?_)
    refine wpAny_passesOwn hp (thn (hb _ s6 σ6 H6 _ I6 q6) fun f s7 q7 => ?_)
    have again : ∀ {σ7 : St} {H7 : Hp}, Inv X (pins ++ pinsAt fp s5.heap) σ7 H7 s7 → N σ7 H7 → ∃ m, m < n ∧ ∃ i σ' H', Inv X pins σ' H' s7 ∧ tn i s7.heap ∧ (∀ b ∈ fp, H' b = none) ∧ W i m σ' H' := fun {σ7 H7} I7 n7 => by
      obtain ⟨m', hm, w7⟩ := hN σ7 H7 n7
      refine ⟨m', hm, i + 1, σ7, H7, I7.unpinned, T.keep _ _ _ st5 fun b hb o e => (I7.pin (b, o) (List.mem_append_right _ (List.mem_append_right _ (mem_pinsAt hb e)))).1, fun b hb => ?_, w7⟩
      obtain ⟨o, e, d⟩ := T.obj _ _ st5 b hb
      exact (I7.pin (b, o) (List.mem_append_right _ (List.mem_append_right _ (mem_pinsAt hb e)))).2.1
    cases f with
    | next => obtain ⟨σ7, H7, I7, n7⟩ := q7; exact again I7 n7
    | cont => obtain ⟨σ7, H7, I7, n7⟩ := q7; exact again I7 n7
    | brk => obtain ⟨σ7, H7, I7, q7⟩ := q7; exact ⟨σ7, H7, I7.unpinned, q7⟩
    | ret v => obtain ⟨x7, σ7, H7, I7, r7, q7⟩ := q7; exact ⟨x7, σ7, H7, I7.unpinned, r7, q7⟩
end
theorem for_range {lo : Int} {n : Nat} {g : TG} {tb : TS} {D : Ends} {σ : St} {H : Hp} (Pv : Nat → St → Hp → Prop) (h0 : Pv 0 σ H)
    (hs : ∀ i σ H, i < n → Pv i σ H → g (.int (lo + i)) σ H fun σ2 H2 => tb { D with nx := Pv (i + 1), ct := Pv (i + 1), bk := D.nx } σ2 H2) (hd : ∀ σ H, Pv n σ H → D.nx σ H) :
    ∃ W : Nat → Nat → St → Hp → Prop, (∃ m, W 0 m σ H) ∧ ∀ i m σ H, W i m σ H →
      ((Itr lo n).stop i H ∧ D.nx σ H) ∨ ((Itr lo n).go i H ∧ ∃ N : St → Hp → Prop, (∀ σ' H', N σ' H' → ∃ m', m' < m ∧ W (i + 1) m' σ' H') ∧ ∀ x H', (Itr lo n).yld i H x H' → g x σ H' fun σ2 H2 => tb { D with nx := N, ct := N, bk := D.nx } σ2 H2) := by
  refine ⟨fun i m σ H => m = n - i ∧ i ≤ n ∧ Pv i σ H, ⟨n, by simp, Nat.zero_le _, h0⟩, ?_⟩
  rintro i m σ H ⟨rfl, hi, p⟩
  by_cases hlt : i < n
  · refine .inr ⟨hlt, Pv (i + 1), fun σ' H' p' => ⟨n - (i + 1), by omega, rfl, hlt, p'⟩, fun x H' y => ?_⟩
    obtain ⟨e, y⟩ := y
    subst e y
    exact hs i σ _ hlt p
  · have e : i = n := by omega
    subst e
    exact .inl ⟨Nat.le_refl _, hd σ H p⟩
end L2
namespace L2
open PySem PySem.Spec PyProof.Rows
abbrev R2 := V → V → Hp → VK → Prop
def OpR (X : Cx) (f : Value → Value → Sem Value) (r : R2) : Prop :=
  ∀ (pins : List (Addr × Obj)) (s : Shared) (σ : St) (H : Hp) (x y : V) (v u : Value) (Q : VK), Inv X pins σ H s → RelV x v → RelV y u → r x y H Q →
    wpAny (model X.prog X.w) X.A (f v u) (EP X pins σ Q) X.xe s
def UnR (X : Cx) (f : Value → Sem Value) (r : V → Hp → VK → Prop) : Prop :=
  ∀ (pins : List (Addr × Obj)) (s : Shared) (σ : St) (H : Hp) (x : V) (v : Value) (Q : VK), Inv X pins σ H s → RelV x v → r x H Q →
    wpAny (model X.prog X.w) X.A (f v) (EP X pins σ Q) X.xe s
def CallR (X : Cx) (f : Value) (r : List V → Hp → VK → Prop) : Prop :=
  ∀ (pins : List (Addr × Obj)) (s : Shared) (σ : St) (H : Hp) (xs : List V) (us : List Value) (Q : VK), Inv X pins σ H s → Vals xs us → r xs H Q →
    wpAny (model X.prog X.w) X.A (call f us) (EP X pins σ Q) X.xe s
def TruR (X : Cx) (r : V → Hp → (Bool → Hp → Prop) → Prop) : Prop :=
  ∀ (pins : List (Addr × Obj)) (s : Shared) (σ : St) (H : Hp) (x : V) (v : Value) (Q : Bool → Hp → Prop), Inv X pins σ H s → RelV x v → r x H Q →
    wpAny (model X.prog X.w) X.A (truthy v) (TP X pins σ Q) X.xe s
def tOp (r : R2) (ta tb : TE) : TE := fun σ H Q => ta σ H fun x H1 => tb σ H1 fun y H2 => r x y H2 Q
def tUn (r : V → Hp → VK → Prop) (ta : TE) : TE := fun σ H Q => ta σ H fun x H1 => r x H1 Q
def rI (C : Int → Int → Prop) (g : Int → Int → V) : R2 := fun x y H Q => ∃ i j, x = .int i ∧ y = .int j ∧ C i j ∧ Q (g i j) H
def rI0 (g : Int → Int → V) : R2 := fun x y H Q => ∃ i j, x = .int i ∧ y = .int j ∧ Q (g i j) H
def rU (g : Int → V) : V → Hp → VK → Prop := fun x H Q => ∃ i, x = .int i ∧ Q (g i) H
section
variable {X : Cx} {a b c : Expr} {ta tb tc : TE} {pos : Pos}
theorem binT (ha : PE X a ta) (hb : PE X b tb) {pins : List (Addr × Obj)} {s : Shared} {σ : St} {H : Hp} {R : V → V → Hp → Prop} (I : Inv X pins σ H s)
    (h : ta σ H fun x H1 => tb σ H1 fun y H2 => R x y H2) {Q : Value → Shared → Prop} {f : Value → Value → Sem Value}
    (hf : ∀ v u s2 x y H2, Inv X pins σ H2 s2 → RelV x v → RelV y u → R x y H2 → wpAny (model X.prog X.w) X.A (f v u) Q X.xe s2) :
    wpAny (model X.prog X.w) X.A (eval a X.env) (fun v s₁ => wpAny (model X.prog X.w) X.A (eval b X.env) (fun u s₂ => wpAny (model X.prog X.w) X.A (f v u) Q X.xe s₂) X.xe s₁) X.xe s := by
  refine thn (ha pins s σ H _ I h) fun v s1 ⟨x, H1, I1, r1, q1⟩ => ?_
  refine thn (hb pins s1 σ H1 _ I1 q1) fun u s2 ⟨y, H2, I2, r2, q2⟩ => ?_
  exact hf v u s2 x y H2 I2 r1 r2 q2
theorem pe_op {op : Operator} {r : R2} (ho : OpR X (binaryOp op) r) (ha : PE X a ta) (hb : PE X b tb) : PE X (.BinOp a op b pos) (tOp r ta tb) := by
  intro pins s σ H Q I h
  exact wpAny_BinOp (binT ha hb I h fun v u s2 x y H2 I2 rx ry q => ho pins s2 σ H2 x y v u Q I2 rx ry q)
theorem pe_un {op : UnaryOp} {r : V → Hp → VK → Prop} (ho : UnR X (unaryOp op) r) (ha : PE X a ta) : PE X (.UnaryOp op a pos) (tUn r ta) := by
  intro pins s σ H Q I h
  exact UnaryOp_ (thn (ha pins s σ H _ I h) fun v s1 ⟨x, H1, I1, r1, q1⟩ => ho pins s1 σ H1 x v Q I1 r1 q1)
theorem opI {f : Value → Value → Sem Value} {C : Int → Int → Prop} {g : Int → Int → Int}
    (rule : ∀ (i j : Int) (t u : Tok) (s : Shared) (Q : Value → Shared → Prop) (E : Value → Shared → Prop), C i j → Q (.int (g i j) s.toks) { s with toks := s.toks + 1 } → wpAny (model X.prog X.w) X.A (f (.int i t) (.int j u)) Q E s) :
    OpR X f (rI C fun i j => .int (g i j)) := by
  intro pins s σ H x y v u Q I rx ry h
  obtain ⟨i, j, rfl, rfl, hc, q⟩ := h
  obtain ⟨t, rfl⟩ := rx
  obtain ⟨t', rfl⟩ := ry
  exact rule i j t t' s _ _ hc ⟨.int (g i j), H, I.tok _, ⟨_, rfl⟩, q⟩
theorem opI0 {f : Value → Value → Sem Value} {g : Int → Int → Int}
    (rule : ∀ (i j : Int) (t u : Tok) (s : Shared) (Q : Value → Shared → Prop) (E : Value → Shared → Prop), Q (.int (g i j) s.toks) { s with toks := s.toks + 1 } → wpAny (model X.prog X.w) X.A (f (.int i t) (.int j u)) Q E s) :
    OpR X f (rI0 fun i j => .int (g i j)) := by
  intro pins s σ H x y v u Q I rx ry h
  obtain ⟨i, j, rfl, rfl, q⟩ := h
  obtain ⟨t, rfl⟩ := rx
  obtain ⟨t', rfl⟩ := ry
  exact rule i j t t' s _ _ ⟨.int (g i j), H, I.tok _, ⟨_, rfl⟩, q⟩
theorem opB0 {f : Value → Value → Sem Value} {g : Int → Int → Bool}
    (rule : ∀ (i j : Int) (t u : Tok) (s : Shared) (Q : Value → Shared → Prop) (E : Value → Shared → Prop), Q (.bool (g i j)) s → wpAny (model X.prog X.w) X.A (f (.int i t) (.int j u)) Q E s) :
    OpR X f (rI0 fun i j => .bl (g i j)) := by
  intro pins s σ H x y v u Q I rx ry h
  obtain ⟨i, j, rfl, rfl, q⟩ := h
  obtain ⟨t, rfl⟩ := rx
  obtain ⟨t', rfl⟩ := ry
  exact rule i j t t' s _ _ ⟨.bl (g i j), H, I, rfl, q⟩
def CDiv (i j : Int) : Prop := 0 < j ∧ j < 1073741824
def CPow (i j : Int) : Prop := 0 ≤ j ∧ j ≤ 1000000 ∧ i.natAbs < 2 ^ 64
def CMul (i j : Int) : Prop := (-(2 ^ 64) < i ∧ i < 2 ^ 64) ∨ (-(2 ^ 64) < j ∧ j < 2 ^ 64)
theorem CMul.ok {i j : Int} (h : CMul i j) : IntMulOk i j := by
  rcases h with ⟨h1, h2⟩ | ⟨h1, h2⟩
  · exact .of_left (intBits_le_64 h1 h2)
  · exact .of_right (intBits_le_64 h1 h2)
theorem op_add : OpR X (binaryOp .Add) (rI0 fun i j => .int (i + j)) := opI0 fun _ _ _ _ _ _ _ q => add_int q
theorem op_sub : OpR X (binaryOp .Sub) (rI0 fun i j => .int (i - j)) := opI0 fun _ _ _ _ _ _ _ q => sub_int q
theorem op_mul : OpR X (binaryOp .Mult) (rI CMul fun i j => .int (i * j)) := opI fun _ _ _ _ _ _ _ hc q => mul_int q hc.ok
theorem op_fdiv : OpR X (binaryOp .FloorDiv) (rI CDiv fun i j => .int (i / j)) := opI fun i j _ _ _ _ _ hc q => by
  have h1 : (0 : Int) < j := hc.1
  have h2 : j < 1073741824 := hc.2
  exact floordiv_int (by omega) (by rw [Int.fdiv_eq_ediv_of_nonneg i (by omega)]; exact q) (.inl (PyProof.noPylong_small (by omega)))
theorem op_mod : OpR X (binaryOp .Mod) (rI (fun _ j => 0 < j) fun i j => .int (i % j)) := opI fun i j _ _ _ _ _ hc q => by
  have h1 : (0 : Int) < j := hc
  exact mod_int' (by omega) (by rw [Int.fmod_eq_emod_of_nonneg i (by omega)]; exact q)
theorem op_pow : OpR X (binaryOp .Pow) (rI CPow fun i j => .int (i ^ j.toNat)) := opI fun _ _ _ _ _ _ _ hc q => pow_int_small hc.1 hc.2.1 hc.2.2 q
theorem unI {f : Value → Sem Value} {g : Int → Int}
    (rule : ∀ (i : Int) (t : Tok) (s : Shared) (Q : Value → Shared → Prop) (E : Value → Shared → Prop), Q (.int (g i) s.toks) { s with toks := s.toks + 1 } → wpAny (model X.prog X.w) X.A (f (.int i t)) Q E s) :
    UnR X f (rU fun i => .int (g i)) := by
  intro pins s σ H x v Q I rx h
  obtain ⟨i, rfl, q⟩ := h
  obtain ⟨t, rfl⟩ := rx
  exact rule i t s _ _ ⟨.int (g i), H, I.tok _, ⟨_, rfl⟩, q⟩
theorem un_neg : UnR X (unaryOp .USub) (rU fun i => .int (-i)) := unI fun _ _ _ _ _ q => neg_int q
end
def scal : V → V → Bool
  | .non, .non => true | .non, .int _ => true | .int _, .non => true | .non, .bl _ => true | .bl _, .non => true | .non, .str _ => true | .str _, .non => true
  | .int _, .int _ => true | .bl _, .bl _ => true | .str _, .str _ => true | .byt _, .byt _ => true
  | .int _, .str _ => true | .str _, .int _ => true | .bl _, .str _ => true | .str _, .bl _ => true
  | _, _ => false
def rEq : R2 := fun x y H Q => scal x y = true ∧ Q (.bl (decide (x = y))) H
def rNe : R2 := fun x y H Q => scal x y = true ∧ Q (.bl (!decide (x = y))) H
theorem dec_int {i j : Int} : decide (V.int i = V.int j) = (i == j) := by
  rw [Bool.eq_iff_iff]
  simp
theorem dec_bl {i j : Bool} : decide (V.bl i = V.bl j) = (i == j) := by
  rw [Bool.eq_iff_iff]
  simp
theorem dec_str {i j : Str} : decide (V.str i = V.str j) = (i == j) := by
  rw [Bool.eq_iff_iff]
  simp
theorem dec_byt {i j : Array UInt8} : decide (V.byt i = V.byt j) = (i.toList == j.toList) := by
  rw [Bool.eq_iff_iff]
  cases i
  cases j
  simp
section
variable {X : Cx} {a b c : Expr} {ta tb tc : TE} {pos : Pos}
theorem fin_bl {pins : List (Addr × Obj)} {σ : St} {H : Hp} {s : Shared} {Q : VK} {k k' : Bool} (I : Inv X pins σ H s) (q : Q (.bl k) H) (e : k = k') : EP X pins σ Q (.bool k') s := by
  subst e
  exact ⟨.bl k, H, I, rfl, q⟩
theorem op_eq : OpR X (compareOp .Eq) rEq := by
  intro pins s σ H x y v u Q I rx ry h
  obtain ⟨hs, q⟩ := h
  cases x with
  | non =>
    cases rx
    cases y with
    | non => cases ry; exact PySem.EqNone.eq_none_none (fin_bl I q (by simp))
    | bl j => cases ry; exact PySem.EqNone.eq_none_bool (fin_bl I q (by simp))
    | int j => obtain ⟨t', rfl⟩ := ry; exact PySem.EqNone.eq_none_int (fin_bl I q (by simp))
    | str j => obtain ⟨t', rfl⟩ := ry; exact PySem.EqNone.eq_none_str (fin_bl I q (by simp))
    | _ => exact absurd (show false = true from hs) Bool.false_ne_true
  | bl i =>
    cases rx
    cases y with
    | non => cases ry; exact PySem.EqNone.eq_bool_none (fin_bl I q (by simp))
    | bl j => cases ry; exact eq_bool (fin_bl I q dec_bl)
    | str j => obtain ⟨t', rfl⟩ := ry; exact PySem.EqMixed.eq_bool_str (fin_bl I q (by simp))
    | _ => exact absurd (show false = true from hs) Bool.false_ne_true
  | int i =>
    obtain ⟨t, rfl⟩ := rx
    cases y with
    | non => cases ry; exact PySem.EqNone.eq_int_none (fin_bl I q (by simp))
    | int j => obtain ⟨t', rfl⟩ := ry; exact eq_int (fin_bl I q dec_int)
    | str j => obtain ⟨t', rfl⟩ := ry; exact PySem.EqMixed.eq_int_str (fin_bl I q (by simp))
    | _ => exact absurd (show false = true from hs) Bool.false_ne_true
  | str i =>
    obtain ⟨t, rfl⟩ := rx
    cases y with
    | non => cases ry; exact PySem.EqNone.eq_str_none (fin_bl I q (by simp))
    | bl j => cases ry; exact PySem.EqMixed.eq_str_bool (fin_bl I q (by simp))
    | int j => obtain ⟨t', rfl⟩ := ry; exact PySem.EqMixed.eq_str_int (fin_bl I q (by simp))
    | str j => obtain ⟨t', rfl⟩ := ry; exact eq_str (fin_bl I q dec_str)
    | _ => exact absurd (show false = true from hs) Bool.false_ne_true
  | byt i =>
    obtain ⟨t, rfl⟩ := rx
    cases y with
    | byt j => obtain ⟨t', rfl⟩ := ry; exact PySem.W.eq_bytes (fin_bl I q dec_byt)
    | _ => exact absurd (show false = true from hs) Bool.false_ne_true
  | _ => cases y <;> exact absurd (show false = true from hs) Bool.false_ne_true
theorem op_ne : OpR X (compareOp .NotEq) rNe := by
  intro pins s σ H x y v u Q I rx ry h
  obtain ⟨hs, q⟩ := h
  cases x with
  | non =>
    cases rx
    cases y with
    | non => cases ry; exact PySem.EqNone.ne_none_none (fin_bl I q (by simp))
    | bl j => cases ry; exact PySem.EqNone.ne_none_bool (fin_bl I q (by simp))
    | int j => obtain ⟨t', rfl⟩ := ry; exact PySem.EqNone.ne_none_int (fin_bl I q (by simp))
    | str j => obtain ⟨t', rfl⟩ := ry; exact PySem.EqNone.ne_none_str (fin_bl I q (by simp))
    | _ => exact absurd (show false = true from hs) Bool.false_ne_true
  | bl i =>
    cases rx
    cases y with
    | non => cases ry; exact PySem.EqNone.ne_bool_none (fin_bl I q (by simp))
    | bl j => cases ry; exact ne_bool (fin_bl I q (congrArg not dec_bl))
    | str j => obtain ⟨t', rfl⟩ := ry; exact PySem.EqMixed.ne_bool_str (fin_bl I q (by simp))
    | _ => exact absurd (show false = true from hs) Bool.false_ne_true
  | int i =>
    obtain ⟨t, rfl⟩ := rx
    cases y with
    | non => cases ry; exact PySem.EqNone.ne_int_none (fin_bl I q (by simp))
    | int j => obtain ⟨t', rfl⟩ := ry; exact ne_int (fin_bl I q (congrArg not dec_int))
    | str j => obtain ⟨t', rfl⟩ := ry; exact PySem.EqMixed.ne_int_str (fin_bl I q (by simp))
    | _ => exact absurd (show false = true from hs) Bool.false_ne_true
  | str i =>
    obtain ⟨t, rfl⟩ := rx
    cases y with
    | non => cases ry; exact PySem.EqNone.ne_str_none (fin_bl I q (by simp))
    | bl j => cases ry; exact PySem.EqMixed.ne_str_bool (fin_bl I q (by simp))
    | int j => obtain ⟨t', rfl⟩ := ry; exact PySem.EqMixed.ne_str_int (fin_bl I q (by simp))
    | str j => obtain ⟨t', rfl⟩ := ry; exact ne_str (fin_bl I q (congrArg not dec_str))
    | _ => exact absurd (show false = true from hs) Bool.false_ne_true
  | byt i =>
    obtain ⟨t, rfl⟩ := rx
    cases y with
    | byt j => obtain ⟨t', rfl⟩ := ry; exact PySem.W.ne_bytes (fin_bl I q (congrArg not dec_byt))
    | _ => exact absurd (show false = true from hs) Bool.false_ne_true
  | _ => cases y <;> exact absurd (show false = true from hs) Bool.false_ne_true
theorem op_lt : OpR X (compareOp .Lt) (rI0 fun i j => .bl (decide (i < j))) := opB0 fun _ _ _ _ _ _ _ q => lt_int q
theorem op_le : OpR X (compareOp .LtE) (rI0 fun i j => .bl (decide (i ≤ j))) := opB0 fun _ _ _ _ _ _ _ q => le_int q
theorem op_gt : OpR X (compareOp .Gt) (rI0 fun i j => .bl (decide (j < i))) := opB0 fun _ _ _ _ _ _ _ q => gt_int q
theorem op_lt_str : OpR X (compareOp .Lt) (fun x y H Q => ∃ i j, x = .str i ∧ y = .str j ∧ Q (.bl (decide (i.cps.toList < j.cps.toList))) H) := by
  intro pins s σ H x y v u Q I rx ry h
  obtain ⟨i, j, rfl, rfl, q⟩ := h
  obtain ⟨t, rfl⟩ := rx
  obtain ⟨t', rfl⟩ := ry
  exact lt_str (fin_bl I q rfl)
theorem OpR.or {f : Value → Value → Sem Value} {r r' : R2} (h : OpR X f r) (h' : OpR X f r') : OpR X f (fun x y H Q => r x y H Q ∨ r' x y H Q) := by
  intro pins s σ H x y v u Q I rx ry q
  rcases q with q | q
  · exact h pins s σ H x y v u Q I rx ry q
  · exact h' pins s σ H x y v u Q I rx ry q
theorem nomark (b : Expr) {op : CmpOp} (h : op ≠ .In := by decide) (h2 : op ≠ .NotIn := by decide) : behindInMarks op b = false := by
  have e1 : (op == CmpOp.In) = false := by cases op <;> first | rfl | exact absurd rfl h
  have e2 : (op == CmpOp.NotIn) = false := by cases op <;> first | rfl | exact absurd rfl h2
  cases b <;> simp [behindInMarks, e1, e2]
theorem pe_cmpR {op : CmpOp} {r : R2} (ho : OpR X (compareOp op) r) (ha : PE X a ta) (hb : PE X b tb) (hm : behindInMarks op b = false) : PE X (.Compare a [op] [b] pos) (tOp r ta tb) := by
  intro pins s σ H Q I h
  exact wpAny_Compare1 (binT ha hb I h fun v u s2 x y H2 I2 rx ry q => ho pins s2 σ H2 x y v u Q I2 rx ry q) hm
def TruV (K : PySem.W.Frag) (x : V) (H : Hp) (k : Bool) : Prop :=
  match x with
  | .non => k = false
  | .bl b => k = b
  | .int i => k = (i != 0)
  | .str y => y.length ≤ sizeLine ∧ k = ((y.length : Int) != 0)
  | .byt y => y.size ≤ sizeLine ∧ k = ((y.size : Int) != 0)
  | .ref p => (∃ xs, SqL K H p xs ∧ k = !xs.isEmpty) ∨ (∃ xs, SqT K H p xs ∧ k = !xs.isEmpty) ∨ ∃ kvs, H p = some (.dK kvs) ∧ k = !kvs.isEmpty
  | _ => False
theorem isEmpty_kv {κ : Type} {kvs : List (κ × V)} {vs : List (κ × Value)} (r : KV kvs vs) : (!vs.isEmpty) = !kvs.isEmpty := by
  cases r <;> rfl
theorem isEmpty_of {xs : List V} {its : List Value} (r : Vals xs its) : (!its.toArray.isEmpty) = !xs.isEmpty := by
  cases r <;> simp
theorem line63 : (sizeLine : Nat) < 2 ^ 63 := by rw [sizeLine_eq]; decide
theorem tru_ok : TruR X (fun x H Q => ∃ k, TruV X.K x H k ∧ Q k H) := by
  intro pins s σ H x v Q I rx h
  obtain ⟨k, e, q⟩ := h
  have hl := line63
  have hs : sizeLine = 16777216 := sizeLine_eq
  cases x with
  | non =>
    cases rx
    have e' : k = false := e
    subst e'
    exact truthy_none ⟨H, I, q⟩
  | bl b =>
    cases rx
    have e' : k = b := e
    subst e'
    exact wpAny_truthy_bool ⟨H, I, q⟩
  | int i =>
    obtain ⟨t, rfl⟩ := rx
    have e' : k = (i != 0) := e
    subst e'
    exact PySem.P.truthy_int ⟨H, I, q⟩
  | str y =>
    obtain ⟨t, rfl⟩ := rx
    obtain ⟨hy, e'⟩ : y.length ≤ sizeLine ∧ k = ((y.length : Int) != 0) := e
    subst e'
    exact PySem.P.truthy_str (by omega) ⟨H, I.tok _, q⟩
  | byt y =>
    obtain ⟨t, rfl⟩ := rx
    obtain ⟨hy, e'⟩ : y.size ≤ sizeLine ∧ k = ((y.size : Int) != 0) := e
    subst e'
    exact PySem.W.truthy_bytes (by omega) ⟨H, I.tok _, q⟩
  | ref p =>
    cases rx
    have e' : (∃ xs, SqL X.K H p xs ∧ k = !xs.isEmpty) ∨ (∃ xs, SqT X.K H p xs ∧ k = !xs.isEmpty) ∨ ∃ kvs, H p = some (.dK kvs) ∧ k = !kvs.isEmpty := e
    rcases e' with ⟨xs, hx, e'⟩ | ⟨xs, hx, e'⟩ | ⟨kvs, hx, e'⟩
    · subst e'
      obtain ⟨its, r, pl, hz⟩ := I.list hx
      have hlen := r.length
      exact wpAny_truthy_list pl.isList (by simp only [List.size_toArray]; omega) ⟨H, I.tok _, by rw [isEmpty_of r]; exact q⟩
    · subst e'
      obtain ⟨its, r, pl, hz⟩ := I.tuple hx
      have hlen := r.length
      exact truthy_tuple pl (by simp only [List.size_toArray]; omega) ⟨H, I.tok _, by rw [isEmpty_of r]; exact q⟩
    · subst e'
      obtain ⟨hz, hS, vs, r, m⟩ : kvs.length ≤ sizeLine ∧ (p == sysModules) = false ∧ ∃ vs, KV kvs vs ∧ s.heap.DictOf (mixKind X.prog X.w) p vs := I.hok p _ hx
      have hlen : kvs.length = vs.length := Paired.length r
      exact wpAny_truthy_dict hS m (by omega) ⟨H, I.tok _, by rw [isEmpty_kv r]; exact q⟩
  | _ => exact (show False from e).elim
theorem op_add_str : OpR X (binaryOp .Add) (fun x y H Q => ∃ i j, x = .str i ∧ y = .str j ∧ i.length + j.length ≤ sizeLine ∧ Q (.str (i ++ j)) H) := by
  intro pins s σ H x y v u Q I rx ry h
  obtain ⟨i, j, rfl, rfl, hz, q⟩ := h
  obtain ⟨t, rfl⟩ := rx
  obtain ⟨t', rfl⟩ := ry
  exact add_str (fun t' tk => ⟨.str (i ++ j), H, I.tok _, ⟨_, rfl⟩, q⟩) hz
theorem vals1 {x : V} {us : List Value} (r : Vals [x] us) : ∃ u, us = [u] ∧ RelV x u := by
  cases r with
  | cons r1 r2 => cases r2; exact ⟨_, rfl, r1⟩
theorem vals2 {x y : V} {us : List Value} (r : Vals [x, y] us) : ∃ u w', us = [u, w'] ∧ RelV x u ∧ RelV y w' := by
  cases r with
  | cons r1 r2 =>
    cases r2 with
    | cons r3 r4 => cases r4; exact ⟨_, _, rfl, r1, r3⟩
theorem call_abs : CallR X (.builtin "abs") (fun xs H Q => ∃ i, xs = [.int i] ∧ Q (.int (if i < 0 then -i else i)) H) := by
  intro pins s σ H xs us Q I r h
  obtain ⟨i, rfl, q⟩ := h
  obtain ⟨u, rfl, t, rfl⟩ := vals1 r
  exact call_abs_int fun u tk => ⟨.int (if i < 0 then -i else i), H, I.tok _, ⟨_, rfl⟩, q⟩
def LenV (K : PySem.W.Frag) (x : V) (H : Hp) (n : Nat) : Prop :=
  match x with
  | .str y => y.length ≤ sizeLine ∧ n = y.length
  | .byt y => y.size ≤ sizeLine ∧ n = y.size
  | .ref p => (∃ xs, SqL K H p xs ∧ n = xs.length) ∨ ∃ xs, SqT K H p xs ∧ n = xs.length
  | _ => False
theorem call_len : CallR X (.builtin "len") (fun xs H Q => ∃ x n, xs = [x] ∧ LenV X.K x H n ∧ Q (.int n) H) := by
  intro pins s σ H xs us Q I r h
  obtain ⟨x, n, rfl, e, q⟩ := h
  obtain ⟨u, rfl, rx⟩ := vals1 r
  have hl := line63
  have hs : sizeLine = 16777216 := sizeLine_eq
  cases x with
  | str y =>
    obtain ⟨t, rfl⟩ := rx
    obtain ⟨hy, e'⟩ : y.length ≤ sizeLine ∧ n = y.length := e
    subst e'
    exact len_str (by omega) ⟨.int _, H, I.tok _, ⟨_, rfl⟩, q⟩
  | byt y =>
    obtain ⟨t, rfl⟩ := rx
    obtain ⟨hy, e'⟩ : y.size ≤ sizeLine ∧ n = y.size := e
    subst e'
    exact PySem.W.len_bytes (by omega) ⟨.int _, H, I.tok _, ⟨_, rfl⟩, q⟩
  | ref p =>
    cases rx
    have e' : (∃ xs, SqL X.K H p xs ∧ n = xs.length) ∨ ∃ xs, SqT X.K H p xs ∧ n = xs.length := e
    rcases e' with ⟨xs, hx, e'⟩ | ⟨xs, hx, e'⟩
    · subst e'
      obtain ⟨its, r', pl, hz⟩ := I.list hx
      have hlen := r'.length
      exact Calls.call_len_list pl.isList (by simp only [List.size_toArray]; omega) ⟨.int xs.length, H, I.tok _, ⟨_, by simp only [List.size_toArray]; rw [hlen]⟩, q⟩
    · subst e'
      obtain ⟨its, r', pl, hz⟩ := I.tuple hx
      have hlen := r'.length
      exact len_tuple pl (by simp only [List.size_toArray]; omega) ⟨.int xs.length, H, I.tok _, ⟨_, by simp only [List.size_toArray]; rw [hlen]⟩, q⟩
  | _ => exact (show False from e).elim
end
end L2
namespace L2
open PySem PySem.Spec PyProof.Rows
structure ObjM (h : Heap) (x dx C : Addr) (mA : Str → Option Value) : Prop where
  obj : h.get? x = some (PySem.W.instObj C dx)
  ns : h.Ns1 dx mA
  ne : dx ≠ x
theorem lookIn_ns {h : Heap} {dx : Addr} {mA : Str → Option Value} (n : h.Ns1 dx mA) : ∃ od, h.get? dx = some od ∧ ∀ name, PySem.W.lookIn name od = some (mA name) := by
  obtain ⟨o, es, ep, ho, hd, hk, _, hm⟩ := n
  refine ⟨o, ho, fun name => ?_⟩
  have e := hm name
  unfold nsFind findBy at e
  rw [← Array.find?_toList] at e
  unfold PySem.W.lookIn
  rw [hd]
  dsimp only
  split
  · rename_i y q
    rw [q] at e
    exact congrArg some e
  · rename_i q
    rw [q] at e
    have a : es.toList.any (·.refKey) = false := by
      rw [List.any_eq_false]
      intro y hy
      obtain ⟨z, t, hkey⟩ := hk y (Array.mem_toList_iff.mp hy)
      simp [DictEntry.refKey, hkey]
    have a' : ¬ es.toList.any (·.refKey) = true := by rw [a]; exact Bool.false_ne_true
    rw [if_neg a']
    exact congrArg some e
theorem ObjM.look {h : Heap} {x dx C : Addr} {mA : Str → Option Value} (I : ObjM h x dx C mA) : ∃ od, PySem.W.InstAt h x (PySem.W.instObj C dx) C (some od) ∧ ∀ name, PySem.W.lookIn name od = some (mA name) :=
  let ⟨od, ho, hl⟩ := lookIn_ns I.ns
  ⟨od, ⟨I.obj, rfl, rfl, ho⟩, hl⟩
section
variable {prog : Program} {w : World} {A : Around} {E : Value → Shared → Prop} {s : Shared} {K : PySem.W.Frag} {x dx C f : Addr} {mA : Str → Option Value} {name : Str} {v : Value}
end
theorem RelO.none_of {o : Option Value} (r : RelO none o) : o = none := by
  cases o with
  | none => rfl
  | some u => exact (show False from r).elim
section
variable {P : Program} {w : World} {H H' : Hp} {h h' : Heap} {a C dx : Addr} {fs fs' : List (Str × V)}
theorem ins_get (hok : HOk P w H h) (e : H a = some (.ins C dx fs)) : ∃ mA, ObjM h a dx C mA ∧ (∀ f, RelO (fs.lookup f) (mA f)) ∧ PySem.Within mA (fs.map (·.1)) ∧ fs.length ≤ 1000 ∧ H dx = some (.own a) := by
  obtain ⟨d, z, ne, ob, mA, n, r, q⟩ := (show ObjOk P w H h a (.ins C dx fs) from hok a _ e)
  exact ⟨mA, ⟨ob, n, ne⟩, r, q, z, d⟩
end
structure Cls (K : PySem.W.Frag) (C : Addr) : Prop where
  pg : PySem.W.plainGet K C Str.empty = true
  hd : PySem.W.hasDictIn K C = true
  po : PySem.W.plainOver K C = true
  sa : PySem.W.findIn K (.ref C) "__setattr__" = some (some (.builtin "object.__setattr__"))
theorem Cls.get {K : PySem.W.Frag} {C : Addr} (c : Cls K C) (f : Str) : PySem.W.plainGet K C f = true := c.pg
section
variable {X : Cx} {pins : List (Addr × Obj)} {σ : St} {H : Hp} {s : Shared} {a C dx : Addr} {fs : List (Str × V)} {f : Str} {v : V} {A : Around} {E : Value → Shared → Prop}
end
section
variable {X : Cx} {o e value : Expr} {f : Str} {pos pos' tpos : Pos} {ta tv : TE}
end
section
variable {X : Cx} {pins : List (Addr × Obj)} {σ : St} {H : Hp} {s : Shared} {A : Around} {E : Value → Shared → Prop} {Q : Value → Shared → Prop} {c : Value} {b : Bool}
inductive TyOf (K : PySem.W.Frag) (H : Hp) : V → Value → Prop where
  | non : TyOf K H .non (.type "NoneType")
  | bl (x : Bool) : TyOf K H (.bl x) (.type "bool")
  | int (i : Int) : TyOf K H (.int i) (.type "int")
  | str (x : Str) : TyOf K H (.str x) (.type "str")
  | flt (x : UInt64) : TyOf K H (.flt x) (.type "float")
  | lst {a : Addr} {xs : List V} (e : H a = some (.lst xs)) : TyOf K H (.ref a) (.type "list")
  | frz {a : Addr} {o : Obj} {xs : List V} (e : H a = some (.frz o (.lst xs))) : TyOf K H (.ref a) (.type "list")
  | tup {a : Addr} {xs : List V} (e : H a = some (.tup xs)) : TyOf K H (.ref a) (.type "tuple")
  | dK {a : Addr} {kvs : List (Key × V)} (e : H a = some (.dK kvs)) : TyOf K H (.ref a) (.type "dict")
  | dT {a : Addr} {kvs : List (List Key × V)} (e : H a = some (.dT kvs)) : TyOf K H (.ref a) (.type "dict")
  | ins {a C dx : Addr} {fs : List (Str × V)} (e : H a = some (.ins C dx fs)) (cl : Cls K C) (ha : PySem.W.findIn K (.ref C) "__class__" = some (some (.builtin "object.__class__")))
      (hn : PySem.W.specialIn K (.builtin "object.__class__") "__get__" = some (some (.builtin "getset_descriptor.__get__"))) (htk : PySem.W.takesIn K (.builtin "object.__class__") = some true)
      (hm : PySem.W.mroIn K C (.type "object") = some true) : TyOf K H (.ref a) (.ref C)
theorem isinst_ok {x : V} {u t : Value} (I : Inv X pins σ H s) (rx : RelV x u) (ty : TyOf X.K H x t) (e : PySem.W.kitOne X.K t c = some b) (h : ∀ tk, Q (.bool b) { s with toks := tk }) :
    wpAny (model X.prog X.w) A (call (.builtin "isinstance") [u, c]) Q E s := by
  cases ty with
  | non => cases (show u = Value.none from rx); exact PySem.W.kia_one PySem.W.kitx_none I.kIn True.intro e (fun z => nomatch z) h
  | bl y => cases (show u = Value.bool y from rx); exact PySem.W.kia_one PySem.W.kitx_bool I.kIn True.intro e (fun z => nomatch z) h
  | int i => obtain ⟨t, q⟩ := (show ∃ t, u = Value.int i t from rx); cases q; exact PySem.W.kia_one PySem.W.kitx_int I.kIn True.intro e (fun z => nomatch z) h
  | str y => obtain ⟨t, q⟩ := (show ∃ t, u = Value.str y t from rx); cases q; exact PySem.W.kia_one PySem.W.kitx_str I.kIn True.intro e (fun z => nomatch z) h
  | flt y => obtain ⟨t, q⟩ := (show ∃ t, u = Value.float y t from rx); cases q; exact PySem.W.kia_one PySem.W.kitx_float I.kIn True.intro e (fun z => nomatch z) h
  | @lst a xs ea =>
    cases (show u = Value.ref a from rx)
    obtain ⟨_, _, n, _, h1⟩ := (show ObjOk X.prog X.w H s.heap a (.lst xs) from I.hok a _ ea)
    exact PySem.W.kia_one PySem.W.kitx_list I.kIn ⟨_, h1, rfl⟩ e (fun z => nomatch z) h
  | @frz a ob xs ea =>
    cases (show u = Value.ref a from rx)
    obtain ⟨_, _, _, n, _, h1⟩ := (show ObjOk X.prog X.w H s.heap a (.frz ob (.lst xs)) from I.hok a _ ea)
    exact PySem.W.kia_one PySem.W.kitx_list I.kIn ⟨_, h1, rfl⟩ e (fun z => nomatch z) h
  | @tup a xs ea =>
    cases (show u = Value.ref a from rx)
    obtain ⟨_, _, _, p⟩ := (show ObjOk X.prog X.w H s.heap a (.tup xs) from I.hok a _ ea)
    obtain ⟨o, h1, h2, _⟩ := p
    exact PySem.W.kia_one PySem.W.kitx_tuple I.kIn ⟨o, h1, h2⟩ e (fun z => nomatch z) h
  | @dK a kvs ea =>
    cases (show u = Value.ref a from rx)
    obtain ⟨_, _, vs, _, p⟩ := (show ObjOk X.prog X.w H s.heap a (.dK kvs) from I.hok a _ ea)
    obtain ⟨o, es, ep, h1, h2, _⟩ := p
    exact PySem.W.kia_one PySem.W.kitx_dict I.kIn ⟨o, h1, h2.1⟩ e (fun z => nomatch z) h
  | @dT a kvs ea =>
    cases (show u = Value.ref a from rx)
    obtain ⟨_, _, xs, _, o, es, ep, h1, h2, _⟩ := (show ObjOk X.prog X.w H s.heap a (.dT kvs) from I.hok a _ ea)
    exact PySem.W.kia_one PySem.W.kitx_dict I.kIn ⟨o, h1, h2.1⟩ e (fun z => nomatch z) h
  | @ins a C dx fs ea cl ha hn htk hm =>
    cases (show u = Value.ref a from rx)
    obtain ⟨mA, O, _⟩ := ins_get I.hok ea
    obtain ⟨od, J, _⟩ := O.look
    exact PySem.W.kia_one (PySem.W.kitx_own (cl.get _) cl.hd ha hn htk hm) I.kIn J e (fun z => nomatch z) h
end
end L2
namespace L2
open PySem PySem.Spec PyProof.Rows
structure Room (k : Nat) (A : Around) : Prop where
  hd : A.handled = none
  dp : A.depth + 3 * k + 5 < recursionLimit
  un : A.units + 16 * k + 200 < cLine
theorem Room.mono {j k : Nat} {A : Around} (r : Room k A) (h : j ≤ k) : Room j A := ⟨r.hd, by have := r.dp; omega, by have := r.un; omega⟩
theorem Room.deeper {k : Nat} {A : Around} (r : Room (k + 1) A) (env : Env) : Room k (A.deeper env) :=
  ⟨r.hd, by have := r.dp; show A.depth + 1 + 3 * k + 5 < _; omega, by have := r.un; show A.units + 3 + 16 * k + 200 < _; omega⟩
theorem Room.in1 {k : Nat} {A : Around} (r : Room (k + 1) A) : Room k A.in1 :=
  ⟨r.hd, by have := r.dp; show A.depth + 3 * k + 5 < _; omega, by have := r.un; show A.units + 1 + 16 * k + 200 < _; omega⟩
theorem Room.depth {k : Nat} {A : Around} (r : Room k A) : A.depth < recursionLimit := by have := r.dp; omega
theorem Room.units {k : Nat} {A : Around} (r : Room k A) : A.units + 64 < cLine := by have := r.un; omega
def tNil : TA := fun _ H Q => Q [] H
def tCons (ta : TE) (tr : TA) : TA := fun σ H Q => ta σ H fun x H1 => tr σ H1 fun xs H2 => Q (x :: xs) H2
section
variable {X : Cx} {e : Expr} {es : List Expr} {te : TE} {t : TA} {pos : Pos}
theorem pa_nil : PA X [] tNil := fun _ _ _ _ H Q I h => Calls.spliced_nil ⟨[], H, I, .nil, h⟩
theorem pa_cons (ha : PE X e te) (hr : PA X es t) (hs : starEach (e :: es) X.env = (false, eval e X.env) :: starEach es X.env := by rfl) : PA X (e :: es) (tCons te t) := by
  intro pos pins s σ H Q I h
  rw [hs]
  show wpAny _ _ (spliced ((false, eval e X.env) :: backTo pos (starEach es X.env))) _ _ s
  refine Calls.spliced_cons (thn (ha pins s σ H _ I h) fun u s1 ⟨x, H1, I1, r1, q1⟩ => ?_)
  exact thn (hr pos pins s1 σ H1 _ I1 q1) fun us s2 ⟨xs, H2, I2, r2, q2⟩ => ⟨x :: xs, H2, I2, .cons r1 r2, q2⟩
def tTup (t : TA) : TE := fun σ H Q => t σ H fun xs H1 => xs.length ≤ sizeLine ∧ ∀ p, H1 p = none → Q (.ref p) (upd H1 p (.tup xs))
def tLst (t : TA) : TE := fun σ H Q => t σ H fun xs H1 => xs.length ≤ sizeLine ∧ ∀ p, H1 p = none → Q (.ref p) (upd H1 p (.lst xs))
theorem pe_tup {x1} (h : PA X es t) : PE X (.Tuple es x1 pos) (tTup t) := by
  intro pins s σ H Q I hq
  refine wpAny_Tuple_spliced (thn (h pos pins s σ H _ I hq) fun us s1 ⟨xs, H1, I1, r, z, q⟩ => ⟨by rw [← r.length]; exact z, ?_⟩)
  have hf : H1 s1.heap.objs.size = none := I1.hok.fresh (Nat.le_refl _)
  refine ⟨.ref s1.heap.objs.size, upd H1 s1.heap.objs.size (.tup xs), I1.laid (t' := s1.toks) (fun b u e => Heap.get?_push_of_some _ e) (Nat.le_refl _) ?_, rfl, q _ hf⟩
  exact ⟨z, us, r, ⟨_, Heap.get?_push_size _ rfl, rfl, _, rfl⟩⟩
theorem pe_lst (h : PA X es t) : PE X (.List es pos) (tLst t) := by
  intro pins s σ H Q I hq
  refine wpAny_List_spliced (thn (h pos pins s σ H _ I hq) fun us s1 ⟨xs, H1, I1, r, z, q⟩ => ⟨by rw [← r.length]; exact z, ?_⟩)
  have hf : H1 s1.heap.objs.size = none := I1.hok.fresh (Nat.le_refl _)
  refine ⟨.ref s1.heap.objs.size, upd H1 s1.heap.objs.size (.lst xs), I1.laid (t' := s1.toks) (fun b u e => Heap.get?_push_of_some _ e) (Nat.le_refl _) ?_, rfl, q _ hf⟩
  exact ⟨z, us, 0, r, Heap.get?_push_size _ rfl⟩
end
abbrev Sp := List V → Hp → VK → XK → Prop
abbrev CXT := List Env → Hp → Shared → XK → Value → Shared → Prop
structure Env0 (P : Program) (w : World) (K : PySem.W.Frag) (mg : Str → Option Value) (base : Heap) (A : Around) (outer : List Env) (s : Shared) (H : Hp) : Prop where
  frames : A.frames = some outer
  mod : Mod K mg base
  bs : ∀ b o, base.get? b = some o → s.heap.get? b = some o ∧ H b = none
  bsz : base.objs.size ≤ s.heap.objs.size
  funs : s.heap.FunFrames base outer
  frf : ∀ b ∈ frs outer, H b = none
  hok : HOk P w H s.heap
  bare : AllBare s.gens
def CE (outer : List Env) (P : Program) (w : World) (H : Hp) (s : Shared) (Q : VK) (u : Value) (s' : Shared) : Prop :=
  ∃ v H', s'.os = s.os ∧ AllBare s'.gens ∧ Un (frs outer) [] H H' s.heap s'.heap ∧ HOk P w H' s'.heap ∧ RelV v u ∧ Q v H'
def CR (CX : CXT) (outer : List Env) (P : Program) (w : World) (H : Hp) (s : Shared) (Q : VK) (E : XK) (r : Result) (s' : Shared) : Prop :=
  match r with
  | .ok (.ret u) => CE outer P w H s Q u s'
  | .ok _ => False
  | .error e => CX outer H s E e s'
structure FnOk (P : Program) (w : World) (K : PySem.W.Frag) (mg : Str → Option Value) (base : Heap) (CX : CXT) (k : Nat) (f : Addr) (fd : FuncData) (ps : List Str) (sp : Sp) : Prop where
  len : ∀ vs H Q E, sp vs H Q E → vs.length = ps.length
  run : ∀ (A : Around) (outer : List Env) (s : Shared) (H : Hp) (args : Args) (us : List Value) (vs : List V) (Q : VK) (E : XK), Room k A → Env0 P w K mg base A outer s H → BindsTo s fd args (ps.zip us) → Vals vs us → sp vs H Q E →
    codeAny (model P w) A (.call (.ref f) args) (CR CX outer P w H s Q E) s
theorem FnOk.mono {P : Program} {w : World} {K : PySem.W.Frag} {mg : Str → Option Value} {base : Heap} {CX : CXT} {j k : Nat} {f : Addr} {fd : FuncData} {ps : List Str} {sp : Sp} (F : FnOk P w K mg base CX j f fd ps sp) (h : j ≤ k) :
    FnOk P w K mg base CX k f fd ps sp := ⟨F.len, fun A outer s H args us vs Q E hr => F.run A outer s H args us vs Q E (hr.mono h)⟩
theorem FnOk.imp {P : Program} {w : World} {K : PySem.W.Frag} {mg : Str → Option Value} {base : Heap} {CX : CXT} {k : Nat} {f : Addr} {fd : FuncData} {ps : List Str} {sp sp' : Sp} (F : FnOk P w K mg base CX k f fd ps sp)
    (h : ∀ vs H Q E, sp' vs H Q E → sp vs H Q E) : FnOk P w K mg base CX k f fd ps sp' :=
  ⟨fun vs H Q E q => F.len vs H Q E (h _ _ _ _ q), fun A outer s H args us vs Q E hr he hb hv hs => F.run A outer s H args us vs Q E hr he hb hv (h _ _ _ _ hs)⟩
theorem Env0.in1 {P : Program} {w : World} {K : PySem.W.Frag} {mg : Str → Option Value} {base : Heap} {A : Around} {outer : List Env} {s : Shared} {H : Hp} (e : Env0 P w K mg base A outer s H) :
    Env0 P w K mg base A.in1 outer s H := ⟨e.frames, e.mod, e.bs, e.bsz, e.funs, e.frf, e.hok, e.bare⟩
section
variable {X : Cx} {pins : List (Addr × Obj)} {σ : St} {H : Hp} {s s' : Shared}
theorem Inv.env0 (I : Inv X pins σ H s) : Env0 X.prog X.w X.K X.mg X.base X.A X.stack s H :=
  ⟨I.ok.frames, I.ok.mod, I.bs, Nat.le_trans I.ok.bsz I.sz, I.stack, I.stkFree, I.hok, I.bare⟩
theorem Inv.after {Q : VK} {u : Value} (I : Inv X pins σ H s) (h : CE X.stack X.prog X.w H s Q u s') : EP X pins σ Q u s' := by
  obtain ⟨v, H', os, bare, un, hok, r, q⟩ := h
  obtain ⟨hh, g, d, t, os'⟩ := s'
  obtain rfl : os' = s.os := os
  exact ⟨v, H', I.call (h' := hh) (g' := g) (d' := d) (t' := t) (ch := []) un hok bare (fun b z => absurd z (by simp)), r, q⟩
end
def Binds (K : PySem.W.Frag) (fd : FuncData) (ps : List Str) (ds : List Value) : Prop :=
  ∀ (s : Shared) (us : List Value), K.In s.heap → (us ++ ds).length = ps.length → BindsTo s fd ⟨us, []⟩ (ps.zip (us ++ ds))
theorem Binds.all {K : PySem.W.Frag} {fd : FuncData} {ps : List Str} (h : ∀ us : List Value, us.length = ps.length → bindArgs fd ⟨us, []⟩ = pure (ps.zip us)) : Binds K fd ps [] := fun s us _ hl => by
  rw [List.append_nil] at hl ⊢
  exact .of_eq (h us hl)
section
variable {X : Cx} {CX : CXT} {k : Nat} {f C : Addr} {fd : FuncData} {ps : List Str} {sp : Sp} {dvs : List V} {ds : List Value} {E : XK} {x m : Str} {p pos apos : Pos} {e o : Expr} {es : List Expr} {ta : TE} {t : TA}
end
section
variable {X : Cx} {CX : CXT} {k : Nat} {f C : Addr} {fd : FuncData} {ps ks : List Str} {sp : Sp} {E : XK} {x m : Str} {p pos apos kpos : Pos} {e o : Expr} {es : List Expr} {kws : List Keyword} {te ta : TE} {t tk : TA} {nm : Option Str}
variable {g : List Value → List Value → List Value} {gV : List V → List V → List V}
end
structure FnScope (N P : List Str) (sc : Scope) : Prop where
  kind : sc.kind = .function
  co : sc.isCoroutine = false
  gen : sc.isGenerator = false
  nd : N.Nodup
  pre : N.take P.length = P
  par : ∀ x ∈ P, sc.names.lookup x = some .local ∨ sc.names.lookup x = some .cell
  nofree : ∀ y ∈ sc.names, y.2 ≠ .free
theorem bindL_out {kindOf : Str → Option NameKind} {x : Str} : ∀ {binds : List (Str × Value)} {m : Str → Option Value}, (∀ v, (x, v) ∉ binds) → bindL kindOf binds m x = m x
  | [], _, _ => rfl
  | (n, v) :: r, m, h => by
    unfold bindL
    rw [bindL_out fun w hw => h w (List.mem_cons_of_mem _ hw)]
    split
    · have : x ≠ n := by rintro rfl; exact h v List.mem_cons_self
      simp [this]
    · rfl
theorem bindC_out {kindOf : Str → Option NameKind} {x : Str} : ∀ {binds : List (Str × Value)} {m : Str → Option Value}, (∀ v, (x, v) ∉ binds) → bindC kindOf binds m x = m x
  | [], _, _ => rfl
  | (n, v) :: r, m, h => by
    unfold bindC
    rw [bindC_out fun w hw => h w (List.mem_cons_of_mem _ hw)]
    split
    · rfl
    · have : x ≠ n := by rintro rfl; exact h v List.mem_cons_self
      simp [this]
theorem bindL_get {kindOf : Str → Option NameKind} {x : Str} {v : Value} : ∀ {P : List Str} {vs : List Value} {i : Nat} {m : Str → Option Value}, P.Nodup → P[i]? = some x → vs[i]? = some v → kindOf x = some .local →
    bindL kindOf (P.zip vs) m x = some v
  | [], _, _, _, _, h, _, _ => by simp at h
  | _ :: _, [], _, _, _, _, h, _ => by simp at h
  | p :: P, w :: vs, 0, m, nd, h1, h2, hk => by
    simp at h1 h2; subst h1; subst h2
    show bindL kindOf ((p, w) :: P.zip vs) m p = _
    unfold bindL
    rw [bindL_out fun v hv => (List.nodup_cons.mp nd).1 (List.of_mem_zip hv).1, if_pos hk]
    simp
  | p :: P, w :: vs, i + 1, m, nd, h1, h2, hk => by
    show bindL kindOf ((p, w) :: P.zip vs) m x = _
    unfold bindL
    exact bindL_get (i := i) (List.nodup_cons.mp nd).2 (by simpa using h1) (by simpa using h2) hk
theorem bindC_get {kindOf : Str → Option NameKind} {x : Str} {v : Value} : ∀ {P : List Str} {vs : List Value} {i : Nat} {m : Str → Option Value}, P.Nodup → P[i]? = some x → vs[i]? = some v → kindOf x ≠ some .local →
    bindC kindOf (P.zip vs) m x = some v
  | [], _, _, _, _, h, _, _ => by simp at h
  | _ :: _, [], _, _, _, _, h, _ => by simp at h
  | p :: P, w :: vs, 0, m, nd, h1, h2, hk => by
    simp at h1 h2; subst h1; subst h2
    show bindC kindOf ((p, w) :: P.zip vs) m p = _
    unfold bindC
    rw [bindC_out fun v hv => (List.nodup_cons.mp nd).1 (List.of_mem_zip hv).1, if_neg hk]
    simp
  | p :: P, w :: vs, i + 1, m, nd, h1, h2, hk => by
    show bindC kindOf ((p, w) :: P.zip vs) m x = _
    unfold bindC
    exact bindC_get (i := i) (List.nodup_cons.mp nd).2 (by simpa using h1) (by simpa using h2) hk
def start (N : List Str) (vs : List V) : St := vs.map some ++ List.replicate (N.length - vs.length) none
def cxOf (CX : CXT) (P : Program) (w : World) (K : PySem.W.Frag) (mg : Str → Option Value) (base : Heap) (N : List Str) (qual : Str) (scope : Scope) (f : Addr) (cd : Value) (A : Around) (outer : List Env) (s : Shared) (H : Hp) (E : XK) : Cx where
  prog := P
  w := w
  K := K
  mg := mg
  base := base
  A := A.deeper (envOfC qual scope s.heap.objs.size f cd)
  N := N
  s₀ := s
  H₀ := H
  env := envOfC qual scope s.heap.objs.size f cd
  outer := outer
  stack := envOfC qual scope s.heap.objs.size f cd :: outer
  ex := []
  calm := true
  fn := fun _ => true
  pn := []
  xe := fun e s' => wpAny (model P w) (A.deeper (envOfC qual scope s.heap.objs.size f cd)) (leaving (envOfC qual scope s.heap.objs.size f cd) e) (fun _ s'' => CX outer H s E e s'') (fun e' s'' => CX outer H s E e' s'') s'
theorem cell_has {sc : Scope} {n : Nat} {x : Str} (h : sc.names.lookup x = some .cell) : ∃ c, (cellsFrom n sc.names []).lookup x = some c := by
  have q := PySem.W.cellsFrom_some sc.names n [] (.inl h)
  exact Option.isSome_iff_exists.mp q
theorem inv_start {CX : CXT} {P : Program} {w : World} {K : PySem.W.Frag} {mg : Str → Option Value} {base : Heap} {N ps : List Str} {qual : Str} {scope : Scope} {f : Addr} {cd : Value} {A : Around} {outer : List Env} {s s1 : Shared} {H : Hp} {E : XK} {us : List Value} {vs : List V}
    (S : FnScope N ps scope) (hd : A.handled = none) (e0 : Env0 P w K mg base A outer s H) (hl : vs.length = ps.length) (r : Vals vs us)
    (x : InCallC s s.heap.objs.size (bindL (envOfC qual scope s.heap.objs.size f cd).kindOf (ps.zip us) fun _ => none) (cellsFrom (s.heap.objs.size + 1) scope.names []) (bindC (envOfC qual scope s.heap.objs.size f cd).kindOf (ps.zip us) fun _ => none) s1) :
    Inv (cxOf CX P w K mg base N qual scope f cd A outer s H E) [] (start N vs) H s1 := by
  have hpl : ps.length ≤ N.length := by have := congrArg List.length S.pre; rw [List.length_take] at this; omega
  obtain ⟨h1, tk, rfl, hk⟩ := x.done
  have noA : ∀ b : Addr, b ∉ (cxOf CX P w K mg base N qual scope f cd A outer s H E).ex := fun b z => absurd (show b ∈ ([] : List Addr) from z) (by simp)
  refine ⟨⟨e0.mod, S.kind, rfl, rfl, Nat.le_refl _, fun y z c h1 h2 => ?_, fun y hy => ?_, fun y c _ h => ?_, fun _ => hd, Around.frames_deeper e0.frames, .inr ⟨rfl, rfl⟩, fun b z => absurd z (noA b), e0.bs, e0.bsz, fun b _ _ => noA b, fun b z => absurd z (noA b), e0.funs, e0.frf⟩,
    rfl, e0.bare, Un.kept hk, ⟨_, x.toInCall.ns, fun i y v h1 h2 h3 => ?_⟩, fun y c h => ⟨_, x.cell y c h⟩, e0.hok.fresh (Nat.le_refl _), fun y c h => ?_, fun p hp => absurd (show p ∈ ([] : List (Addr × Obj)) from hp) (by simp), e0.hok.kept hk, ?_⟩
  · exact name_of_addr x.apart (PySem.mem_of_lookup h1) (PySem.mem_of_lookup h2)
  · have hy : scope.names.lookup y = some .cell ∨ scope.names.lookup y = some .free := hy
    rcases hy with hy | hy
    · exact cell_has hy
    · exact absurd rfl (S.nofree _ (PySem.mem_of_lookup hy))
  · exact Nat.le_of_lt (x.above y c (PySem.mem_of_lookup h))
  · have hi : i < vs.length := by
      unfold start at h2
      by_cases hi : i < vs.length
      · exact hi
      · rw [List.getElem?_append_right (by simpa using hi)] at h2
        rw [List.getElem?_replicate] at h2
        split at h2 <;> cases h2
    have ha : vs[i]? = some v := by
      unfold start at h2
      rw [List.getElem?_append_left (by simpa using hi), List.getElem?_map] at h2
      cases e : vs[i]? with
      | none => rw [e] at h2; cases h2
      | some a => rw [e] at h2; cases h2; rfl
    obtain ⟨u, hu, rv⟩ := r.get ha
    have hp : ps[i]? = some y := by
      rw [← S.pre, List.getElem?_take_of_lt (by omega)]; exact h1
    have ndP : ps.Nodup := by rw [← S.pre]; exact S.nd.sublist (List.take_sublist _ _)
    refine ⟨u, rv, ?_⟩
    rcases S.par y (List.mem_of_getElem? hp) with k | k
    · exact .inl ⟨k, bindL_get ndP hp hu k⟩
    · obtain ⟨c, e⟩ := cell_has (n := s.heap.objs.size + 1) k
      refine .inr ⟨.inl k, c, e, ?_⟩
      have q := x.cell y c e
      rw [bindC_get ndP hp hu (by show scope.names.lookup y ≠ _; rw [k]; decide)] at q
      exact q
  · exact e0.hok.fresh (Nat.le_of_lt (x.above y c (PySem.mem_of_lookup h)))
  · unfold start
    show _ = N.length
    rw [List.length_append, List.length_map, List.length_replicate]
    omega
theorem fn_of {CX : CXT} {P : Program} {w : World} {K : PySem.W.Frag} {mg : Str → Option Value} {base : Heap} {k : Nat} {f : Addr} {name qual : Str} {params : Arguments} {body : List Stmt} {scope : Scope} {dV kV doc pm cdv ct oc : Value} {an od : Option Addr}
    {osl : Array (Option Value)} {N ps : List Str} {sp : Sp} (lk : K.lookup f = some ⟨oc, od, .func (PySem.W.fnOf name qual params body scope dV kV doc pm an cdv ct), osl⟩) (hcd : PySem.W.codeIn K cdv qual = true) (S : FnScope N ps scope)
    (len : ∀ vs H Q E, sp vs H Q E → vs.length = ps.length)
    (hbody : ∀ (A : Around) (outer : List Env) (s : Shared) (H : Hp) (vs : List V) (Q : VK) (E : XK), Room k (A.deeper (envOfC qual scope s.heap.objs.size f cdv)) → sp vs H Q E →
      ∃ t, PSs (cxOf CX P w K mg base N qual scope f cdv A outer s H E) body t ∧ t { nx := fun _ H' => Q .non H', rt := Q } (start N vs) H) :
    FnOk P w K mg base CX (k + 1) f (PySem.W.fnOf name qual params body scope dV kV doc pm an cdv ct) ps sp := by
  refine ⟨len, fun A outer s H args us vs Q E hr e0 hb r hsp => ?_⟩
  have hl := len _ _ _ _ hsp
  have KX : K.In s.heap := e0.mod.kin.keeps fun b o e => (e0.bs b o e).1
  have lim : s.heap.NoLimit := e0.mod.nolimit.keeps fun b o e => (e0.bs b o e).1
  have hkind : ∀ y ∈ ps.zip us, scope.names.lookup y.1 = some .local ∨ (scope.names.lookup y.1 = some .cell ∧ ((cellsFrom (s.heap.objs.size + 1) scope.names []).lookup y.1).isSome = true) := fun ⟨n, v⟩ hy => by
    rcases S.par n (List.of_mem_zip hy).1 with q | q
    · exact .inl q
    · exact .inr ⟨q, PySem.W.cellsFrom_some _ _ _ (.inl q)⟩
  refine codeAny_call_function hr.depth (KX _ _ lk) rfl S.co S.gen rfl (PySem.W.codeRec_of KX hcd) (hb _ _ _ _ ?_)
  refine wpAny_newFunctionEnv_cells S.kind hkind fun env he s1 x => ?_
  subst he
  refine ⟨lim.keeps x.toInCall.keep, codeAny_func ?_⟩
  obtain ⟨t, ht, hq⟩ := hbody A outer s H vs Q E (hr.deeper _) hsp
  have I : Inv (cxOf CX P w K mg base N qual scope f cdv A outer s H E) [] (start N vs) H s1 := inv_start S hr.hd e0 hl r x
  refine wpAny_mono (ht [] s1 (start N vs) H _ I hq) (fun fl s' hs => ?_) fun e s' hs => hs
  have fin : ∀ {σ' : St} {H' : Hp} {v : V} {u : Value}, Inv (cxOf CX P w K mg base N qual scope f cdv A outer s H E) [] σ' H' s' → RelV v u → Q v H' → CE outer P w H s Q u s' :=
    fun {σ' H' v u} J rv q => ⟨v, H', J.os, J.bare, J.base, J.hok, rv, q⟩
  cases fl with
  | ret u =>
    obtain ⟨v, σ', H', J, rv, q⟩ := hs
    exact fin J rv q
  | next =>
    obtain ⟨σ', H', J, q⟩ := hs
    exact fin (v := V.non) (u := Value.none) J rfl q
  | brk =>
    obtain ⟨_, _, _, q⟩ := hs
    exact False.elim q
  | cont =>
    obtain ⟨_, _, _, q⟩ := hs
    exact False.elim q
end L2
namespace L2
open PySem PySem.Spec PyProof.Rows
section
variable {X : Cx} {x : Str} {p pos : Pos} {e : Expr} {es : List Expr} {t : TA} {id T : String} {r : List V → Hp → VK → Prop}
def tCB (r : List V → Hp → VK → Prop) (t : TA) : TE := fun σ H Q => t σ H fun vs H1 => r vs H1 Q
theorem pe_callB (hc : CallR X (.builtin id) r) (hg : Gl X x) (hm : X.mg x = none) (hv : bootBuiltins x = some (.builtin id)) (ha : PA X (e :: es) t) (hn : x ≠ "__name__" := by decide) (hdb : (x == ("__debug__" : Str)) = false := by decide)
    (he : starEach (e :: es) X.env = (false, eval e X.env) :: starEach es X.env := by rfl) (hpl : (backTo pos (starEach es X.env)).any (·.1) = false := by rfl) : PE X (.Call (.Name x p) (e :: es) [] pos) (tCB r t) := by
  intro pins s σ H Q I h
  refine wpAny_Call_Name_kw (ld_blt I hg hm hv ?_ hn hdb)
  exact PyProof.Rows.callWith_builtin1 (thn (ha pos pins s σ H _ I h) fun us s1 ⟨vs, H1, I1, r1, q1⟩ => hc pins s1 σ H1 vs us Q I1 r1 q1) he hpl
theorem pe_callTy (hc : CallR X (.type T) r) (hg : Gl X x) (hm : X.mg x = none) (hv : bootBuiltins x = some (.type T)) (ha : PA X (e :: es) t) (hn : x ≠ "__name__" := by decide) (hdb : (x == ("__debug__" : Str)) = false := by decide)
    (he : starEach (e :: es) X.env = (false, eval e X.env) :: starEach es X.env := by rfl) (hpl : (backTo pos (starEach es X.env)).any (·.1) = false := by rfl) : PE X (.Call (.Name x p) (e :: es) [] pos) (tCB r t) := by
  intro pins s σ H Q I h
  refine wpAny_Call_Name_kw (ld_blt I hg hm hv ?_ hn hdb)
  exact PyProof.Rows.callWith_type1 (thn (ha pos pins s σ H _ I h) fun us s1 ⟨vs, H1, I1, r1, q1⟩ => hc pins s1 σ H1 vs us Q I1 r1 q1) he hpl
end
end L2
namespace HT
open PySem PyProof.Rows
section
open PySem.SeqAt
open PySem.AutoSeq1 (wpAny_loadPart')
open PySem.MeetsSeq PySem.MeetsSeq2 PySem.MeetsSeq3
end
section
variable {prog : Program} {w : World} {A : Around} {E : Value → Shared → Prop} {s : Shared}
def sIx (n d : Nat) : Option Int → Nat
  | none => d
  | some v => if v < 0 then (v + (n : Int)).toNat else min v.toNat n
theorem sIx_none (n d : Nat) : sIx n d none = d := rfl
theorem sIx_nat (n d k : Nat) : sIx n d (some (k : Int)) = min k n := by
  show (if (k : Int) < 0 then ((k : Int) + (n : Int)).toNat else min (k : Int).toNat n) = min k n
  rw [if_neg (by omega), Int.toNat_natCast]
end
end HT
namespace L2
open PySem PySem.Spec PyProof.Rows
abbrev TO := St → Hp → (Option Int → Hp → Prop) → Prop
def PO (X : Cx) (e : Option Expr) (t : TO) : Prop :=
  ∀ (pins : List (Addr × Obj)) (s : Shared) (σ : St) (H : Hp) (Q : Option Int → Hp → Prop), Inv X pins σ H s → t σ H Q →
    wpAny (model X.prog X.w) X.A (evalPart e X.env) (fun u s' => ∃ o H', Inv X pins σ H' s' ∧ IsPart u o ∧ Q o H') X.xe s
def tNoPart : TO := fun _ H Q => Q none H
def tPart (t : TE) : TO := fun σ H Q => t σ H fun x H1 => ∃ i, x = .int i ∧ Q (some i) H1
theorem intsAre_of {ns : List Int} : ∀ {us : List Value}, Vals (ns.map V.int) us → IntsAre us ns := by
  induction ns with
  | nil => intro us r; rw [List.map_nil] at r; cases r; exact .nil
  | cons n ns ih =>
    intro us r
    rw [List.map_cons] at r
    cases r with
    | cons r1 r2 =>
      obtain ⟨t, e⟩ := r1
      subst e
      exact .cons n t (ih r2)
section
variable {X : Cx} {e : Expr} {te : TE} {lo hi : Option Expr} {tl th : TO} {pos p2 : Pos}
theorem po_none : PO X none tNoPart := by
  intro pins s σ H Q I h
  rw [evalPart_none]
  exact wpAny_pure ⟨none, H, I, .none, h⟩
theorem po_some (h : PE X e te) : PO X (some e) (tPart te) := by
  intro pins s σ H Q I hw
  rw [evalPart_some]
  refine thn (h pins s σ H _ I hw) fun u s1 ⟨x, H1, I1, r1, q1⟩ => ?_
  obtain ⟨i, rfl, q⟩ := q1
  obtain ⟨t, rfl⟩ := r1
  exact ⟨some i, H1, I1, .int i t, q⟩
def SlR (X : Cx) (r : V → Option Int → Option Int → Hp → VK → Prop) : Prop :=
  ∀ (pins : List (Addr × Obj)) (s : Shared) (σ : St) (H : Hp) (x : V) (v vl vu : Value) (lo hi : Option Int) (sl : Addr) (Q : VK), Inv X pins σ H s → RelV x v → s.heap.IsSliceOf sl vl vu .none → IsPart vl lo → IsPart vu hi → r x lo hi H Q →
    ∃ T id, typeLookup (.type T) "__getitem__" = pure (some (.builtin id)) ∧ s.TypeIs v T ∧ wpAny (model X.prog X.w) X.A (getItem v (.ref sl)) (EP X pins σ Q) X.xe s
theorem SlR.or {r r' : V → Option Int → Option Int → Hp → VK → Prop} (h : SlR X r) (h' : SlR X r') : SlR X (fun x lo hi H Q => r x lo hi H Q ∨ r' x lo hi H Q) := by
  intro pins s σ H x v vl vu lo hi sl Q I rx hs pl pu q
  rcases q with q | q
  · exact h pins s σ H x v vl vu lo hi sl Q I rx hs pl pu q
  · exact h' pins s σ H x v vl vu lo hi sl Q I rx hs pl pu q
def tSl (r : V → Option Int → Option Int → Hp → VK → Prop) (te : TE) (tl th : TO) : TE := fun σ H Q => te σ H fun x H1 => tl σ H1 fun l H2 => th σ H2 fun u H3 => r x l u H3 Q
theorem pe_slice {r : V → Option Int → Option Int → Hp → VK → Prop} (hr : SlR X r) (he : PE X e te) (hl : PO X lo tl) (hu : PO X hi th) : PE X (.Subscript e (.Slice lo hi none p2) pos) (tSl r te tl th) := by
  intro pins s σ H Q I h
  refine Subscript_ (thn (he pins s σ H _ I h) fun v s1 ⟨x, H1, I1, r1, q1⟩ => ?_)
  refine wpAny_Slice (thn (hl pins s1 σ H1 _ I1 q1) fun vl s2 ⟨l, H2, I2, pl, q2⟩ => thn (hu pins s2 σ H2 _ I2 q2) fun vu s3 ⟨u, H3, I3, pu, q3⟩ => ?_)
  rw [evalPart_none]
  refine wpAny_pure ?_
  have I4 : Inv X pins σ H3 { s3 with heap := s3.heap.push { cls := .type "slice", data := .fields #[vl, vu, .none] } } := I3.kept (t' := s3.toks) fun b ob q => Heap.get?_push_of_some _ q
  obtain ⟨T, id, hT, ht, hg⟩ := hr pins { s3 with heap := s3.heap.push { cls := .type "slice", data := .fields #[vl, vu, .none] } } σ H3 x v vl vu l u s3.heap.objs.size Q I4 r1 (Heap.IsSliceOf.new ..) pl pu q3
  show wpAny (model X.prog X.w) X.A (subscriptTail e (.Slice lo hi none p2) v (.ref s3.heap.objs.size)) (EP X pins σ Q) X.xe { s3 with heap := s3.heap.push { cls := .type "slice", data := .fields #[vl, vu, .none] } }
  exact tail_any (ops := [.ref s3.heap.objs.size, v]) ht hT hg (by with_unfolding_all rfl)
def cutV (xs : List V) (lo hi : Option Int) : List V := (xs.drop (HT.sIx xs.length 0 lo)).take (HT.sIx xs.length xs.length hi - HT.sIx xs.length 0 lo)
theorem cutV_length (xs : List V) (lo hi : Option Int) : (cutV xs lo hi).length ≤ xs.length := by
  unfold cutV
  rw [List.length_take, List.length_drop]
  omega
end
end L2
namespace L2
open PySem PySem.Spec PyProof.Rows
def ixN (n : Nat) (i : Int) : Option Nat := if 0 ≤ i then (if i < n then some i.toNat else none) else if -(n : Int) ≤ i then some (i + n).toNat else none
def atI {α : Type} (xs : List α) (i : Int) : Option α := (ixN xs.length i).bind fun j => xs[j]?
theorem ixN_seq {n : Nat} {i : Int} {j : Nat} (h : ixN n i = some j) : seqIndex? i n = some j ∧ j < n ∧ -(n : Int) ≤ i ∧ i < n := by
  unfold ixN at h
  by_cases h0 : 0 ≤ i
  · rw [if_pos h0] at h
    by_cases h1 : i < n
    · rw [if_pos h1] at h
      have e : i.toNat = j := Option.some.inj h
      exact ⟨by rw [seqIndex_of h0 h1, e], by omega, by omega, h1⟩
    · rw [if_neg h1] at h; cases h
  · rw [if_neg h0] at h
    by_cases h1 : -(n : Int) ≤ i
    · rw [if_pos h1] at h
      have e : (i + n).toNat = j := Option.some.inj h
      exact ⟨by rw [seqIndex_neg (by omega) h1, e], by omega, h1, by omega⟩
    · rw [if_neg h1] at h; cases h
theorem atI_get {α : Type} {xs : List α} {i : Int} {v : α} (h : atI xs i = some v) : ∃ j, seqIndex? i xs.length = some j ∧ xs[j]? = some v ∧ j < xs.length ∧ -(xs.length : Int) ≤ i ∧ i < xs.length := by
  unfold atI at h
  cases e : ixN xs.length i with
  | none => rw [e] at h; cases h
  | some j =>
    rw [e] at h
    obtain ⟨h1, h2, h3, h4⟩ := ixN_seq e
    exact ⟨j, h1, h, h2, h3, h4⟩
theorem atI_nat {α : Type} {xs : List α} {j : Nat} {v : α} (h : xs[j]? = some v) : atI xs (j : Int) = some v := by
  have hj : j < xs.length := (List.getElem?_eq_some_iff.mp h).1
  have e : ixN xs.length (j : Int) = some j := by
    unfold ixN
    rw [if_pos (by omega), if_pos (by omega)]; simp
  unfold atI; rw [e]; exact h
def PlainIx (b : Expr) : Prop := ∀ o i, subscripted b false o i = operate [o, i] (getItem o i)
def IxR (X : Cx) (r : R2) : Prop :=
  ∀ (value slice : Expr) (pins : List (Addr × Obj)) (s : Shared) (σ : St) (H : Hp) (x y : V) (v u : Value) (Q : VK), Inv X pins σ H s → RelV x v → RelV y u → r x y H Q →
    subscripted slice false v u = operate [v, u] (getItem v u) → wpAny (model X.prog X.w) X.A (subscriptTail value slice v u) (EP X pins σ Q) X.xe s
def MtR (X : Cx) (id : String) (r : V → List V → Hp → VK → Prop) : Prop :=
  ∀ (pins : List (Addr × Obj)) (s : Shared) (σ : St) (H : Hp) (x : V) (xs : List V) (v : Value) (us : List Value) (Q : VK), Inv X pins σ H s → RelV x v → Vals xs us → r x xs H Q →
    wpAny (model X.prog X.w) X.A (call (.builtin id) (v :: us)) (EP X pins σ Q) X.xe s
section
variable {X : Cx} {a b : Expr} {ta tb : TE} {pos : Pos}
theorem IxR.or {r r' : R2} (h : IxR X r) (h' : IxR X r') : IxR X (fun x y H Q => r x y H Q ∨ r' x y H Q) := by
  intro value slice pins s σ H x y v u Q I rx ry q hs
  rcases q with q | q
  · exact h value slice pins s σ H x y v u Q I rx ry q hs
  · exact h' value slice pins s σ H x y v u Q I rx ry q hs
theorem MtR.or {id : String} {r r' : V → List V → Hp → VK → Prop} (h : MtR X id r) (h' : MtR X id r') : MtR X id (fun x xs H Q => r x xs H Q ∨ r' x xs H Q) := by
  intro pins s σ H x xs v us Q I rx rs q
  rcases q with q | q
  · exact h pins s σ H x xs v us Q I rx rs q
  · exact h' pins s σ H x xs v us Q I rx rs q
theorem pe_ix {r : R2} (hr : IxR X r) (ha : PE X a ta) (hb : PE X b tb) (hs : PlainIx b) : PE X (.Subscript a b pos) (tOp r ta tb) := by
  intro pins s σ H Q I h
  exact Subscript_ (binT ha hb I h fun v u s2 x y H2 I2 rx ry q => hr a b pins s2 σ H2 x y v u Q I2 rx ry q (hs _ _))
def rIxL (K : PySem.W.Frag) : R2 := fun x y H Q => ∃ p xs i v, x = .ref p ∧ y = .int i ∧ SqL K H p xs ∧ atI xs i = some v ∧ Q v H
def rIxT (K : PySem.W.Frag) : R2 := fun x y H Q => ∃ p xs i v, x = .ref p ∧ y = .int i ∧ SqT K H p xs ∧ atI xs i = some v ∧ Q v H
def rIxS : R2 := fun x y H Q => ∃ z i c, x = .str z ∧ y = .int i ∧ z.length ≤ sizeLine ∧ atI z.cps.toList i = some c ∧ Q (.str ⟨#[c]⟩) H
theorem ix_list : IxR X (rIxL X.K) := by
  intro value slice pins s σ H x y v u Q I rx ry h hs
  obtain ⟨p, xs, i, z, rfl, rfl, hq, he, q⟩ := h
  cases rx
  obtain ⟨t, rfl⟩ := ry
  obtain ⟨its, r, pl, hz⟩ := I.list hq
  obtain ⟨j, h1, h2, h3, h4, h5⟩ := atI_get he
  obtain ⟨w, ew, rw'⟩ := r.get h2
  have hl := r.length
  have hn := line63
  have fin : EP X pins σ Q w s := ⟨z, H, I, rw', q⟩
  by_cases h0 : 0 ≤ i
  · have hj : i.toNat = j := by
      rw [seqIndex_of h0 h5] at h1
      exact Option.some.inj h1
    exact item_listR pl.isList h0 (by omega) (by rw [hj]; simpa using ew) fin hs
  · have hj : (i + (its.toArray.size : Int)).toNat = j := by
      rw [seqIndex_neg (by omega) h4] at h1
      rw [List.size_toArray, ← hl]
      exact Option.some.inj h1
    exact subscriptTail_builtinR (x := w) pl.isList.typeIs slot_list_getitem.lookup
      (wpAny_getItem_list_neg (Q := fun r s' => r = w ∧ EP X pins σ Q r s') pl.isList (by omega) (by rw [List.size_toArray] <;> omega) (by omega) (by rw [hj]; simpa using ew) ⟨rfl, fin⟩) hs
theorem ix_tup : IxR X (rIxT X.K) := by
  intro value slice pins s σ H x y v u Q I rx ry h hs
  obtain ⟨p, xs, i, z, rfl, rfl, hq, he, q⟩ := h
  cases rx
  obtain ⟨t, rfl⟩ := ry
  obtain ⟨its, r, pl, hz⟩ := I.tuple hq
  obtain ⟨j, h1, h2, h3, h4, h5⟩ := atI_get he
  obtain ⟨w, ew, rw'⟩ := r.get h2
  have hl := r.length
  have hn := line63
  have fin : EP X pins σ Q w s := ⟨z, H, I, rw', q⟩
  exact subscriptTail_builtinR (x := w) pl.typeIs slot_tuple_getitem.lookup
    (getItem_tuple (j := j) (Q := fun r s' => r = w ∧ EP X pins σ Q r s') pl (by omega) (by omega) (by rw [List.size_toArray, ← hl]; exact h1) (by simpa using ew) ⟨rfl, fin⟩) hs
theorem ix_str : IxR X rIxS := by
  intro value slice pins s σ H x y v u Q I rx ry h hs
  obtain ⟨z, i, c, rfl, rfl, hz, he, q⟩ := h
  obtain ⟨t, rfl⟩ := rx
  obtain ⟨t', rfl⟩ := ry
  obtain ⟨j, h1, h2, h3, h4, h5⟩ := atI_get he
  have hl : z.cps.toList.length = z.length := by simp [Str.length]
  rw [hl] at h1 h4 h5
  have hn := line63
  exact tail_any (typeIs_str s z t) slot_str_getitem.lookup (getItem_str (c := c) (by
    have e1 : decide (i < -(2 ^ 63 : Int)) = false := decide_eq_false (by omega)
    have e2 : decide (i ≥ 2 ^ 63) = false := decide_eq_false (by omega)
    rw [e1, e2, Bool.or_false]) (by rw [h1]; simpa using h2) ⟨.str ⟨#[c]⟩, H, I.tok _, ⟨_, rfl⟩, q⟩) hs
def rIx (K : PySem.W.Frag) : R2 := fun x y H Q => rIxL K x y H Q ∨ rIxT K x y H Q ∨ rIxS x y H Q
theorem ix_seq : IxR X (rIx X.K) := ix_list.or (ix_tup.or ix_str)
theorem mapSeq_set (its : List Value) (n j : Nat) (u : Value) : Obj.mapSeq (·.setIfInBounds j u) { cls := .type "list", data := .seq its.toArray n } = { cls := .type "list", data := .seq (its.set j u).toArray n } := by
  simp [Obj.mapSeq]
theorem Inv.lst {pins : List (Addr × Obj)} {σ : St} {H : Hp} {s : Shared} {p : Addr} {xs : List V} (I : Inv X pins σ H s) (h : H p = some (.lst xs)) :
    ∃ (its : List Value) (n : Nat), Vals xs its ∧ s.heap.get? p = some { cls := .type "list", data := .seq its.toArray n } ∧ xs.length ≤ sizeLine := by
  obtain ⟨z, its, n, r, e⟩ := I.hok p _ h
  exact ⟨its, n, r, e, z⟩
theorem Inv.lstUpd {pins : List (Addr × Obj)} {σ : St} {H : Hp} {s : Shared} {p : Addr} {xs ys : List V} {its its' : List Value} {n n' : Nat} {f : Obj → Obj} (I : Inv X pins σ H s) (h : H p = some (.lst xs))
    (ho : s.heap.get? p = some { cls := .type "list", data := .seq its.toArray n }) (hf : f { cls := .type "list", data := .seq its.toArray n } = { cls := .type "list", data := .seq its'.toArray n' }) (r : Vals ys its') (hz : ys.length ≤ sizeLine) (t : Nat) :
    Inv X pins σ (upd H p (.lst ys)) { s with heap := s.heap.update p f, toks := t } := by
  have e : (s.heap.update p f).get? p = some { cls := .type "list", data := .seq its'.toArray n' } := by
    rw [Heap.get?_update_self f ho (by rw [hf] <;> rfl), hf]
  refine I.write (x := p) (e := p) (by rw [h]; trivial) (.inl rfl) (fun b u hb q => (Heap.get?_update_other _ _ (Ne.symm hb)).trans q) ⟨_, e⟩ ?_
  exact ⟨hz, its', n', r, e⟩
def rSetL : V → V → V → Hp → (Hp → Prop) → Prop := fun o i v H Q => ∃ p xs k j, o = .ref p ∧ i = .int k ∧ H p = some (.lst xs) ∧ ixN xs.length k = some j ∧ Q (upd H p (.lst (xs.set j v)))
theorem set_list : PSet X rSetL := by
  intro pins s σ H o i v ov iv u Q I ro ri rv h
  obtain ⟨p, xs, k, j, rfl, rfl, hp, hj, q⟩ := h
  cases ro
  obtain ⟨t, rfl⟩ := ri
  obtain ⟨its, n, r, ho, hz⟩ := I.lst hp
  obtain ⟨h1, h2, h3, h4⟩ := ixN_seq hj
  have hl := r.length
  have hn := line63
  have I' : Inv X pins σ (upd H p (.lst (xs.set j v))) { s with heap := s.heap.update p (Obj.mapSeq (·.setIfInBounds j u)) } :=
    I.lstUpd hp ho (mapSeq_set its n j u) (r.set rv j) (by rw [List.length_set]; exact hz) s.toks
  by_cases h0 : 0 ≤ k
  · have hk : k.toNat = j := by
      rw [seqIndex_of h0 h4] at h1
      exact Option.some.inj h1
    exact PySem.W.ki_setAt ho h0 (by omega) (by rw [List.size_toArray, ← hl]; exact h4) (by rw [hk]; exact ⟨_, I', q⟩)
  · have hk : (k + (its.toArray.size : Int)).toNat = j := by
      rw [seqIndex_neg (by omega) h3] at h1
      rw [List.size_toArray, ← hl]
      exact Option.some.inj h1
    exact PySem.W.ki_setBack ho (by omega) (by rw [List.size_toArray, ← hl]; exact h3) (by omega) (by rw [hk]; exact ⟨_, I', q⟩)
theorem slice_bounds (lo hi : Option Int) (n : Nat) : (sliceBounds lo hi none n).1 = ((HT.sIx n 0 lo : Nat) : Int) ∧ (sliceBounds lo hi none n).2.1 = ((HT.sIx n n hi : Nat) : Int) ∧ (sliceBounds lo hi none n).2.2 = 1 := by
  refine ⟨?_, ?_, rfl⟩
  · cases lo with
    | none => simp [sliceBounds, HT.sIx]
    | some i =>
      simp only [sliceBounds, HT.sIx, Option.getD_none, show (1 : Int) > 0 by decide, if_true]
      by_cases h : i < 0
      · simp only [h, if_true] <;> omega
      · simp only [h, if_false] <;> omega
  · cases hi with
    | none => simp [sliceBounds, HT.sIx]
    | some i =>
      simp only [sliceBounds, HT.sIx, Option.getD_none, show (1 : Int) > 0 by decide, if_true]
      by_cases h : i < 0
      · simp only [h, if_true] <;> omega
      · simp only [h, if_false] <;> omega
theorem slicePick_cut (its : List Value) (lo hi : Option Int) : slicePick its.toArray lo hi none = ((its.drop (HT.sIx its.length 0 lo)).take (HT.sIx its.length its.length hi - HT.sIx its.length 0 lo)).toArray := by
  obtain ⟨h1, h2, h3⟩ := slice_bounds lo hi its.toArray.size
  unfold slicePick
  rw [h1, h2, h3]
  simp only [sliceRange_one, pick_run, List.size_toArray] <;> rfl
def rSlL (K : PySem.W.Frag) : V → Option Int → Option Int → Hp → VK → Prop := fun x lo hi H Q => ∃ a xs, x = .ref a ∧ SqL K H a xs ∧ ∀ p, H p = none → Q (.ref p) (upd H p (.lst (cutV xs lo hi)))
theorem sl_list : SlR X (rSlL X.K) := by
  intro pins s σ H x v vl vu lo hi sl Q I rx hs pl pu h
  obtain ⟨a, xs, rfl, hx, q⟩ := h
  cases rx
  obtain ⟨its, r, ht, hz⟩ := I.list hx
  have hlen := r.length
  refine ⟨"list", _, slot_list_getitem.lookup, ht.isList.typeIs, ?_⟩
  refine wpAny_getItem_list_slice ht.isList hs pl pu .none (by simp) ?_ (by rw [List.size_toArray] <;> omega)
  rw [slicePick_cut, ← hlen]
  refine ⟨.ref s.heap.objs.size, _, I.laid (t' := s.toks) (o := .lst (cutV xs lo hi)) (fun b ob q => Heap.get?_push_of_some _ q) (Nat.le_refl _) ?_, rfl, q _ (I.hok.fresh (Nat.le_refl _))⟩
  exact ⟨Nat.le_trans (cutV_length xs lo hi) hz, _, 0, (r.drop (HT.sIx xs.length 0 lo)).take (HT.sIx xs.length xs.length hi - HT.sIx xs.length 0 lo), Heap.get?_push_size _ rfl⟩
def flatV : V → Bool
  | .non => true
  | .bl _ => true
  | .int _ => true
  | .str _ => true
  | _ => false
def eqV : V → V → Bool
  | .non, .non => true
  | .bl a, .bl b => a == b
  | .bl a, .int b => (if a then 1 else 0) == b
  | .int a, .bl b => a == (if b then 1 else 0)
  | .int a, .int b => a == b
  | .str a, .str b => a == b
  | _, _ => false
theorem eqAt_V {A : Around} {s : Shared} {y x : V} {u v : Value} (ry : RelV y u) (rx : RelV x v) (fy : flatV y = true) (fx : flatV x = true) : SeqAt.EqAt A s u v (eqV y x) := by
  cases y with
  | non =>
    cases ry
    cases x with
    | non => cases rx; exact SeqAt.EqAt.same _
    | bl b => cases rx; exact SeqAt.EqAt.none_bool b
    | int b => obtain ⟨t, rfl⟩ := rx; exact SeqAt.EqAt.none_int b t
    | str b => obtain ⟨t, rfl⟩ := rx; exact SeqAt.EqAt.none_str b t
    | _ => exact absurd (show false = true from fx) Bool.false_ne_true
  | bl a =>
    cases ry
    cases x with
    | non => cases rx; exact SeqAt.EqAt.bool_none a
    | bl b => cases rx; exact SeqAt.EqAt.bool_bool a b
    | int b => obtain ⟨t, rfl⟩ := rx; exact SeqAt.EqAt.bool_int a b t
    | str b => obtain ⟨t, rfl⟩ := rx; exact SeqAt.EqAt.bool_str a b t
    | _ => exact absurd (show false = true from fx) Bool.false_ne_true
  | int a =>
    obtain ⟨t', rfl⟩ := ry
    cases x with
    | non => cases rx; exact SeqAt.EqAt.int_none a t'
    | bl b => cases rx; exact SeqAt.EqAt.int_bool a t' b
    | int b => obtain ⟨t, rfl⟩ := rx; exact SeqAt.EqAt.int_int a t' b t
    | str b => obtain ⟨t, rfl⟩ := rx; exact SeqAt.EqAt.int_str a t' b t
    | _ => exact absurd (show false = true from fx) Bool.false_ne_true
  | str a =>
    obtain ⟨t', rfl⟩ := ry
    cases x with
    | non => cases rx; exact SeqAt.EqAt.str_none a t'
    | bl b => cases rx; exact SeqAt.EqAt.str_bool a t' b
    | int b => obtain ⟨t, rfl⟩ := rx; exact SeqAt.EqAt.str_int a t' b t
    | str b => obtain ⟨t, rfl⟩ := rx; exact SeqAt.EqAt.str_str a t' b t
    | _ => exact absurd (show false = true from fx) Bool.false_ne_true
  | _ => exact absurd (show false = true from fy) Bool.false_ne_true
theorem CallR.or {f : Value} {r r' : List V → Hp → VK → Prop} (h : CallR X f r) (h' : CallR X f r') : CallR X f (fun xs H Q => r xs H Q ∨ r' xs H Q) := by
  intro pins s σ H xs us Q I rs q
  rcases q with q | q
  · exact h pins s σ H xs us Q I rs q
  · exact h' pins s σ H xs us Q I rs q
theorem call_list_of : CallR X (.type "list") (fun xs H Q => ∃ p ys, xs = [.ref p] ∧ (SqL X.K H p ys ∨ SqT X.K H p ys) ∧ ∀ l, H l = none → Q (.ref l) (upd H l (.lst ys))) := by
  intro pins s σ H xs us Q I r h
  obtain ⟨p, ys, rfl, hq, q⟩ := h
  obtain ⟨u, rfl, rx⟩ := vals1 r
  cases rx
  have fin : ∀ (its : List Value), Vals ys its → ys.length ≤ sizeLine → ∀ (h' : Heap) (c' : Nat), (∀ b o', s.heap.get? b = some o' → h'.get? b = some o') →
      h'.get? s.heap.objs.size = some { cls := .type "list", dict := none, data := .seq its.toArray c', slots := #[] } → EP X pins σ Q (.ref s.heap.objs.size) { s with heap := h' } := fun its r' hz h' c' kp e =>
    ⟨.ref s.heap.objs.size, _, I.laid (t' := s.toks) kp (Nat.le_refl _) (show ObjOk X.prog X.w _ h' _ (.lst ys) from ⟨hz, its, c', r', e⟩), rfl, q _ (I.hok.fresh (Nat.le_refl _))⟩
  rcases hq with hq | hq
  · obtain ⟨its, r', pl, hz⟩ := I.list hq
    have hlen := r'.length
    obtain ⟨o, ho, hc, n, hd⟩ := pl.isList
    exact call_list_seq p (.inl rfl) ho hc hd (fun h' c' kp e => fin its r' hz h' c' kp e) (by simp only [List.size_toArray] <;> omega)
  · obtain ⟨its, r', pl, hz⟩ := I.tuple hq
    have hlen := r'.length
    obtain ⟨o, ho, hc, n, hd⟩ := pl
    exact call_list_seq p (.inr rfl) ho hc hd (fun h' c' kp e => fin its r' hz h' c' kp e) (by simp only [List.size_toArray] <;> omega)
theorem call_tuple_of : CallR X (.type "tuple") (fun xs H Q => ∃ p ys, xs = [.ref p] ∧ ((SqL X.K H p ys ∧ ∀ l, H l = none → Q (.ref l) (upd H l (.tup ys))) ∨ (SqT X.K H p ys ∧ Q (.ref p) H))) := by
  intro pins s σ H xs us Q I r h
  obtain ⟨p, ys, rfl, h⟩ := h
  obtain ⟨u, rfl, rx⟩ := vals1 r
  cases rx
  rcases h with ⟨hq, q⟩ | ⟨hq, q⟩
  · obtain ⟨its, r', pl, hz⟩ := I.list hq
    have hlen := r'.length
    refine call_tuple_list pl.isList (fun h' kp => ?_) (by simp only [List.size_toArray] <;> omega)
    have I1 : Inv X pins σ H { s with heap := h' } := I.kept (t' := s.toks) kp
    have I2 : Inv X pins σ (upd H h'.objs.size (.tup ys)) { s with heap := h'.push { cls := .type "tuple", data := .seq its.toArray } } :=
      I1.laid (t' := s.toks) (fun b o e => Heap.get?_push_of_some _ e) (Nat.le_refl _) (show ObjOk X.prog X.w _ _ _ (.tup ys) from ⟨hz, its, r', IsTup.new _ _⟩)
    exact ⟨.ref h'.objs.size, _, I2, rfl, q _ (I1.hok.fresh (Nat.le_refl _))⟩
  · obtain ⟨its, r', pl, hz⟩ := I.tuple hq
    exact call_tuple_same pl ⟨.ref p, H, I, rfl, q⟩
def tyV (K : PySem.W.Frag) (T : String) (x : V) (H : Hp) : Prop := match x with
  | .str _ => T = "str"
  | .int _ => T = "int"
  | .ref p => (T = "list" ∧ ∃ xs, SqL K H p xs) ∨ (T = "tuple" ∧ ∃ o, K.lookup p = some o ∧ o.cls = .type "tuple" ∧ o.dict = none) ∨
      (T = "dict" ∧ ((∃ kvs, H p = some (.dK kvs)) ∨ ∃ kvs, H p = some (.dT kvs))) ∨ (T = "set" ∧ ∃ S n, H p = some (.set S n))
  | _ => False
theorem tyV_is {pins : List (Addr × Obj)} {σ : St} {H : Hp} {s : Shared} {T : String} {x : V} {v : Value} (I : Inv X pins σ H s) (r : RelV x v) (ty : tyV X.K T x H) :
    s.TypeIs v T ∧ ∀ a, v = .ref a → ∃ ob, s.heap.get? a = some ob ∧ ob.dict = none := by
  cases x with
  | str z =>
    obtain ⟨t, rfl⟩ := r
    cases (show T = "str" from ty)
    exact ⟨typeIs_str s z t, fun _ e => nomatch e⟩
  | int i =>
    obtain ⟨t, rfl⟩ := r
    cases (show T = "int" from ty)
    exact ⟨typeIs_int s i t, fun _ e => nomatch e⟩
  | ref p =>
    cases r
    rcases ty with ⟨rfl, xs, hq⟩ | ⟨rfl, o, hk, hc, hd⟩ | ⟨rfl, hk⟩ | ⟨rfl, S, n, hk⟩
    · obtain ⟨its, _, pl, _⟩ := I.list hq
      refine ⟨pl.isList.typeIs, fun a e => ?_⟩
      cases e
      obtain ⟨o, n, e, c, hd, _⟩ := pl
      exact ⟨o, e, hd⟩
    · refine ⟨⟨o, I.kIn p o hk, hc⟩, fun a e => ?_⟩
      cases e
      exact ⟨o, I.kIn _ o hk, hd⟩
    · have z : ∃ o, s.heap.get? p = some o ∧ o.ExactDict := by
        rcases hk with ⟨kvs, hk⟩ | ⟨kvs, hk⟩
        · obtain ⟨_, _, _, _, o, _, _, e, ex, _⟩ := I.hok p _ hk
          exact ⟨o, e, ex⟩
        · obtain ⟨_, _, _, _, o, _, _, e, ex, _⟩ := I.hok p _ hk
          exact ⟨o, e, ex⟩
      obtain ⟨o, e, ex⟩ := z
      refine ⟨⟨o, e, ex.1⟩, fun a e2 => ?_⟩
      cases e2
      exact ⟨o, e, ex.2.1⟩
    · obtain ⟨o, _, _, _, e, ex, _⟩ := I.hok p _ hk
      refine ⟨⟨o, e, ex.1⟩, fun a e2 => ?_⟩
      cases e2
      exact ⟨o, e, ex.2.1⟩
  | _ => exact False.elim ty
def tBM (K : PySem.W.Frag) (T : String) (r : V → List V → Hp → VK → Prop) (to : TE) (t : TA) : TE := fun σ H Q => to σ H fun x H1 => tyV K T x H1 ∧ t σ H1 fun xs H2 => r x xs H2 Q
variable {o e : Expr} {es : List Expr} {to : TE} {t : TA} {name : Str} {apos cpos : Pos} {T id : String} {r : V → List V → Hp → VK → Prop}
theorem pe_bm (pa : PlainAttrs T) (slot : Slot T name id) (hty : typeOf (.builtin id) = pure (.type "method_descriptor")) (hm : MtR X id r) (ho : PE X o to) (ha : PA X (e :: es) t)
    (hbase : attributeBase o name X.env (eval o X.env) = eval o X.env := by rfl)
    (hfew : ((backTo cpos (starEach (e :: es) X.env)).all (fun x => !x.1) && (backToKw cpos (keywordEach [] X.env)).all (fun x => x.1.isSome)
      && decide ((e :: es).length + ([] : List Keyword).length + (if ([] : List Keyword).isEmpty then 0 else 1) < 30)) = true := by rfl)
    (hline : (apos.endLine == cpos.line) = true := by rfl) (hs : starEach (e :: es) X.env = (false, eval e X.env) :: starEach es X.env := by rfl) (hplain : (backTo cpos (starEach es X.env)).any (·.1) = false := by rfl) :
    PE X (.Call (.Attribute o name apos) (e :: es) [] cpos) (tBM X.K T r to t) := by
  intro pins s σ H Q I h
  refine wpAny_Call_method_late hbase hfew hline rfl (thn (ho pins s σ H _ I h) fun v s1 ⟨x, H1, I1, r1, ty, q1⟩ => ?_)
  obtain ⟨h1, h2⟩ := tyV_is I1 r1 ty
  refine ⟨T, id, pa, slot, hty, h1, h2, ?_⟩
  have hA := ha cpos pins s1 σ H1 _ I1 q1
  rw [hs] at hA ⊢
  refine Calls.callWith_builtin (by show (false || (backTo cpos (starEach es X.env)).any (·.1)) = false; rw [hplain] <;> rfl) (Calls.evalArgs_plain ?_)
  exact thn hA fun us s2 ⟨vs, H2, I2, r2, q2⟩ => hm pins s2 σ H2 x vs v us Q I2 r1 r2 q2
end
end L2
namespace L2
open PySem PySem.Spec PyProof.Rows
def MtM (X : Cx) (id : String) (r : V → List V → Hp → VK → Prop) : Prop :=
  ∀ (pins : List (Addr × Obj)) (s : Shared) (σ : St) (H : Hp) (x : V) (xs : List V) (v : Value) (us : List Value) (Q : VK), Inv X pins σ H s → RelV x v → Vals xs us → r x xs H Q →
    wpAny (model X.prog X.w) X.A (call (.builtin id) (v :: us)) (EP X pins σ Q) X.xe s
theorem Vals.one : ∀ {x : V} {us : List Value}, Vals [x] us → ∃ u, us = [u] ∧ RelV x u
  | _, _, .cons r .nil => ⟨_, rfl, r⟩
theorem Vals.two : ∀ {x y : V} {us : List Value}, Vals [x, y] us → ∃ u v, us = [u, v] ∧ RelV x u ∧ RelV y v
  | _, _, _, .cons r (.cons q .nil) => ⟨_, _, rfl, r, q⟩
theorem Vals.zero : ∀ {us : List Value}, Vals [] us → us = []
  | _, .nil => rfl
theorem Vals.rep {xs : List V} {us : List Value} (h : Vals xs us) : ∀ k : Nat, Vals (List.replicate k xs).flatten (List.replicate k us).flatten
  | 0 => .nil
  | k + 1 => by
    rw [List.replicate_succ, List.replicate_succ, List.flatten_cons, List.flatten_cons]
    exact Vals.append h (Vals.rep h k)
theorem foldl_rep (its : List Value) : ∀ (k : Nat) (acc : List Value),
    List.foldl (fun x1 x2 => x1 ++ x2) acc.toArray (List.replicate k its.toArray) = (acc ++ (List.replicate k its).flatten).toArray
  | 0, acc => by simp
  | k + 1, acc => by
    have e : acc.toArray ++ its.toArray = (acc ++ its).toArray := by simp
    have e2 : (acc ++ its) ++ (List.replicate k its).flatten = acc ++ (List.replicate (k + 1) its).flatten := by
      rw [List.replicate_succ, List.flatten_cons, List.append_assoc]
    rw [← e2, ← foldl_rep its k (acc ++ its), ← e, List.replicate_succ, List.foldl_cons]
section
variable {X : Cx} {pins : List (Addr × Obj)} {σ : St} {H : Hp} {s : Shared} {l b : Addr} {xs ys zs : List V}
theorem Inv.lset {its its' : List Value} {n : Nat} {f : Array Value → Array Value} {t' : Nat} (I : Inv X pins σ H s) (hH : H l = some (.lst xs))
    (e : s.heap.get? l = some { cls := .type "list", data := .seq its.toArray n }) (hf : f its.toArray = its'.toArray) (hv : Vals ys its') (hz : ys.length ≤ sizeLine) :
    Inv X pins σ (upd H l (.lst ys)) { s with heap := s.heap.update l (Obj.mapSeq f), toks := t' } := by
  have q := PySem.IsL.update e f
  rw [hf] at q
  refine I.write (x := l) (e := l) (by rw [hH]; exact trivial) (.inl rfl) (fun b' u hb hu => (Heap.get?_update_other s.heap (Obj.mapSeq f) (Ne.symm hb)).trans hu) ⟨_, q⟩ ?_
  exact ⟨hz, its', _, hv, q⟩
theorem Inv.lnew {its : List Value} {t' : Nat} (I : Inv X pins σ H s) (hv : Vals ys its) (hz : ys.length ≤ sizeLine) :
    Inv X pins σ (upd H s.heap.objs.size (.lst ys)) { s with heap := s.heap.push { cls := .type "list", data := .seq its.toArray }, toks := t' } :=
  I.laid (fun _ _ q => Heap.get?_push_of_some _ q) (Nat.le_refl _) ⟨hz, its, 0, hv, Heap.get?_push_size _ rfl⟩
theorem Inv.fresh (I : Inv X pins σ H s) : H s.heap.objs.size = none := I.hok.fresh (Nat.le_refl _)
theorem Inv.lstM (I : Inv X pins σ H s) (hH : H l = some (.lst xs)) : xs.length ≤ sizeLine ∧ ∃ (its : List Value) (n : Nat), Vals xs its ∧ xs.length = its.length ∧ s.heap.get? l = some { cls := .type "list", data := .seq its.toArray n } := by
  obtain ⟨z, its, n, r, e⟩ := I.hok l _ hH
  exact ⟨z, its, n, r, r.length, e⟩
theorem notLongL {n : Nat} (h : n ≤ sizeLine) : Builtin.List.listTooLong n = false := by
  unfold Builtin.List.listTooLong
  exact decide_eq_false (by omega)
end
section
variable {X : Cx}
def rAppend : V → List V → Hp → VK → Prop := fun x vs H Q => ∃ l xs y, x = .ref l ∧ vs = [y] ∧ H l = some (.lst xs) ∧ xs.length < sizeLine ∧ Q .non (upd H l (.lst (xs ++ [y])))
theorem mt_append : MtM X "list.append" rAppend := by
  intro pins s σ H x vs v us Q I rx rv h
  obtain ⟨l, xs, y, rfl, rfl, hH, hz, q⟩ := h
  cases rx
  obtain ⟨u, rfl, ru⟩ := rv.one
  obtain ⟨z, its, n, r, hl, e⟩ := I.lstM hH
  refine call_meets F.slot_list_append ⟨_, e, rfl⟩ F.entry_list_append (F.args_list_append_2 _ _) (PySem.list_append l its.toArray n u (by rw [List.size_toArray]; omega)) ⟨e, ?_⟩
  refine ⟨.non, _, I.lset (its' := its ++ [u]) hH e (by simp) (r.append (.cons ru .nil)) ?_, rfl, q⟩
  rw [List.length_append, List.length_singleton]
  omega
def rExtend : V → List V → Hp → VK → Prop := fun x vs H Q => ∃ l b xs zs, x = .ref l ∧ vs = [.ref b] ∧ H l = some (.lst xs) ∧ H b = some (.lst zs) ∧ xs.length + zs.length ≤ sizeLine ∧ Q .non (upd H l (.lst (xs ++ zs)))
theorem mt_extend : MtM X "list.extend" rExtend := by
  intro pins s σ H x vs v us Q I rx rv h
  obtain ⟨l, b, xs, zs, rfl, rfl, hH, hB, hz, q⟩ := h
  cases rx
  obtain ⟨u, rfl, ru⟩ := rv.one
  cases ru
  obtain ⟨z, its, n, r, hl, e⟩ := I.lstM hH
  obtain ⟨z2, its2, n2, r2, hl2, e2⟩ := I.lstM hB
  have hsz : its.toArray.size + its2.toArray.size ≤ sizeLine := by rw [List.size_toArray, List.size_toArray]; omega
  have hlong : ¬ (!its.toArray.isEmpty && Builtin.List.listTooLong (its.toArray.size + its2.toArray.size)) = true := by
    rw [notLongL hsz, Bool.and_false]
    exact Bool.false_ne_true
  refine call_meets F.slot_list_extend ⟨_, e, rfl⟩ F.entry_list_extend (F.args_list_extend_2 _ _)
    (AutoSeq1.list_extend_list_list_0 l its.toArray n b its2.toArray n2 hlong (by rw [List.size_toArray]; omega) (by omega)) ⟨e, e2, ?_⟩
  refine ⟨.non, _, I.lset (its' := its ++ its2) hH e (by simp) (r.append r2) ?_, rfl, q⟩
  rw [List.length_append]
  omega
def rCat : R2 := fun x y H Q => ∃ l b xs zs, x = .ref l ∧ y = .ref b ∧ H l = some (.lst xs) ∧ H b = some (.lst zs) ∧ xs.length + zs.length ≤ sizeLine ∧ ∀ p, H p = none → Q (.ref p) (upd H p (.lst (xs ++ zs)))
theorem op_cat : OpR X (binaryOp .Add) rCat := by
  intro pins s σ H x y v u Q I rx ry h
  obtain ⟨l, b, xs, zs, rfl, rfl, hH, hB, hz, q⟩ := h
  cases rx
  cases ry
  obtain ⟨z, its, n, r, hl, e⟩ := I.lstM hH
  obtain ⟨z2, its2, n2, r2, hl2, e2⟩ := I.lstM hB
  refine PySem.P.add_list e e2 ?_ (by rw [List.size_toArray, List.size_toArray]; omega)
  have ea : its.toArray ++ its2.toArray = (its ++ its2).toArray := by simp
  rw [ea]
  exact ⟨.ref _, _, I.lnew (t' := s.toks) (r.append r2) (by rw [List.length_append]; omega), rfl, q _ I.fresh⟩
def rRep : R2 := fun x y H Q => ∃ l k xs, x = .ref l ∧ y = .int k ∧ H l = some (.lst xs) ∧ -(2 ^ 63) ≤ k ∧ k < 2 ^ 63 ∧ xs.length * k.toNat ≤ sizeLine ∧
  ∀ p, H p = none → Q (.ref p) (upd H p (.lst (List.replicate k.toNat xs).flatten))
theorem len_rep {α : Type} (xs : List α) (k : Nat) : (List.replicate k xs).flatten.length = k * xs.length := by
  induction k with
  | zero => simp
  | succ k ih => rw [List.replicate_succ, List.flatten_cons, List.length_append, ih, Nat.succ_mul, Nat.add_comm]
theorem op_rep : OpR X (binaryOp .Mult) rRep := by
  intro pins s σ H x y v u Q I rx ry h
  obtain ⟨l, k, xs, rfl, rfl, hH, h1, h2, hz, q⟩ := h
  cases rx
  obtain ⟨t, rfl⟩ := ry
  obtain ⟨z, its, n, r, hl, e⟩ := I.lstM hH
  have hlen : its.toArray.size * k.toNat ≤ sizeLine := by rw [List.size_toArray, ← hl]; exact hz
  have hcap : ¬ its.toArray.size * k.toNat > (2 ^ 63 - 1) / 8 := by
    have : (sizeLine : Nat) ≤ (2 ^ 63 - 1) / 8 := by decide
    omega
  have hfit : ¬ (!Builtin.List.listFitsIndex k) = true := by
    rw [fitsIndex_both h1 h2]
    exact Bool.false_ne_true
  have hlong : ¬ Builtin.List.listTooLong (its.toArray.size * k.toNat) = true := by
    rw [notLongL hlen]
    exact Bool.false_ne_true
  have hnew : List.foldl (fun x1 x2 => x1 ++ x2) #[] (List.replicate (if its.toArray.isEmpty = true then 0 else k.toNat) its.toArray) = (List.replicate k.toNat its).flatten.toArray := by
    have f0 : ∀ m : Nat, List.foldl (fun x1 x2 => x1 ++ x2) #[] (List.replicate m its.toArray) = (List.replicate m its).flatten.toArray := fun m => by
      have := foldl_rep its m []
      rw [List.nil_append] at this
      exact this
    rw [f0]
    cases its with
    | nil => simp
    | cons a r' => rw [if_neg (by simp)]
  refine wpAny_binaryOp_repeat_ref (T := "list") (U := "int") (by decide) ⟨_, e, rfl⟩ (fun s' => typeIs_int s' k t) noFill_list_mul F.fills_int_mul F.slot_int_rmul repeat_list F.slot_int_index.lookup
    (call_meets F.slot_int_rmul (typeIs_int s k t) F.entry_int_rmul (F.args_int_rmul_2 _ _) (int___rmul___int_list k t l its.toArray n)
      ⟨e, rfl, ⟨_, e, rfl⟩, call_meets F.slot_list_mul ⟨_, e, rfl⟩ F.entry_list_mul (F.args_list_mul_2 _ _) (AutoListH.list___mul___list_int_3 l its.toArray n k t hfit hcap hlong) ⟨e, ?_⟩⟩)
  rw [hnew]
  exact ⟨.ref _, _, I.lnew (t' := s.toks) (r.rep k.toNat) (by rw [len_rep, Nat.mul_comm]; exact hz), rfl, q _ I.fresh⟩
end
section
variable {prog : Program} {w : World} {A : Around} {E : Value → Shared → Prop} {s : Shared}
end
section
variable {X : Cx}
end
end L2
namespace Att
open PySem PySem.W PySem.Calls PyProof.Rows
theorem ints_of_wellAll {P : Params} {h : Heap} : ∀ (ns : List Int) (vs : List Value), WellAll P h vs (ns.map WData.int) → IntsAre vs ns := by
  intro ns
  induction ns with
  | nil =>
    intro vs w
    rw [List.map_nil] at w
    cases w
    exact .nil
  | cons n ns ih =>
    intro vs w
    rw [List.map_cons] at w
    cases w with
    | cons a b =>
      cases a
      exact .cons _ _ (ih _ b)
theorem script_of {l : OpenLaw} {n : Nat} (hn : l.most = some n) {P : Params} {h : Heap} {args : List WData} {vals : List Value}
    (hpre : l.row.toRowW.claim.pre args = true) (hwl : WellAll P h vals args) :
    ∃ a vs ns, vals = [Value.ref a] ∧ args = [WData.list (ns.map WData.int)] ∧ h.get? a = some { cls := .type "list", data := .seq vs.toArray } ∧ IntsAre vs ns ∧ ns.length ≤ n := by
  have hsh : WShape.hasAll [] args [.list .int] = true := (pre_splitW hpre).1
  have hc : l.pre.holds [] { args := args } = true := (pre_splitW hpre).2
  obtain ⟨d, r, rfl, h1, h2⟩ := hasAllW_cons hsh
  obtain rfl := hasAllW_nil h2
  obtain ⟨xs, rfl, h3⟩ := hasW_list h1
  obtain ⟨ns, rfl⟩ := items_int h3
  have hlen : ns.length ≤ n := by
    unfold OpenLaw.pre at hc
    have h4 : (WTm.not (.lt (.lit (.int (n : Int))) (.len (.arg 0)))).holds [] { args := [.list (ns.map .int)] } = true := by
      have h4 := (holds_andW hc).1
      rw [hn] at h4
      exact h4
    have h5 := condW_of h4 (w_not (w_lt w_lit (w_len_list (w_arg rfl))))
    rw [List.length_map] at h5
    refine Nat.le_of_not_lt fun q => ?_
    have q' : (n : Int) < ((ns.length : Nat) : Int) := by omega
    first
      | (rw [decide_eq_true q'] at h5; exact absurd h5 (by decide))
      | (simp at h5; omega)
  cases hwl with
  | cons w1 w2 =>
    cases w2
    cases w1 with
    | list ho hall => exact ⟨_, _, ns, rfl, rfl, ho, ints_of_wellAll ns _ hall, hlen⟩
theorem post_true (l : OpenLaw) (args : List WData) : l.row.toRowW.claim.post args (.bool true) args = true :=
  postW_of (r := l.row.toRowW) (X := (true == true))
    (show WShape.has [] (.bool true) .bool = true by first | rfl | decide | simp [WShape.has, WShape.arms, WShape.armsAll])
    (show (WTm.eq .res (.lit (.bool true))).value [] { args := args, res := some (.bool true), after := args } = some (.bool (true == true)) from w_eq_bool (w_res rfl) w_lit) rfl
theorem attach_call {l : OpenLaw} {n : Nat} {q : Program} {loose : List Str} {XP : (Str → Option Value) → Heap → Prop} {YP : World → Heap → Prop} {d : DefRec}
    (hn : l.most = some n) (hdf : d.params.defaults = [])
    (call : ∀ (w : World) (s₀ s₁ : Shared) (mg mb : Str → Option Value) (fa : Addr) (o : Obj) (pm cd doc : Value) (a : Addr) (vs : List Value) (ns : List Int),
      Ground q loose [] XP w s₀ mg mb s₁.heap → YP w s₁.heap →
      s₁.heap.get? fa = some o → o.data = .func (docDef d.name d.params d.body d.scope pm cd doc) → s₁.heap.CodeRec cd d.name → mg d.name = some (.ref fa) →
      s₁.heap.get? a = some { cls := .type "list", data := .seq vs.toArray } → IntsAre vs ns → ns.length ≤ n → s₁.gens = #[] →
      codeAny (model l.prog w) callerA (.call (.ref fa) ⟨[.ref a], []⟩) (fun r s' => r = .ok (.ret (.bool true)) ∧ OldK s₁.heap s'.heap ∧ s'.os = s₁.os ∧ AllBare s'.gens) s₁) :
    WalkO q loose XP YP l.row.toRowW d [] (fun f vs => PySem.call f vs) := by
  intro w s₀ s₁ mg mb G Y fa o pm cd doc dV kV ho hd hcd hD hmg hg args vals as hpre hlay hrd hwl hlo
  obtain rfl : dV = .none := Dflts.none hD hdf
  obtain rfl : kV = .none := Dflts.noKw hD
  obtain ⟨a, vs, ns, rfl, rfl, hobj, hints, hlen⟩ := script_of hn hpre hwl
  refine enter_call (codeAny_mono (call w s₀ s₁ mg mb fa o pm cd doc a vs ns G Y ho (fd_plain hd) hcd hmg hobj hints hlen hg) fun r s' hq => ?_)
  obtain ⟨rfl, h2, h3, h4⟩ := hq
  exact ⟨.inl ⟨.bool true, .bool true, [], rfl, fun _ => rfl, .bool true, post_true l _, fun _ => ⟨List.Pairwise.nil, fun _ hm => (nomatch hm)⟩⟩, h2, h3, h4⟩
section
variable {prog : Program} {w : World} {A : Around} {E : Value → Shared → Prop} {s : Shared} {K : Frag}
end
end Att
namespace L2
open PySem PySem.Spec PyProof.Rows
theorem vals_ints : ∀ {vs : List Value} {ns : List Int}, IntsAre vs ns → Vals (ns.map V.int) vs
  | _, _, .nil => .nil
  | _, _, .cons n t h => .cons ⟨t, rfl⟩ (vals_ints h)
def Only (H : Hp) : Prop := ∀ b, H b = none ∨ ∃ o xs, H b = some (.frz o (.lst xs))
theorem law_call {P : Program} {w : World} {K : PySem.W.Frag} {mg mb : Str → Option Value} {CX : CXT} {k : Nat} {fa a : Addr} {fd : FuncData} {x : Str} {sp : Sp} {s₁ : Shared} {vs : List Value} {ns : List Int}
    (KX : K.In s₁.heap) (hns : s₁.heap.Ns mainGlobals mg) (hb : s₁.heap.Ns builtinsNs mb) (hbb : ∀ x : Str, x ≠ "__name__" → mb x = bootBuiltins x) (hlim : s₁.heap.NoLimit) (hg : s₁.gens = #[])
    (ha : s₁.heap.get? a = some { cls := .type "list", data := .seq vs.toArray }) (hi : IntsAre vs ns) (hl : ns.length ≤ sizeLine) (hr : Room k callerA)
    (F : ∀ base : Heap, K.In base → base.Ns mainGlobals mg → FnOk P w K mg base CX k fa fd [x] sp) (hbind : ∀ (s : Shared) (u : Value), BindsTo s fd ⟨[u], []⟩ [(x, u)])
    (hsp : ∀ H : Hp, Only H → SqL K H a (ns.map V.int) → sp [.ref a] H (fun v _ => v = .bl true) fun _ _ _ => False)
    (hCX : ∀ H e s', CX [] H s₁ (fun _ _ _ => False) e s' → False) :
    codeAny (model P w) callerA (.call (.ref fa) ⟨[.ref a], []⟩) (fun r s' => r = .ok (.ret (.bool true)) ∧ OldK s₁.heap s'.heap ∧ s'.os = s₁.os ∧ AllBare s'.gens) s₁ := by
  have rv := vals_ints hi
  have lenV := hi.length
  have core : ∀ H : Hp, Only H → SqL K H a (ns.map V.int) → HOk P w H s₁.heap → (∀ b, H b ≠ none → b = a) → (H a ≠ none → K.lookup a = none) →
      codeAny (model P w) callerA (.call (.ref fa) ⟨[.ref a], []⟩) (fun r s' => r = .ok (.ret (.bool true)) ∧ OldK s₁.heap s'.heap ∧ s'.os = s₁.os ∧ AllBare s'.gens) s₁ := by
    intro H hO hS hok hA hK
    have base_of : ∀ {b : Addr} {o : Obj}, s₁.heap.get? b = some o → H b = none → (hidT s₁.heap H).get? b = some o := fun e n => hidT_get e n
    have noA : ∀ {b : Addr} {o : Obj} {es : Array DictEntry} {ep : Nat}, s₁.heap.get? b = some o → o.data = .dict es ep → H b = none := fun {b o es ep} e d => by
      cases q : H b with
      | none => rfl
      | some u =>
        have e' : b = a := hA b (by rw [q]; simp)
        subst e'
        rw [ha] at e; cases e
        have d' : Data.seq vs.toArray _ = Data.dict es ep := d
        cases d'
    have nsK : ∀ {b : Addr} {m : Str → Option Value}, s₁.heap.Ns b m → (hidT s₁.heap H).Ns b m := fun {b m} ⟨o, es, ep, e, d, r⟩ => ⟨o, es, ep, base_of e (noA e d), d, r⟩
    have hKb : K.In (hidT s₁.heap H) := fun b o e => base_of (KX b o e) (by
      cases q : H b with
      | none => rfl
      | some u =>
        have e' : b = a := hA b (by rw [q]; simp)
        subst e'
        rw [hK (by rw [q]; simp)] at e; cases e)
    have hM : Mod K mg (hidT s₁.heap H) := ⟨hKb, nsK hns, ⟨mb, nsK hb, hbb⟩, let ⟨mc, h1, h2⟩ := hlim; ⟨mc, nsK h1, h2⟩⟩
    have e0 : Env0 P w K mg (hidT s₁.heap H) callerA [] s₁ H := ⟨rfl, hM, fun b o e => of_hidT e, Nat.le_of_eq (hidT_size _ _), trivial, fun b hb => absurd (show b ∈ ([] : List Addr) from hb) (by simp), hok, .of_eq hg⟩
    refine codeAny_mono ((F _ hKb (nsK hns)).run callerA [] s₁ H ⟨[.ref a], []⟩ [.ref a] [.ref a] _ _ hr e0 (hbind s₁ (.ref a)) (.cons rfl .nil) (hsp H hO hS)) fun r s' h => ?_
    cases r with
    | error e => exact (hCX H e s' h).elim
    | ok fl =>
      cases fl with
      | next => exact False.elim h
      | brk => exact False.elim h
      | cont => exact False.elim h
      | ret u =>
        obtain ⟨v, H', os, bare, un, hok', r', q⟩ := h
        have q' : v = .bl true := q
        subst q'
        obtain rfl : u = Value.bool true := r'
        refine ⟨rfl, OldK.of_keep fun b o e => ?_, os, bare⟩
        cases q : H b with
        | none => exact un.keep b o e q (by intro z; exact absurd (show b ∈ ([] : List Addr) from z) (by simp)) (by simp)
        | some u =>
          rcases hO b with z | ⟨ob, xs, z⟩
          · rw [q] at z; cases z
          · have z2 := un.frzs b ob _ z
            obtain ⟨e1, _⟩ := hok b _ z
            obtain ⟨e2, _⟩ := hok' b _ z2
            rw [e] at e1; cases e1
            exact e2
  cases hk : K.lookup a with
  | some o =>
    have e := KX a o hk
    rw [ha] at e
    cases e
    refine core (fun _ => none) (fun _ => .inl rfl) (.inr ⟨_, vs.toArray, _, hk, rfl, rfl, rfl, by rw [List.size_toArray, lenV]; exact hl, by simpa using rv⟩) (fun b u z => by have z' : (none : Option HO) = some u := z; cases z') (fun b z => absurd rfl z) fun z => absurd rfl z
  | none =>
    refine core (fun b => if b = a then some (.frz { cls := .type "list", data := .seq vs.toArray } (.lst (ns.map V.int))) else none) (fun b => ?_) (.inl (.inr ⟨{ cls := .type "list", data := .seq vs.toArray }, if_pos rfl⟩)) (fun b u z => ?_) (fun b z => ?_) fun _ => hk
    · by_cases hb : b = a
      · exact .inr ⟨_, _, if_pos hb⟩
      · exact .inl (if_neg hb)
    · by_cases hb : b = a
      · have z' := (if_pos hb).symm.trans z
        cases z'
        subst hb
        exact ⟨ha, by rw [List.length_map]; exact hl, vs, _, rv, ha⟩
      · have z' := (if_neg hb).symm.trans z
        cases z'
    · by_cases hb : b = a
      · exact hb
      · exact absurd (if_neg hb) z
end L2
namespace L2
open PySem PySem.Spec PyProof.Rows
theorem walk_of {l : PySem.W.OpenLaw} {n k : Nat} {q : Program} {loose : List Str} {XP : (Str → Option Value) → Heap → Prop} {YP : World → Heap → Prop} {d : DefRec} {K : Params → PySem.W.Frag} {CX : World → CXT} {sp : World → Sp} {x : Str}
    (hn : l.most = some n) (hn2 : n ≤ sizeLine) (hdf : d.params.defaults = []) (hr : Room k callerA)
    (hY : ∀ (w : World) (h : Heap), YP w h → (K w.params).In h)
    (F : ∀ (w : World) (mg : Str → Option Value) (fa : Addr) (h : Heap), (K w.params).In h → h.Ns mainGlobals mg → mg d.name = some (.ref fa) →
      ∃ fd : FuncData, (∀ (s : Shared) (u : Value), BindsTo s fd ⟨[u], []⟩ [(x, u)]) ∧
        ∀ base : Heap, (K w.params).In base → base.Ns mainGlobals mg → FnOk l.prog w (K w.params) mg base (CX w) k fa fd [x] (sp w))
    (hsp : ∀ (w : World) (H : Hp) (a : Addr) (ns : List Int), ns.length ≤ n → Only H → SqL (K w.params) H a (ns.map V.int) → sp w [.ref a] H (fun v _ => v = .bl true) fun _ _ _ => False)
    (hCX : ∀ (w : World) (H : Hp) (s : Shared) (e : Value) (s' : Shared), CX w [] H s (fun _ _ _ => False) e s' → False) :
    PySem.W.WalkO q loose XP YP l.row.toRowW d [] (fun f vs => PySem.call f vs) := by
  refine Att.attach_call hn hdf fun w s₀ s₁ mg mb fa o pm cd doc a vs ns G Y ho hd hcd hmg hobj hints hlen hg => ?_
  have KX := hY w _ Y
  obtain ⟨fd, hb, hF⟩ := F w mg fa _ KX G.T.g hmg
  exact law_call KX G.T.g G.T.b G.T.builtins G.T.nolimit hg hobj hints (Nat.le_trans hlen hn2) hr hF hb (fun H hO hS => hsp w H a ns hlen hO hS) fun H e s' => hCX w H s₁ e s'
end L2
namespace L2
open PySem PySem.Spec PyProof.Rows
abbrev CX0 : CXT := fun _ _ _ _ _ _ => False
structure Fun (K : PySem.W.Frag) (x qual : Str) (st : Stmt) (f : Addr) (fd : FuncData) : Prop where
  ex : ∃ (oc : Value) (od : Option Addr) (kV doc pm : Value) (an : Option Addr) (cdv ct : Value) (osl : Array (Option Value)),
    fd = PySem.W.fnOf x qual (defArgs st) (defBody st) (defScope st) .none kV doc pm an cdv ct ∧ K.lookup f = some ⟨oc, od, .func fd, osl⟩ ∧ PySem.W.codeIn K cdv qual = true
  kp : PySem.W.keepIn K (.ref f) = true
section
variable {P : Program} {w : World} {K : PySem.W.Frag} {mg : Str → Option Value} {base : Heap}
theorem Fun.ok {x qual : Str} {st : Stmt} {f : Addr} {fd : FuncData} {N ps : List Str} {k : Nat} {sp : Sp} (F : Fun K x qual st f fd) (S : FnScope N ps (defScope st)) (len : ∀ vs H Q E, sp vs H Q E → vs.length = ps.length)
    (hbody : ∀ (cdv : Value) (A : Around) (outer : List Env) (s : Shared) (H : Hp) (vs : List V) (Q : VK) (E : XK), Room k (A.deeper (envOfC qual (defScope st) s.heap.objs.size f cdv)) → sp vs H Q E →
      ∃ t, PSs (cxOf CX0 P w K mg base N qual (defScope st) f cdv A outer s H E).nox (defBody st) t ∧ t { nx := fun _ H' => Q .non H', rt := Q } (start N vs) H) : FnOk P w K mg base CX0 (k + 1) f fd ps sp := by
  obtain ⟨oc, od, kV, doc, pm, an, cdv, ct, osl, rfl, lk, hcd⟩ := F.ex
  refine fn_of lk hcd S len fun A outer s H vs Q E hr hsp => ?_
  obtain ⟨t, h, q⟩ := hbody cdv A outer s H vs Q E hr hsp
  exact ⟨t, h.nox, q⟩
theorem Fun.binds {x qual : Str} {st : Stmt} {f : Addr} {fd : FuncData} {ps : List Str} (F : Fun K x qual st f fd)
    (h : ∀ (kV doc pm : Value) (an : Option Addr) (cdv ct : Value) (us : List Value), us.length = ps.length → bindArgs (PySem.W.fnOf x qual (defArgs st) (defBody st) (defScope st) .none kV doc pm an cdv ct) ⟨us, []⟩ = pure (ps.zip us)) : Binds K fd ps [] := by
  obtain ⟨oc, od, kV, doc, pm, an, cdv, ct, osl, rfl, lk, hcd⟩ := F.ex
  exact .all (h kV doc pm an cdv ct)
theorem fun_mk {x qual : Str} {st : Stmt} {f : Addr} {oc : Value} {od an : Option Addr} {osl : Array (Option Value)} {kV doc pm cdv ct : Value} (l : K.lookup f = some ⟨oc, od, .func (PySem.W.fnOf x qual (defArgs st) (defBody st) (defScope st) .none kV doc pm an cdv ct), osl⟩)
    (c : PySem.W.codeIn K cdv qual = true) (k : PySem.W.keepIn K (.ref f) = true) : Fun K x qual st f (PySem.W.fnOf x qual (defArgs st) (defBody st) (defScope st) .none kV doc pm an cdv ct) := ⟨⟨oc, od, kV, doc, pm, an, cdv, ct, osl, rfl, l, c⟩, k⟩
end
section
variable {X : Cx}
end
theorem iteF {A B : Prop} (h : B) : if false = true then A else B := by
  rw [if_neg Bool.false_ne_true]
  exact h
theorem iteT {A B : Prop} (h : A) : if true = true then A else B := by
  rw [if_pos rfl]
  exact h
def Same (H H' : Hp) : Prop := ∀ b o, H b = some o → H' b = some o
theorem Same.refl (H : Hp) : Same H H := fun _ _ h => h
theorem Same.trans {H H1 H2 : Hp} (a : Same H H1) (b : Same H1 H2) : Same H H2 := fun c o h => b c o (a c o h)
theorem Same.free {H H' : Hp} (e : Same H H') {l : Addr} (h : H' l = Option.none) : H l = Option.none := by
  cases q : H l with
  | none => rfl
  | some o =>
    rw [e l o q] at h
    cases h
theorem Same.seq {K : PySem.W.Frag} {H H' : Hp} {a : Addr} {xs : List V} (e : Same H H') (h : SqL K H a xs) : SqL K H' a xs := by
  rcases h with (h | ⟨o, h⟩) | h
  · exact .inl (.inl (e _ _ h))
  · exact .inl (.inr ⟨o, e _ _ h⟩)
  · exact .inr h
end L2
set_option Elab.async false
set_option linter.all false
set_option maxRecDepth 100000
namespace L2
open PySem PySem.Spec PyProof.Rows
def dTfree : HO → Bool
  | .dT _ => false
  | .frz _ u => dTfree u
  | _ => true
def NoT (H : Hp) : Prop := ∀ a o, H a = some o → dTfree o = true
def plainO : HO → Bool
  | .lst _ => true
  | .tup _ => true
  | .dK _ => true
  | .rng _ _ => true
  | _ => false
structure Gc (H G H' : Hp) : Prop where
  a : Same H G
  b : Same G H'
  c : ∀ p o, G p = some o → H p = some o ∨ plainO o = true
section
variable {P : Program} {w : World} {H G H' : Hp} {h h' : Heap} {a : Addr} {o : HO}
theorem ObjOk.gc (n : dTfree o = true) (x0 : ObjOk P w H h a o) (x : ObjOk P w H' h' a o) : ObjOk P w H h' a o := by
  induction o with
  | ins C dx fs => exact ⟨x0.1, x.2⟩
  | dT kvs => cases n
  | frz ob u ih => exact ⟨x.1, ih n x0.2 x.2⟩
  | _ => exact x
theorem ObjOk.plain (n : plainO o = true) (x : ObjOk P w H' h' a o) : ObjOk P w H h' a o := by
  cases o with
  | lst xs => exact x
  | tup xs => exact x
  | dK kvs => exact x
  | rng lo hi => exact x
  | _ => cases n
theorem HOk.gc (n : NoT H) (x0 : HOk P w H h) (x : HOk P w H' h') (g : Gc H G H') : HOk P w G h' := fun a o e => by
  rcases g.c a o e with q | q
  · refine (((x0 a o q).gc (n a o q) (x a o (g.b a o e)))).stay (fun _ _ _ z => z) (fun b z => g.a _ _ z) fun b xs z => g.a _ _ z
  · exact (x a o (g.b a o e)).plain q
theorem Same.none_of (s : Same H H') {b : Addr} (e : H' b = none) : H b = none := s.free e
theorem Un.gc {fs ex : List Addr} (u : Un fs ex H H' h h') (g : Gc H G H') : Un fs ex H G h h' :=
  ⟨u.keep, u.slot, fun b o q n hx => g.b.free (u.free b o q n hx), u.there, fun b xs q => g.a _ _ q, fun b o x q => g.a _ _ q, fun b ps q => ⟨#[], by rw [Array.append_empty]; exact g.a _ _ q⟩⟩
theorem Gc.refl : Gc H H H := ⟨Same.refl H, Same.refl H, fun _ _ e => .inl e⟩
theorem Gc.none (s : Same H H') : Gc H H H' := ⟨Same.refl H, s, fun _ _ e => .inl e⟩
theorem same_upd {p : Addr} (o : HO) (hp : H p = Option.none) : Same H (upd H p o) := fun b u e => by rw [upd_ne (ne_of_none e hp)]; exact e
theorem Gc.one {p : Addr} (s : Same H H') (hp : H p = Option.none) (e : H' p = some o) (n : plainO o = true) : Gc H (upd H p o) H' :=
  ⟨same_upd o hp, fun b u z => by
    by_cases hb : b = p
    · subst hb; rw [upd_same] at z; cases z; exact e
    · rw [upd_ne hb] at z; exact s b u z, fun b u z => by
    by_cases hb : b = p
    · subst hb; rw [upd_same] at z; cases z; exact .inr n
    · rw [upd_ne hb] at z; exact .inl z⟩
theorem NoT.upd {p : Addr} (n : NoT H) (d : dTfree o = true) : NoT (upd H p o) := fun b u z => by
  by_cases hb : b = p
  · subst hb; rw [upd_same] at z; cases z; exact d
  · rw [upd_ne hb] at z; exact n b u z
end
theorem Inv.gc {X : Cx} {pins pins' : List (Addr × Obj)} {σ σ' : St} {H G H' : Hp} {s s' : Shared} (n : NoT H) (I : Inv X pins σ H s) (J : Inv X pins' σ' H' s') (g : Gc H G H') : Inv X pins' σ' G s' :=
  ⟨J.ok, J.os, J.bare, ⟨J.base.keep, J.base.slot, fun b o q z hx => g.b.free (J.base.free b o q z hx), J.base.there, fun b xs q => g.a _ _ (I.base.tups b xs q), fun b o x q => g.a _ _ (I.base.frzs b o x q), fun b ps q => let ⟨m, e⟩ := I.base.tbls b ps q; ⟨m, g.a _ _ e⟩⟩,
   J.loc, J.cell, g.b.free J.free, fun x c e => g.b.free (J.freeC x c e), fun p hp => let ⟨e, z, r⟩ := J.pin p hp; ⟨e, g.b.free z, r⟩, HOk.gc n I.hok J.hok g, J.len⟩
def tGcT (t : TT) : TT := fun σ H Q => NoT H ∧ t σ H fun v H' => ∃ G, Gc H G H' ∧ Q v G
theorem pt_gc {X : Cx} {e : Expr} {t : TT} (h : PT X e t) : PT X e (tGcT t) := fun pins s σ H Q I ⟨n, q⟩ =>
  thn (h pins s σ H _ I q) fun u s1 ⟨H1, I1, G, g, q1⟩ => ⟨G, I.gc n I1 g, q1⟩
end L2
set_option Elab.async false
set_option linter.all false
set_option maxRecDepth 100000
namespace L2
open PySem PySem.Spec PyProof.Rows
theorem ObjOk.at_ {P : Program} {w : World} {H : Hp} {h : Heap} {a : Addr} {o : HO} (x : ObjOk P w H h a o) : ∃ ob, h.get? a = some ob := by
  cases o with
  | lst xs => obtain ⟨_, _, _, _, e⟩ := x; exact ⟨_, e⟩
  | tup xs => obtain ⟨_, _, _, ob, e, _⟩ := x; exact ⟨_, e⟩
  | dK kvs => obtain ⟨_, _, _, _, o, _, _, e, _⟩ := x; exact ⟨_, e⟩
  | dT kvs => obtain ⟨_, _, _, _, o, _, _, e, _⟩ := x; exact ⟨_, e⟩
  | set S n => obtain ⟨o, _, _, _, e, _⟩ := x; exact ⟨_, e⟩
  | ins C dx fs => obtain ⟨_, _, _, e, _⟩ := x; exact ⟨_, e⟩
  | own y => obtain ⟨_, e⟩ := x; exact ⟨_, e⟩
  | xd fs => obtain ⟨_, ⟨_, _, _, e, _⟩, _⟩ := x; exact ⟨_, e⟩
  | rng lo hi => obtain ⟨_, _, _, e⟩ := x; exact ⟨_, e⟩
  | frz ob u => obtain ⟨e, _⟩ := x; exact ⟨_, e⟩
  | tbl ps => exact ⟨_, (show h.get? a = some _ from x)⟩
  | met f y => exact ⟨_, (show h.get? a = some _ from x)⟩
  | ext φ => obtain ⟨_, ⟨_, e⟩, _⟩ := x; exact ⟨_, e⟩
theorem HOk.none_of {P : Program} {w : World} {H : Hp} {h : Heap} {a : Addr} (x : HOk P w H h) (e : h.get? a = none) : H a = none := by
  cases q : H a with
  | none => rfl
  | some u =>
    obtain ⟨ob, z⟩ := (x a u q).at_
    rw [e] at z; cases z
def hid (h : Heap) (l : List Env) (rs : List Addr) : Heap := PySem.W.hideAll h (frs l ++ rs)
theorem hid_get {h : Heap} {l : List Env} {rs : List Addr} {b : Addr} {o : Obj} (e : h.get? b = some o) (h1 : b ∉ frs l) (h2 : b ∉ rs) : (hid h l rs).get? b = some o :=
  PySem.W.hideAll_get _ e fun z => (List.mem_append.mp z).elim h1 h2
theorem of_hid {h : Heap} {l : List Env} {rs : List Addr} {b : Addr} {o : Obj} (e : (hid h l rs).get? b = some o) : h.get? b = some o := PySem.W.of_hideAll _ e
theorem hid_rs {h : Heap} {l : List Env} {rs : List Addr} {b : Addr} (e : b ∈ rs) : (hid h l rs).get? b = none := PySem.W.hideAll_none _ (List.mem_append_right _ e)
theorem hid_frames {h base : Heap} {l : List Env} {rs : List Addr} (e : h.FunFrames base l) : h.FunFrames (hid h l rs) l :=
  PySem.W.funFrames_hide e fun _ he _ ha => List.mem_append_left _ (List.mem_filterMap.mpr ⟨_, he, ha⟩)
def Fly (l : List Env) (rs : List Addr) (e : Addr) (cls : Value) (h : Heap) : Prop := e ∈ rs ∧ ∃ a0, Heap.FlyingW (hid h l rs) l e cls a0 h
def XE (P : Program) (w : World) : CXT := fun outer H s E ev s' => ∃ (e : Addr) (C : Value) (rs : List Addr) (H' : Hp), ev = .ref e ∧ s'.os = s.os ∧ AllBare s'.gens ∧ Un (frs outer) [] H H' s.heap s'.heap ∧
  HOk P w H' s'.heap ∧ (∀ b ∈ rs, s.heap.get? b = none ∧ H' b = none) ∧ Fly outer rs e C s'.heap ∧ E C none H'
section
variable {X : Cx} {pins : List (Addr × Obj)} {σ : St} {H : Hp} {s : Shared} {h' : Heap} {rs : List Addr}
theorem Inv.s0_none (I : Inv X pins σ H s) (hex : X.ex = []) {b : Addr} (e : s.heap.get? b = none) : X.s₀.heap.get? b = none := by
  cases q : X.s₀.heap.get? b with
  | none => rfl
  | some o =>
    obtain ⟨o', z⟩ := I.base.there b o q (by rw [hex]; simp)
    rw [e] at z; cases z
theorem Inv.noteUn (I : Inv X pins σ H s) (hex : X.ex = []) (hrs : ∀ b ∈ rs, X.s₀.heap.get? b = none)
    (stay : ∀ b o, s.heap.get? b = some o → b ∉ frs X.stack → b ∉ rs → h'.get? b = some o) (up : s.heap.UpToSlots h') : Un X.fs [] X.H₀ H X.s₀.heap h' := by
  have B := I.base
  rw [hex] at B
  have nrs : ∀ b o, X.s₀.heap.get? b = some o → b ∉ rs := fun b o e z => by rw [hrs b z] at e; cases e
  have nst : ∀ b o, X.s₀.heap.get? b = some o → b ∉ X.fs → b ∉ frs X.stack := fun b o e hb z => by
    rcases List.mem_cons.mp (I.stkSub b z) with q | q
    · exact absurd (Nat.lt_of_lt_of_le (Heap.lt_size e) I.ok.above) (by rw [q]; exact Nat.lt_irrefl _)
    · exact hb q
  refine ⟨fun b o q n hb hx => stay b o (B.keep b o q n hb hx) (nst b o q hb) (nrs b o q), fun b o q n hb hx => ?_, fun b o q n hx => B.free b o q n hx, fun b o q hx => ?_, B.tups, B.frzs, B.tbls⟩
  · obtain ⟨sl, e1⟩ := B.slot b o q n hb hx
    obtain ⟨_, o', ho', hd⟩ := I.funs.mem hb
    rw [e1] at ho'; cases ho'
    obtain ⟨sl', e2⟩ := up b _ e1 hd
    exact ⟨sl', e2⟩
  · obtain ⟨o', e1⟩ := B.there b o q hx
    by_cases hb : b ∈ frs X.stack
    · obtain ⟨_, o2, ho2, hd⟩ := I.stack.mem hb
      obtain ⟨sl', e2⟩ := up b _ ho2 hd
      exact ⟨_, e2⟩
    · exact ⟨o', stay b o' e1 hb (nrs b o q)⟩
theorem Inv.noteOk (I : Inv X pins σ H s) (hrs : ∀ b ∈ rs, H b = none) (stay : ∀ b o, s.heap.get? b = some o → b ∉ frs X.stack → b ∉ rs → h'.get? b = some o) : HOk X.prog X.w H h' := fun a o e =>
  (I.hok a o e).stay (fun b u hb q => stay b u q (fun z => by
      have n := I.stkFree b z
      rcases hb with r | r
      · rw [r, e] at n; cases n
      · rw [r] at n; cases n) fun z => by
      have n := hrs b z
      rcases hb with r | r
      · rw [r, e] at n; cases n
      · rw [r] at n; cases n) (fun _ q => q) fun _ _ q => q
theorem rec_new {base : Heap} {l : List Env} {h h1 : Heap} {T : Addr} {oT : Obj} {ts : Array Value} (hl : h.FunFrames base l) (up : h.UpToSlots h1) (e : (hid h l rs).get? T = none) (hT : h1.get? T = some oT) (hd : oT.data = .fields ts) : h.get? T = none ∨ T ∈ rs := by
  by_cases hr : T ∈ rs
  · exact .inr hr
  · refine .inl ?_
    cases q : h.get? T with
    | none => rfl
    | some o =>
      by_cases hf : T ∈ frs l
      · obtain ⟨_, o2, ho2, hnf⟩ := hl.mem hf
        rw [q] at ho2; cases ho2
        obtain ⟨sl, e2⟩ := up T o q hnf
        rw [hT] at e2; cases e2
        exact absurd hd (hnf ts)
      · rw [hid_get q hf hr] at e; cases e
end
section
variable {P : Program} {w : World} {K : PySem.W.Frag} {mg : Str → Option Value} {base : Heap} {N : List Str} {qual : Str} {scope : Scope} {f : Addr} {cd : Value} {A : Around} {outer : List Env} {s₀ : Shared} {H₀ : Hp} {E : XK}
theorem leave_made {pins : List (Addr × Obj)} {σ : St} {H : Hp} {s : Shared} {h' : Heap} {e : Addr} {cls : Value} {args : List Value}
    (I : Inv (cxOf (XE P w) P w K mg base N qual scope f cd A outer s₀ H₀ E) pins σ H s) (hx : Heap.MadeExcOf s.heap h' e cls args) (q : E cls none H) :
    (cxOf (XE P w) P w K mg base N qual scope f cd A outer s₀ H₀ E).xe (.ref e) { s with heap := h' } := by
  show wpAny (model P w) (A.deeper (envOfC qual scope s₀.heap.objs.size f cd)) (leaving (envOfC qual scope s₀.heap.objs.size f cd) (.ref e)) (fun _ s'' => XE P w outer H₀ s₀ E (.ref e) s'') (fun e' s'' => XE P w outer H₀ s₀ E e' s'') { s with heap := h' }
  have hst : s.heap.FunFrames base (envOfC qual scope s₀.heap.objs.size f cd :: outer) := I.stack
  refine wpAny_leaves_madeW (base := hid s.heap (envOfC qual scope s₀.heap.objs.size f cd :: outer) []) (h := s.heap) I.ok.frames rfl (fun b o z => of_hid z) (hid_frames hst) hx fun h'' t fl tup tn up => ?_
  obtain ⟨f1, f2, f3, oe, vs, T, oT, ts, he, hc, hd, h1, hnT, hTe, hT, hdT, h3⟩ := fl
  have up' : s.heap.UpToSlots h'' := (Heap.UpToSlots.of_keeps hx.keeps).trans up
  have nT : s.heap.get? T = none := (rec_new hst up' hnT hT hdT).elim id fun z => nomatch z
  have stay : ∀ b o, s.heap.get? b = some o → b ∉ frs (envOfC qual scope s₀.heap.objs.size f cd :: outer) → b ∉ [e, T] → h''.get? b = some o := fun b o z hb _ => f1 b o (hid_get z hb fun y => nomatch y)
  have n0 : ∀ b ∈ [e, T], s.heap.get? b = none := fun b hb => by
    rcases List.mem_cons.mp hb with r | r
    · rw [r]; exact hx.new
    · rw [List.mem_singleton.mp r]; exact nT
  have n1 : ∀ b ∈ [e, T], s₀.heap.get? b = none := fun b hb => I.s0_none rfl (n0 b hb)
  have n2 : ∀ b ∈ [e, T], H b = none := fun b hb => I.hok.none_of (n0 b hb)
  refine ⟨e, cls, [e, T], H, rfl, I.os, I.bare, I.noteUn rfl n1 stay up', I.noteOk n2 stay, fun b hb => ⟨n1 b hb, n2 b hb⟩, ⟨.head _, .ref t, ?_⟩, q⟩
  exact ⟨fun b o z => of_hid z, hid_rs (.head _), hid_frames f3, oe, vs, T, oT, ts, he, hc, hd, h1, hid_rs (.tail _ (.head _)), hTe, hT, hdT, h3⟩
abbrev XKs := St → XK
def Passes' (CX : CXT) (X : Cx) (E : XKs) : Prop := ∀ (pins : List (Addr × Obj)) (σ : St) (H : Hp) (s : Shared) (e : Value) (s' : Shared), Inv X pins σ H s → CX X.stack H s (E σ) e s' → X.xe e s'
def Raises (X : Cx) (E : XKs) : Prop := ∀ (pins : List (Addr × Obj)) (σ : St) (H : Hp) (s : Shared) (h' : Heap) (e : Addr) (cls : Value) (args : List Value), Inv X pins σ H s → Heap.MadeExcOf s.heap h' e cls args → E σ cls none H → X.xe (.ref e) { s with heap := h' }
theorem raisesB : Raises (cxOf (XE P w) P w K mg base N qual scope f cd A outer s₀ H₀ E) (fun _ => E) := fun _ _ _ _ _ _ _ _ I hx q => leave_made I hx q
theorem passB : Passes' (XE P w) (cxOf (XE P w) P w K mg base N qual scope f cd A outer s₀ H₀ E) (fun _ => E) := by
  intro pins σ H s ev s' I hq
  obtain ⟨e, C, rs, H', rfl, os, bare, un, hok, hrs, ⟨her, a0, fl⟩, q⟩ := hq
  have J : Inv (cxOf (XE P w) P w K mg base N qual scope f cd A outer s₀ H₀ E) pins σ H' s' := I.call' os un hok bare (fun b z => nomatch z)
  show wpAny (model P w) (A.deeper (envOfC qual scope s₀.heap.objs.size f cd)) (leaving (envOfC qual scope s₀.heap.objs.size f cd) (.ref e)) (fun _ s'' => XE P w outer H₀ s₀ E (.ref e) s'') (fun e' s'' => XE P w outer H₀ s₀ E e' s'') s'
  have hst : s'.heap.FunFrames base (envOfC qual scope s₀.heap.objs.size f cd :: outer) := J.stack
  refine wpAny_leaves_onW (base := hid s'.heap (envOfC qual scope s₀.heap.objs.size f cd :: outer) rs) I.ok.frames rfl fl fun h'' fl' up => ?_
  obtain ⟨f1, f2, f3, oe, vs, T, oT, ts, he, hc, hd, h1, hnT, hTe, hT, hdT, h3⟩ := fl'
  have nT := rec_new hst up hnT hT hdT
  have stay : ∀ b o, s'.heap.get? b = some o → b ∉ frs (envOfC qual scope s₀.heap.objs.size f cd :: outer) → b ∉ T :: rs → h''.get? b = some o := fun b o z hb hr => f1 b o (hid_get z hb fun y => hr (.tail _ y))
  have n1 : ∀ b ∈ T :: rs, s₀.heap.get? b = none := fun b hb => by
    rcases List.mem_cons.mp hb with r | r
    · rw [r]
      rcases nT with z | z
      · exact J.s0_none rfl z
      · exact I.s0_none rfl (hrs T z).1
    · exact I.s0_none rfl (hrs b r).1
  have n2 : ∀ b ∈ T :: rs, H' b = none := fun b hb => by
    rcases List.mem_cons.mp hb with r | r
    · rw [r]
      rcases nT with z | z
      · exact hok.none_of z
      · exact (hrs T z).2
    · exact (hrs b r).2
  refine ⟨e, C, T :: rs, H', rfl, J.os, J.bare, J.noteUn rfl n1 stay up, J.noteOk n2 stay, fun b hb => ⟨n1 b hb, n2 b hb⟩, ⟨.tail _ her, a0, ?_⟩, q⟩
  exact ⟨fun b o z => of_hid z, hid_rs (.tail _ her), hid_frames f3, oe, vs, T, oT, ts, he, hc, hd, h1, hid_rs (.head _), hTe, hT, hdT, h3⟩
end
def tCallX (sp : Sp) (dvs : List V) (E : XKs) (t : TA) : TE := fun σ H Q => t σ H fun vs H1 => sp (vs ++ dvs) H1 Q (E σ)
section
variable {X : Cx} {CX : CXT} {k : Nat} {f C : Addr} {fd : FuncData} {ps : List Str} {sp : Sp} {dvs : List V} {ds : List Value} {E : XKs} {x m : Str} {p pos apos : Pos} {e o : Expr} {es : List Expr} {ta : TE} {t : TA}
theorem run_fnX {pins : List (Addr × Obj)} {σ : St} {H : Hp} {s : Shared} {Q : VK} {us : List Value} {vs : List V} (F : FnOk X.prog X.w X.K X.mg X.base CX k f fd ps sp) (hr : Room k X.A) (hb : Binds X.K fd ps ds) (hd : Vals dvs ds) (hx : Passes' CX X E)
    (I : Inv X pins σ H s) (r : Vals vs us) (h : sp (vs ++ dvs) H Q (E σ)) : wpAny (model X.prog X.w) X.A (call (.ref f) us) (EP X pins σ Q) X.xe s := by
  have r2 : Vals (vs ++ dvs) (us ++ ds) := r.append hd
  have hl : (us ++ ds).length = ps.length := by rw [← r2.length]; exact F.len _ _ _ _ h
  refine wpAny_call (codeAny_mono (F.run X.A X.stack s H ⟨us, []⟩ (us ++ ds) (vs ++ dvs) Q (E σ) hr I.env0 (hb s us I.kIn hl) r2 h) fun r s' hq => ?_)
  cases r with
  | error e => exact hx pins σ H s e s' I hq
  | ok fl =>
    cases fl with
    | ret u => exact I.after hq
    | next => exact False.elim hq
    | brk => exact False.elim hq
    | cont => exact False.elim hq
theorem pe_callX (F : FnOk X.prog X.w X.K X.mg X.base CX k f fd ps sp) (hr : Room k X.A) (hg : Gl X x) (hm : X.mg x = some (.ref f)) (hk : PySem.W.keepIn X.K (.ref f) = true) (hb : Binds X.K fd ps ds) (hd : Vals dvs ds) (hx : Passes' CX X E)
    (ha : PA X (e :: es) t) (hdb : (x == ("__debug__" : Str)) = false := by decide) (he : starEach (e :: es) X.env = (false, eval e X.env) :: starEach es X.env := by rfl) (hpl : (backTo pos (starEach es X.env)).any (·.1) = false := by rfl) :
    PE X (.Call (.Name x p) (e :: es) [] pos) (tCallX sp dvs E t) := by
  intro pins s σ H Q I h
  refine wpAny_Call_Name_kw (ld_glob I hg hm ?_ hdb)
  refine PySem.W.callWith_K (h₀ := X.base) I.ok.mod.kin hk (thn (ha pos pins s σ H _ I h) fun us s1 ⟨vs, H1, I1, r, q⟩ => ⟨I1.kIn, ?_⟩) he hpl
  exact run_fnX F hr hb hd hx I1 r q
end
section
variable {P : Program} {w : World} {K : PySem.W.Frag} {mg : Str → Option Value} {base : Heap}
theorem Fun.okX {x qual : Str} {st : Stmt} {f : Addr} {fd : FuncData} {N ps : List Str} {k : Nat} {sp : Sp} (F : Fun K x qual st f fd) (S : FnScope N ps (defScope st)) (len : ∀ vs H Q E, sp vs H Q E → vs.length = ps.length)
    (hbody : ∀ (cdv : Value) (A : Around) (outer : List Env) (s : Shared) (H : Hp) (vs : List V) (Q : VK) (E : XK), Room k (A.deeper (envOfC qual (defScope st) s.heap.objs.size f cdv)) → sp vs H Q E →
      ∃ t, PSs (cxOf (XE P w) P w K mg base N qual (defScope st) f cdv A outer s H E) (defBody st) t ∧ t { nx := fun _ H' => Q .non H', rt := Q } (start N vs) H) : FnOk P w K mg base (XE P w) (k + 1) f fd ps sp := by
  obtain ⟨oc, od, kV, doc, pm, an, cdv, ct, osl, rfl, lk, hcd⟩ := F.ex
  exact fn_of lk hcd S len fun A outer s H vs Q E hr hsp => hbody cdv A outer s H vs Q E hr hsp
end
theorem exc_obj {K : PySem.W.Frag} {h : Heap} {C : Addr} {bmB : List Value} {newId : String} (X : K.In h) (q : PySem.W.excIn K C bmB newId = true) :
    ∃ bm N nm qn bs hdct sn sub ab col dd k0 k1 k2 k3 k5 mN, h.get? C = some (excClassObj nm qn C N bs bm hdct sn sub ab col dd k0 k1 k2 k3 k5 newId) ∧ h.Ns N mN ∧ mN "__init__" = none ∧ OwnTail h bmB bm := by
  unfold PySem.W.excIn at q
  split at q
  · rename_i dd cd sl ho
    split at q
    · rename_i C' bm k0 k1 k2 k3 n k5 hm hs
      simp only [Bool.and_eq_true, beq_iff_eq, Bool.not_eq_true'] at q
      obtain ⟨⟨⟨⟨⟨rfl, rfl⟩, hdel⟩, ht⟩, hok⟩, hni⟩ := q
      obtain ⟨nm, bs, mro, ns, qn, hd, sn, sub, ab, col, del⟩ := cd
      dsimp only at hm hdel hok hni
      subst hm hdel
      have hsl : sl = #[k0, k1, k2, k3, some (.builtin n), k5] := by
        obtain ⟨l⟩ := sl
        simp only at hs
        rw [hs]
      subst hsl
      exact ⟨bm, ns, nm, qn, bs, hd, sn, sub, ab, col, dd, k0, k1, k2, k3, k5, _, X _ _ ho, .of_isNs (PySem.W.isNs_of_in X hok), PySem.W.nsMap_none_of_in X hok hni, PySem.W.tail_of_in X ht⟩
    · cases q
  · cases q
def tRaise (C : Addr) (E : XKs) (t : TA) : TS := fun _ σ H => t σ H fun vs H1 => vs.length ≤ sizeLine ∧ E σ (.ref C) none H1
theorem ps_raise {X : Cx} {x : Str} {C : Addr} {bmB : List Value} {B newId initId : String} {E : XKs} {e : Expr} {es : List Expr} {t : TA} {np cpos pos : Pos} (O : PySem.W.excIn X.K C bmB newId = true) (FB : ExcBaseFacts B newId initId bmB)
    (hc : X.calm = true) (hg : Gl X x) (hm : X.mg x = some (.ref C)) (hx : Raises X E) (ha : PA X (e :: es) t) (hdb : (x == ("__debug__" : Str)) = false := by decide)
    (he : starEach (e :: es) X.env = (false, eval e X.env) :: starEach es X.env := by rfl) (hpl : (backTo cpos (starEach es X.env)).any (·.1) = false := by rfl) :
    PS X (.Raise (some (.Call (.Name x np) (e :: es) [] cpos)) none pos) (tRaise C E t) := by
  intro pins s σ H D I h
  obtain ⟨tl, N, nm, q, bs, hdct, sn, sub, ab, col, dd, k0, k1, k2, k3, k5, mN, hC, hN, hni, T⟩ := exc_obj I.mod.kin O
  refine wpAny_Raise_call_subT (C := C) (nm := nm) (q := q) (N := N) (bs := bs) (bm := tl) (hdct := hdct) (sn := sn) (sub := sub) (ab := ab) (col := col) (dd := dd) (k0 := k0) (k1 := k1) (k2 := k2) (k3 := k3) (k5 := k5)
    FB (mN := mN) (T.hasType FB.hasBase) (I.ok.hd hc) (by rw [he]; show (false || (backTo cpos (starEach es X.env)).any (·.1)) = false; rw [hpl]; rfl) hni (ld_glob I hg hm ⟨rfl, ?_⟩ hdb)
  have hA := ha cpos pins s σ H _ I h
  rw [he] at hA ⊢
  refine Calls.evalArgs_plain (thn hA fun us s1 ⟨vs, H1, I1, r, hz, q1⟩ => ⟨rfl, by rw [← r.length]; exact hz, I1.bk _ _ hC, hN.keeps I1.bk, T.keeps I1.bk, fun h' e' hm' => ?_⟩)
  exact hx pins σ H1 s1 h' e' (.ref C) us I1 hm' q1
end L2
set_option Elab.async false
set_option linter.all false
set_option maxRecDepth 100000
namespace L2
open PySem PySem.Spec PyProof.Rows
section
variable {X : Cx} {pins : List (Addr × Obj)} {σ : St} {H : Hp} {s : Shared} {h' : Heap} {rs : List Addr}
theorem Inv.noted {t' : Nat} (I : Inv X pins σ H s) (hrs : ∀ b ∈ rs, X.s₀.heap.get? b = none ∧ H b = none) (hpin : ∀ p ∈ X.pn ++ pins, p.1 ∉ rs)
    (stay : ∀ b o, s.heap.get? b = some o → b ∉ frs X.stack → b ∉ rs → h'.get? b = some o) (up : s.heap.UpToSlots h') : Inv X pins σ H { s with heap := h', toks := t' } := by
  have B := I.base
  have cellK : ∀ c v, s.heap.IsCell c v → h'.IsCell c v := fun c v ⟨o, ho, hd⟩ => by
    obtain ⟨sl, e⟩ := up c o ho fun vs q => by rw [hd] at q; cases q
    exact ⟨_, e, hd⟩
  have nrs : ∀ b o, X.s₀.heap.get? b = some o → b ∉ rs := fun b o e z => by rw [(hrs b z).1] at e; cases e
  have nst : ∀ b o, X.s₀.heap.get? b = some o → b ∉ X.fs → b ∉ frs X.stack := fun b o e hb z => by
    rcases List.mem_cons.mp (I.stkSub b z) with q | q
    · exact absurd (Nat.lt_of_lt_of_le (Heap.lt_size e) I.ok.above) (by rw [q]; exact Nat.lt_irrefl _)
    · exact hb q
  refine ⟨I.ok, I.os, I.bare, ⟨fun b o q n hb hx => stay b o (B.keep b o q n hb hx) (nst b o q hb) (nrs b o q), fun b o q n hb hx => ?_, fun b o q n hx => B.free b o q n hx, fun b o q hx => ?_, B.tups, B.frzs, B.tbls⟩, ?_, fun x c e => ?_, I.free, I.freeC, fun p hp => ?_, I.noteOk (fun b hb => (hrs b hb).2) stay, I.len⟩
  · obtain ⟨sl, e1⟩ := B.slot b o q n hb hx
    obtain ⟨_, o', ho', hd⟩ := I.funs.mem hb
    rw [e1] at ho'; cases ho'
    obtain ⟨sl', e2⟩ := up b _ e1 hd
    exact ⟨sl', e2⟩
  · obtain ⟨o', e1⟩ := B.there b o q hx
    by_cases hb : b ∈ frs X.stack
    · obtain ⟨_, o2, ho2, hd⟩ := I.stack.mem hb
      obtain ⟨sl', e2⟩ := up b _ ho2 hd
      exact ⟨_, e2⟩
    · exact ⟨o', stay b o' e1 hb (nrs b o q)⟩
  · obtain ⟨m, hn, hl⟩ := I.loc
    refine ⟨m, up.ns hn, fun i x v e1 e2 e3 => ?_⟩
    obtain ⟨u, r, l⟩ := hl i x v e1 e2 e3
    refine ⟨u, r, ?_⟩
    rcases l with l | ⟨k, c, e, z⟩
    · exact .inl l
    · exact .inr ⟨k, c, e, cellK c _ z⟩
  · obtain ⟨v, z⟩ := I.cell x c e
    exact ⟨v, cellK c v z⟩
  · obtain ⟨e, n, ne, nf, d⟩ := I.pin p hp
    exact ⟨stay p.1 p.2 e (fun z => (List.mem_cons.mp (I.stkSub _ z)).elim ne nf) (hpin p hp), n, ne, nf, d⟩
theorem Inv.track {a : Addr} {o : HO} (I : Inv X pins σ H s) (hn : H a = none) (h0 : X.s₀.heap.get? a = none) (hL : a ≠ X.env.locals) (hc : ∀ x c, X.env.cells.lookup x = some c → c ≠ a) (hp : ∀ p ∈ X.pn ++ pins, p.1 ≠ a)
    (new : ObjOk X.prog X.w (upd H a o) s.heap a o) : Inv X pins σ (upd H a o) s := by
  have B := I.base
  refine ⟨I.ok, I.os, I.bare, ⟨B.keep, B.slot, fun b ob q n hx => ?_, B.there, fun b xs q => ?_, fun b ob xs q => ?_, fun b ps q => ?_⟩, I.loc, I.cell, ?_, fun x c e => ?_, fun p hp' => ?_, fun b u e => ?_, I.len⟩
  · have : b ≠ a := fun z => by rw [z, h0] at q; cases q
    rw [upd_ne this]; exact B.free b ob q n hx
  · have e := B.tups b xs q
    rw [upd_ne (ne_of_none e hn)]; exact e
  · have e := B.frzs b ob xs q
    rw [upd_ne (ne_of_none e hn)]; exact e
  · obtain ⟨m, e⟩ := B.tbls b ps q
    exact ⟨m, by rw [upd_ne (ne_of_none e hn)]; exact e⟩
  · rw [upd_ne (Ne.symm hL)]; exact I.free
  · rw [upd_ne (hc x c e)]; exact I.freeC x c e
  · obtain ⟨e, n, ne, nf, d⟩ := I.pin p hp'
    exact ⟨e, by rw [upd_ne (hp p hp')]; exact n, ne, nf, d⟩
  · by_cases hb : b = a
    · subst hb
      rw [upd_same] at e
      cases e
      exact new
    · rw [upd_ne hb] at e
      refine (I.hok b u e).stay (fun c v _ q => q) (fun c q => ?_) fun c xs q => ?_
      · rw [upd_ne (ne_of_none q hn)]; exact q
      · rw [upd_ne (ne_of_none q hn)]; exact q
theorem Cx.Ok.re (ok : X.Ok) (A' : Around) (hf : A'.frames = X.A.frames) (cm : Bool) (hh : cm = true → A'.handled = none) (pn : List (Addr × Obj)) (xe : Value → Shared → Prop) : ({ X with A := A', calm := cm, pn := pn, xe := xe } : Cx).Ok :=
  ⟨ok.mod, ok.kind, ok.glob, ok.blt, ok.above, ok.inj, ok.has, ok.cab, hh, hf.trans ok.frames, ok.stk, ok.exf, ok.bs, ok.bsz, ok.noex, ok.exfs, ok.funs, ok.frf⟩
theorem Inv.toPn (I : Inv X pins σ H s) (xe : Value → Shared → Prop) : Inv { X with pn := X.pn ++ pins, xe := xe } [] σ H s :=
  ⟨I.ok.re X.A rfl X.calm I.ok.hd _ _, I.os, I.bare, I.base, I.loc, I.cell, I.free, I.freeC, fun p hp => I.pin p (by rw [List.append_nil] at hp; exact hp), I.hok, I.len⟩
theorem Inv.ofPn {xe : Value → Shared → Prop} {pins' : List (Addr × Obj)} (ok : X.Ok) (I : Inv { X with pn := X.pn ++ pins, xe := xe } pins' σ H s) : Inv X pins σ H s :=
  ⟨ok, I.os, I.bare, I.base, I.loc, I.cell, I.free, I.freeC, fun p hp => I.pin p (List.mem_append_left _ hp), I.hok, I.len⟩
abbrev Cx.caught (X : Cx) (e : Addr) : Cx := { X with A := X.A.mark (some (.ref e)), calm := false, pn := X.pn, xe := fun _ _ => False }
theorem Inv.toCaught (I : Inv X pins σ H s) (e : Addr) : Inv (X.caught e) pins σ H s :=
  ⟨I.ok.re (X.A.mark (some (.ref e))) rfl false (fun z => nomatch z) _ _, I.os, I.bare, I.base, I.loc, I.cell, I.free, I.freeC, I.pin, I.hok, I.len⟩
theorem Inv.ofCaught {e : Addr} (ok : X.Ok) (I : Inv (X.caught e) pins σ H s) : Inv X pins σ H s :=
  ⟨ok, I.os, I.bare, I.base, I.loc, I.cell, I.free, I.freeC, I.pin, I.hok, I.len⟩
theorem name_goes {M : Model} {A : Around} {E : Value → Shared → Prop} {i : Nat} {n : Str} {pos : Pos} {Q : Unit → Shared → Prop} (I : Inv X pins σ H s) (hN : X.N.Nodup) (hi : X.N[i]? = some n) (hk : X.env.kindOf n = some .local)
    (h : ∀ s', Inv X pins (σ.set i none) H s' → Q () s') : wpAny M A (do bindName X.env n .none; unbindBehindTheSuite X.env n pos) Q E s := by
  obtain ⟨m, hn, hl⟩ := id I.loc
  have hcls : (X.env.scope.kind == .class || (X.env.scope.kind == .module && X.env.locals != X.env.globals)) = false := by rw [I.ok.kind]; rfl
  have cne := I.cne
  refine wpAny_nameGoes_keeps hk hn hcls fun h' v hn' hs => ?_
  obtain ⟨oL, _, _, hoL, _⟩ := id hn
  refine h _ ⟨I.ok, I.os, I.bare, ⟨fun b o e n hb hx => ?_, fun b o e n hb hx => ?_, I.base.free, fun b o e hx => ?_, I.base.tups, I.base.frzs, I.base.tbls⟩, ⟨_, hn', fun j y v' e1 e2 e3 => ?_⟩, fun y c e => ?_, I.free, I.freeC, fun p hp => ?_, fun b ob e => ?_, by simpa using I.len⟩
  · exact (hs.2 b (Nat.ne_of_lt (Nat.lt_of_lt_of_le (Heap.lt_size e) I.ok.above))).trans (I.base.keep b o e n hb hx)
  · obtain ⟨sl, e1⟩ := I.base.slot b o e n hb hx
    exact ⟨sl, (hs.2 b (Nat.ne_of_lt (Nat.lt_of_lt_of_le (Heap.lt_size e) I.ok.above))).trans e1⟩
  · obtain ⟨o', e1⟩ := I.base.there b o e hx
    exact ⟨o', (hs.2 b (Nat.ne_of_lt (Nat.lt_of_lt_of_le (Heap.lt_size e) I.ok.above))).trans e1⟩
  · by_cases hj : j = i
    · subst hj
      rw [List.getElem?_set] at e2
      simp at e2
    · rw [List.getElem?_set_ne (Ne.symm hj)] at e2
      obtain ⟨u', r', q⟩ := hl j y v' e1 e2 e3
      refine ⟨u', r', ?_⟩
      rcases q with ⟨k, e⟩ | ⟨k, c, e, z⟩
      · refine .inl ⟨k, ?_⟩
        have : y ≠ n := fun e => hj (nodup_ix hN e1 (e ▸ hi))
        simp [this, e]
      · exact .inr ⟨k, c, e, z.sameBut hs (cne y c e)⟩
  · obtain ⟨w', z⟩ := I.cell y c e
    exact ⟨w', z.sameBut hs (cne y c e)⟩
  · obtain ⟨e, n, ne, nf, d⟩ := I.pin p hp
    exact ⟨(hs.2 p.1 ne).trans e, n, ne, nf, d⟩
  · refine (I.hok b ob e).stay (fun c w' hc q => (hs.2 c ?_).trans q) (fun _ q => q) fun _ _ q => q
    rintro rfl
    rcases hc with rfl | hc
    · rw [I.free] at e; cases e
    · rw [I.free] at hc; cases hc
end
theorem excMatches_K {M : Model} {A : Around} {E : Value → Shared → Prop} {s : Shared} {K : PySem.W.Frag} {e C D : Addr} {oe : Obj} {Q : Bool → Shared → Prop} (X : K.In s.heap) (he : s.heap.get? e = some oe) (hcls : oe.cls = .ref C)
    (hx : PySem.W.exmOne K (.ref C) (.ref D) = some true) (h : Q true s) : wpAny M A (excMatches (.ref e) (.ref D)) Q E s :=
  (PySem.W.exm_one (M := M) X (hcls ▸ (PySem.W.Looks.ld he).andThen .now) hx).here h
def ExcIs (C : Value) (e : Addr) : HO := HO.ext fun h => ∃ o vs, h.get? e = some o ∧ o.cls = C ∧ o.data = .fields vs
def tTry (K : PySem.W.Frag) (CH : Addr) (i : Nat) (tb : XKs → TS) (th : TS) : TS := fun D σ H =>
  tb (fun σ' C _ H' => ∃ Ce, C = .ref Ce ∧ PySem.W.exmOne K (.ref Ce) (.ref CH) = some true ∧ ∀ e, H' e = none →
    th { nx := fun σ2 H2 => D.nx (σ2.set i none) H2, rt := D.rt, bk := fun σ2 H2 => D.bk (σ2.set i none) H2, ct := fun σ2 H2 => D.ct (σ2.set i none) H2 } (σ'.set i (some (.ref e))) (upd H' e (ExcIs (.ref Ce) e))) D σ H
theorem ps_try {X : Cx} {CH : Addr} {i : Nat} {n x : Str} {np hpos pos : Pos} {body suite : List Stmt} {b₀ : Stmt} {tb : XKs → TS} {th : TS} (hN : X.N.Nodup) (hi : X.N[i]? = some n) (hk : X.env.kindOf n = some .local)
    (hg : Gl X x) (hm : X.mg x = some (.ref CH))
    (hex : X.ex = []) (hst : X.stack = X.env :: X.outer) (hfr : X.env.frame = some X.env.locals)
    (hb : ∀ (pn : List (Addr × Obj)) (Ee : Value → Shared → Prop) (Ex : XKs), Passes' (XE X.prog X.w) { X with pn := pn, xe := Ee } Ex → PSs { X with pn := pn, xe := Ee } body (tb Ex))
    (hh : ∀ e : Addr, PSs (X.caught e) (b₀ :: suite) th) (hdb : (x == ("__debug__" : Str)) = false := by decide) :
    PS X (.Try body [.ExceptHandler (some (.Name x np)) (some n) (b₀ :: suite) hpos] [] [] pos) (tTry X.K CH i tb th) := by
  intro pins s σ H D I h
  refine wpAny_Try_except ?_
  have ok := I.ok
  refine wpAny_mono (hb (X.pn ++ pins) _ _ ?hP [] s σ H D (I.toPn _) h) (fun f s1 hf => ?_) (fun _ _ z => z)
  case hP =>
    intro pins' σ' H1 s1 ev s1' I1 hq
    obtain ⟨e, C, rs, H', rfl, os, bare, un, hok, hrs, ⟨her, a0, fl⟩, ⟨Ce, rfl, hmro, hth⟩⟩ := hq
    have J1 := I1.call' os un hok bare (fun b z => nomatch z)
    have J : Inv X pins σ' H' s1' := J1.ofPn ok
    have I0 : Inv X pins σ' H1 s1 := I1.ofPn ok
    have hn0 : ∀ b ∈ rs, X.s₀.heap.get? b = none ∧ H' b = none := fun b hb => by
      refine ⟨?_, (hrs b hb).2⟩
      cases q : X.s₀.heap.get? b with
      | none => rfl
      | some o =>
        obtain ⟨o', z⟩ := I0.base.there b o q (by rw [hex]; simp)
        rw [(hrs b hb).1] at z; cases z
    have hpin : ∀ p ∈ X.pn ++ pins, p.1 ∉ rs := fun p hp z => by
      have := (I0.pin p hp).1
      rw [(hrs _ z).1] at this; cases this
    have hstk : s1'.heap.FunFrames X.base (X.env :: X.outer) := by rw [← hst]; exact J.stack
    rw [show X.stack = X.env :: X.outer from hst] at fl
    have hfrm : X.A.frames = some (X.env :: X.outer) := by rw [← hst]; exact ok.frames
    show wpAny (model X.prog X.w) X.A (noteFrame (.ref e) X.env) _ _ s1'
    refine wpAny_looks_onW (base := hid s1'.heap (X.env :: X.outer) rs) hfrm hfr fl fun h₄ held up4 => ?_
    refine wpAny_landsW held fun h₅ fl5 up5 => ?_
    have nin : ∀ b, b ∉ frs X.stack → b ∉ frs (X.env :: X.outer) := fun b hb => by rw [← hst]; exact hb
    have stay5 : ∀ b o, s1'.heap.get? b = some o → b ∉ frs X.stack → b ∉ rs → h₅.get? b = some o := fun b o z hb hr => fl5.1 b o (hid_get z (nin b hb) hr)
    have I5 : Inv X pins σ' H' { s1' with heap := h₅, toks := s1'.toks } := J.noted hn0 hpin stay5 (up4.trans up5)
    obtain ⟨ob, hob, hobc⟩ := fl5.there
    refine wpAny_handleBy_cons (codeAny_handlers_test (ld_glob (X := X.caught e) (I5.toCaught e) hg hm (excMatches_K I5.kIn hob hobc hmro ?_) hdb)) (by intro q; cases q)
    refine codeAny_handlers_suite_as (lands_againW fl5 fun h₆ fl6 up6 => ?_)
    have stay6 : ∀ b o, s1'.heap.get? b = some o → b ∉ frs X.stack → b ∉ rs → h₆.get? b = some o := fun b o z hb hr => fl6.1 b o (hid_get z (nin b hb) hr)
    have I6 : Inv X pins σ' H' { s1' with heap := h₆, toks := s1'.toks } := J.noted hn0 hpin stay6 ((up4.trans up5).trans up6)
    have e1 : s1.heap.get? e = none := (hrs e her).1
    obtain ⟨oe, vs, hoe, hoec, hoed, _⟩ := fl6.first
    have I6' : Inv X pins σ' (upd H' e (ExcIs (.ref Ce) e)) { s1' with heap := h₆, toks := s1'.toks } := by
      refine I6.track (hrs e her).2 (hn0 e her).1 ?_ ?_ (fun p hp z => hpin p hp (by rw [z]; exact her)) ?_
      · intro z
        obtain ⟨m, ⟨oL, _, _, hoL, _⟩, _⟩ := I0.loc
        rw [← z, e1] at hoL; cases hoL
      · intro x c hc z
        obtain ⟨v, o, ho, _⟩ := I0.cell x c hc
        rw [z, e1] at ho; cases ho
      · exact ⟨⟨oe, vs, hoe, hoec, hoed⟩, ⟨oe, hoe⟩, fun h1 h2 ⟨o, ws, a1, a2, a3⟩ k => ⟨o, ws, k o a1, a2, a3⟩⟩
    refine store_ok (X := X.caught e) (I6'.toCaught e) hN hi (Or.inl hk) (v := .ref e) rfl (fun s7 I7 => ?_) (.inr hk)
    refine wpAny_mono (hh e pins s7 _ _ _ I7 (hth e (hrs e her).2)) (fun f s8 hf => ?_) (fun _ _ z => z.elim)
    show wpAny (model X.prog X.w) X.A (do bindName X.env n .none; unbindBehindTheSuite X.env n hpos) (fun _ s₃ => SP X pins D f s₃) X.xe s8
    cases f with
    | next =>
      obtain ⟨σ2, H2, J2, q⟩ := hf
      exact name_goes (J2.ofCaught ok) hN hi hk fun s9 I9 => ⟨_, _, I9, q⟩
    | brk =>
      obtain ⟨σ2, H2, J2, q⟩ := hf
      exact name_goes (J2.ofCaught ok) hN hi hk fun s9 I9 => ⟨_, _, I9, q⟩
    | cont =>
      obtain ⟨σ2, H2, J2, q⟩ := hf
      exact name_goes (J2.ofCaught ok) hN hi hk fun s9 I9 => ⟨_, _, I9, q⟩
    | ret u =>
      obtain ⟨v, σ2, H2, J2, r, q⟩ := hf
      exact name_goes (J2.ofCaught ok) hN hi hk fun s9 I9 => ⟨v, _, _, I9, r, q⟩
  cases f with
  | next =>
    obtain ⟨σ', H', J, q⟩ := hf
    exact wpAny_execs_nil ⟨σ', H', J.ofPn ok, q⟩
  | brk =>
    obtain ⟨σ', H', J, q⟩ := hf
    exact ⟨σ', H', J.ofPn ok, q⟩
  | cont =>
    obtain ⟨σ', H', J, q⟩ := hf
    exact ⟨σ', H', J.ofPn ok, q⟩
  | ret u =>
    obtain ⟨v, σ', H', J, r, q⟩ := hf
    exact ⟨v, σ', H', J.ofPn ok, r, q⟩
end L2
set_option Elab.async false
set_option linter.all false
set_option maxRecDepth 100000
namespace L2
open PySem PySem.Spec PyProof.Rows PySem.W
inductive ClsV : V → Value → Prop where
  | ty (n : String) : ClsV (.ty n) (.type n)
  | own (a : Addr) : ClsV (.ref a) (.ref a)
section
variable {X : Cx}
theorem call_isinst : CallR X (.builtin "isinstance") (fun xs H Q => ∃ x c t u b, xs = [x, c] ∧ ClsV c u ∧ TyOf X.K H x t ∧ PySem.W.kitOne X.K t u = some b ∧ Q (.bl b) H) := by
  intro pins s σ H xs us Q I r h
  obtain ⟨x, c, t, u, b, rfl, rc, ty, e, q⟩ := h
  obtain ⟨ux, uc, rfl, rx, rc'⟩ := vals2 r
  have ec : uc = u := by
    cases rc with
    | ty n => exact rc'
    | own a => exact rc'
  subst ec
  exact isinst_ok I rx ty e fun tk => ⟨.bl b, H, I.tok _, rfl, q⟩
end
structure ExcCls (K : Frag) (C : Addr) : Prop where
  l1 : findIn K (.ref C) "__getattribute__" = some (some (.builtin "BaseException.__getattribute__"))
  l2 : findIn K (.ref C) "__getattr__" = some none
  l3 : findIn K (.ref C) "__class__" = some (some (.builtin "object.__class__"))
  c1 : (clsIn K C).isSome = true
  m1 : mroIn K C (.type "object") = some true
  m2 : mroIn K C (.type "BaseException") = some true
section
variable {prog : Program} {w : World} {A : Around} {E : Value → Shared → Prop} {K : Frag} {e C : Addr} {o : Obj} {s : Shared}
open Builtin Builtin.ObjectAttr Builtin.Getset_descriptor PySem.Calls in
theorem exc_class_get {R : Result → Shared → Prop} {tp : Value} (X : K.In s.heap) (Z : ExcCls K C) (hx : s.heap.get? e = some o) (hc : o.cls = .ref C)
    (h : R (.ok (.ret (.ref C))) s) : codeAny (model prog w) A (.call (.builtin "getset_descriptor.__get__") ⟨[.builtin "object.__class__", .ref e, tp], []⟩) R s := by
  obtain ⟨hh, g, dr, t, os⟩ := s
  have L0 : Looks (model prog w) hh (typeOf (.ref e)) (.ref C) := hc ▸ (Looks.ld hx).andThen .now
  have L1 := looks_mroIn (M := model prog w) X Z.m1
  refine codeAny_call_builtin KF.slot_gs.plain KF.entry_gs (KF.slot_gs.check _ _ _ _ _ _ _ _ KF.type_class (KF.args_gs _ _ _) ?_)
  unfold Builtin.«getset_descriptor.__get__» descrGet
  rw [dga_obj]
  refine wpAny_bind (wpAny_pure ?_)
  unfold descrGetter descrCheckInstance descrNameAndClass isInstance
  simp only [KF.owner_class]
  repeat lk
  refine ⟨Code.quiet_builtin _ (by decide +kernel), codeAny_builtin KF.entry_class ?_⟩
  unfold Builtin.«object.__class__» shownTypeOf
  repeat lk
  exact h
theorem exc_ga_check {M : Model} {nameV : Value} {Q : Unit → Shared → Prop} (X : K.In s.heap) (Z : ExcCls K C) (hx : s.heap.get? e = some o) (hc : o.cls = .ref C) (hq : Q () s) :
    wpAny M A (checkBuiltinCall "BaseException.__getattribute__" ⟨[.ref e, nameV], []⟩) Q E s := by
  have hk : builtinKind "BaseException.__getattribute__" = some .slot := by decide +kernel
  have hsplit : splitId "BaseException.__getattribute__" = some ("BaseException", "__getattribute__") := by decide +kernel
  have ha := F.args_bexc_ga (.ref e) nameV
  obtain ⟨hh, g, dr, t, os⟩ := s
  have L0 : Looks M hh (typeOf (.ref e)) (.ref C) := hc ▸ (Looks.ld hx).andThen .now
  have L1 := looks_mroIn (M := M) X Z.m2
  have LI : Looks M hh (isInstance (.ref e) (.type "BaseException")) true := L0.andThen L1
  simp only [checkBuiltinCall, hk, hsplit]
  refine wpAny_bind (LI.at ?_)
  repeat (first | assumption | wp_step)
theorem exc_ga_entry {tk : Tok} {Q : Fin → Shared → Prop} (X : K.In s.heap) (Z : ExcCls K C) (hx : s.heap.get? e = some o) (hc : o.cls = .ref C) (hq : Q (.done (.ret (.ref C))) s) :
    wpAny (model prog w) A (Builtin.«object.__getattribute__» ⟨[.ref e, .str "__class__" tk], []⟩) Q E s := by
  obtain ⟨hh, g, dr, t, os⟩ := s
  have L0 : Looks (model prog w) hh (typeOf (.ref e)) (.ref C) := hc ▸ (Looks.ld hx).andThen .now
  have L3 := looks_findIn (M := model prog w) X Z.l3
  have f5 := KF.type_class
  have f6 := F.slot_gs_get.lookup
  have f7 := F.slot_gs_set.lookup
  repeat (any_goals (first | assumption | with_reducible refine L0.at ?_ | with_reducible refine L3.at ?_ | wp_step))
  refine exc_class_get X Z hx hc ?_
  repeat (any_goals (first | assumption | wp_step))
theorem exc_class_attr {Q : Option Value → Shared → Prop} (X : K.In s.heap) (Z : ExcCls K C) (hx : s.heap.get? e = some o) (hc : o.cls = .ref C) (h : Q (some (.ref C)) { s with toks := s.toks + 1 }) :
    wpAny (model prog w) A (getAttr? (.ref e) "__class__") Q E s := by
  obtain ⟨hh, g, dr, t, os⟩ := s
  have L0 : Looks (model prog w) hh (typeOf (.ref e)) (.ref C) := hc ▸ (Looks.ld hx).andThen .now
  have L1 := looks_findIn (M := model prog w) X Z.l1
  have L2 := looks_findIn (M := model prog w) X Z.l2
  have f3 := F.excAttr_ValueError.ga.bind (.ref e)
  have hx2 : (Value.builtin "BaseException.__getattribute__" == Value.builtin "object.__getattribute__") = false := by decide +kernel
  have hx0 : ∀ ex : Bool, (ex && onTheHeap (Value.builtin "BaseException.__getattribute__")) = false := fun ex => by cases ex <;> rfl
  have hx1 : (onTheHeap (Value.ref C) && Value.builtin "BaseException.__getattribute__" == Value.builtin "object.__getattribute__") = false := by rw [hx2]; rfl
  unfold getAttr?
  repeat (any_goals (first | assumption | with_reducible refine L0.at ?_ | with_reducible refine L1.at ?_ | with_reducible refine L2.at ?_ | wp_step))
  refine codeAny_call_builtin F.excAttr_ValueError.ga.plain F.entry_bexc_ga (exc_ga_check X Z hx hc (exc_ga_entry X Z hx hc ?_))
  repeat (any_goals (first | assumption | wp_step))
theorem kitx_exc (Z : ExcCls K C) : KitX K (.ref e) (.ref C) (fun h => ∃ o, h.get? e = some o ∧ o.cls = .ref C) where
  ty := fun M h _ ⟨o, h1, h2⟩ => h2 ▸ (Looks.ld h1).andThen .now
  it := fun M h X _ => by
    have c1 := Z.c1
    unfold clsIn at c1
    split at c1
    · rename_i c' d' cd' sl' ho
      intro A' Q' E' s' k q
      unfold isType loadHead
      exact wpAny_bind (wpAny_loadPart (k _ _ (X _ _ ho)) (wpAny_pure q))
    · cases c1
  ne := fun h tp dd its n sl X htp => by
    refine Bool.eq_false_iff.mpr fun q => ?_
    have e' : C = tp := Value.ref.inj (beq_iff_eq.mp q)
    subst e'
    have c1 := Z.c1
    unfold clsIn at c1
    split at c1
    · rename_i c' d' cd' sl' ho
      have z := (X _ _ ho).symm.trans htp
      cases z
    · cases c1
  ca := fun X ⟨o, h1, h2⟩ k => exc_class_attr X Z h1 h2 k
end
section
variable {X : Cx}
theorem call_isinstE : CallR X (.builtin "isinstance") (fun xs H Q => ∃ e c C u b, xs = [.ref e, c] ∧ ClsV c u ∧ H e = some (ExcIs (.ref C) e) ∧ ExcCls X.K C ∧ PySem.W.kitOne X.K (.ref C) u = some b ∧ Q (.bl b) H) := by
  intro pins s σ H xs us Q I r h
  obtain ⟨e, c, C, u, b, rfl, rc, he, Z, k, q⟩ := h
  obtain ⟨ux, uc, rfl, rx, rc'⟩ := vals2 r
  have ec : uc = u := by
    cases rc with
    | ty n => exact rc'
    | own a => exact rc'
  subst ec
  cases (show ux = Value.ref e from rx)
  obtain ⟨⟨o, vs, h1, h2, _⟩, _, _⟩ := (show ObjOk X.prog X.w H s.heap e (ExcIs (.ref C) e) from I.hok e _ he)
  exact kia_one (kitx_exc Z) I.kIn ⟨o, h1, h2⟩ k (fun z => nomatch z) fun tk => ⟨.bl b, H, I.tok _, rfl, q⟩
theorem call_sum_tup (hc : X.calm = true) : CallR X (.builtin "sum") (fun xs H Q => ∃ (p : Addr) (ns : List Int), xs = [.ref p] ∧ SqT X.K H p (ns.map V.int) ∧ Q (.int ns.sum) H) := by
  intro pins s σ H xs us Q I r h
  obtain ⟨p, ns, rfl, hq, q⟩ := h
  obtain ⟨u, rfl, rx⟩ := vals1 r
  cases (show u = Value.ref p from rx)
  obtain ⟨its, r', pl, hz⟩ := I.tuple hq
  have hi := intsAre_of r'
  obtain ⟨ys, hy⟩ := hi.allInts.items
  have hn : numsOf its.toArray.toList = ns := by rw [show its.toArray.toList = its from rfl, hi.numsOf]
  rw [hy] at pl hn
  rw [nums_intItems] at hn
  refine ktm_sumG (I.ok.hd hc) pl fun h' tk t' hk => ?_
  rw [preSum_eq, List.take_of_length_le (by simp), hn]
  exact ⟨.int ns.sum, H, I.kept hk, ⟨_, rfl⟩, q⟩
end
end L2
namespace L2
open PySem PySem.Spec PyProof.Rows
section
variable {X : Cx} {a b : Expr} {ta : TE}
def eqVs (xs ys : List V) : Bool := (List.range (min xs.length ys.length)).all (fun j => eqV (xs.getD j .non) (ys.getD j .non)) && xs.length == ys.length
def rEqT (K : PySem.W.Frag) (neg : Bool) : R2 := fun x y H Q => ∃ p p' xs ys, x = .ref p ∧ y = .ref p' ∧ SqT K H p xs ∧ SqT K H p' ys ∧ xs.all flatV = true ∧ ys.all flatV = true ∧ Q (.bl (neg ^^ eqVs xs ys)) H
theorem eqAt_items {A : Around} {s : Shared} {xs ys : List V} {us vs : List Value} (r : Vals xs us) (r' : Vals ys vs) (fx : xs.all flatV = true) (fy : ys.all flatV = true) (j : Nat) (h1 : j < us.toArray.size) (h2 : j < vs.toArray.size) :
    SeqAt.EqAt A s us.toArray[j] vs.toArray[j] (eqV (xs.getD j .non) (ys.getD j .non)) := by
  have e1 : us[j]? = some us.toArray[j] := by simp at h1; simp [h1]
  have e2 : vs[j]? = some vs.toArray[j] := by simp at h2; simp [h2]
  have l1 : j < xs.length := by rw [r.length]; simpa using h1
  have l2 : j < ys.length := by rw [r'.length]; simpa using h2
  have g1 : xs[j]? = some (xs.getD j .non) := by simp [List.getD, l1]
  have g2 : ys[j]? = some (ys.getD j .non) := by simp [List.getD, l2]
  obtain ⟨u, hu, ru⟩ := r.get g1
  obtain ⟨v, hv, rv⟩ := r'.get g2
  rw [e1] at hu
  rw [e2] at hv
  rw [Option.some.inj hu, Option.some.inj hv]
  exact eqAt_V ru rv (List.all_eq_true.mp fx _ (List.mem_of_getElem? g1)) (List.all_eq_true.mp fy _ (List.mem_of_getElem? g2))
theorem op_eqT (hu : X.A.units < cLine) : OpR X (compareOp .Eq) (rEqT X.K false) := by
  intro pins s σ H x y v u Q I rx ry h
  obtain ⟨p, p', xs, ys, rfl, rfl, hx, hy, fx, fy, q⟩ := h
  cases (show v = Value.ref p from rx)
  cases (show u = Value.ref p' from ry)
  obtain ⟨its, r, pl, hz⟩ := I.tuple hx
  obtain ⟨its', r', pl', hz'⟩ := I.tuple hy
  refine SeqAt.eq_tupleAt pl pl' hu (fun j h1 h2 => eqAt_items r r' fx fy j h1 h2) ⟨.bl _, H, I, rfl, ?_⟩
  rw [List.size_toArray, List.size_toArray, ← r.length, ← r'.length]
  simpa [eqVs] using q
theorem op_neT (hu : X.A.units < cLine) : OpR X (compareOp .NotEq) (rEqT X.K true) := by
  intro pins s σ H x y v u Q I rx ry h
  obtain ⟨p, p', xs, ys, rfl, rfl, hx, hy, fx, fy, q⟩ := h
  cases (show v = Value.ref p from rx)
  cases (show u = Value.ref p' from ry)
  obtain ⟨its, r, pl, hz⟩ := I.tuple hx
  obtain ⟨its', r', pl', hz'⟩ := I.tuple hy
  refine SeqAt.RcNeAt.tuples pl pl' hu (fun j h1 h2 => eqAt_items r r' fx fy j h1 h2) X.prog X.w X.xe _ ⟨.bl _, H, I, rfl, ?_⟩
  rw [List.size_toArray, List.size_toArray, ← r.length, ← r'.length]
  simpa [eqVs] using q
theorem op_eqU (hu : X.A.units < cLine) : OpR X (compareOp .Eq) (fun x y H Q => rEq x y H Q ∨ rEqT X.K false x y H Q) := op_eq.or (op_eqT hu)
theorem op_neU (hu : X.A.units < cLine) : OpR X (compareOp .NotEq) (fun x y H Q => rNe x y H Q ∨ rEqT X.K true x y H Q) := op_ne.or (op_neT hu)
theorem call_isiU : CallR X (.builtin "isinstance") (fun xs H Q => (∃ x c t u b, xs = [x, c] ∧ ClsV c u ∧ TyOf X.K H x t ∧ PySem.W.kitOne X.K t u = some b ∧ Q (.bl b) H) ∨
    ∃ e c C u b, xs = [.ref e, c] ∧ ClsV c u ∧ H e = some (ExcIs (.ref C) e) ∧ ExcCls X.K C ∧ PySem.W.kitOne X.K (.ref C) u = some b ∧ Q (.bl b) H) := call_isinst.or call_isinstE
end
end L2
set_option Elab.async false
set_option linter.all false
set_option maxRecDepth 100000
namespace L2
open PySem PySem.Spec PyProof.Rows
abbrev T (l : List Nat) : V := .str ⟨⟨l⟩⟩
def cs (x : Str) : List Nat := x.cps.toList
section
variable {X : Cx} {e a b c : Expr} {pos : Pos}
theorem PE.imp {t t' : TE} (h : PE X e t) (i : ∀ σ H Q, t' σ H Q → t σ H Q) : PE X e t' := fun pins s σ H Q I q => h pins s σ H Q I (i σ H Q q)
theorem PT.imp {t t' : TT} (h : PT X e t) (i : ∀ σ H Q, t' σ H Q → t σ H Q) : PT X e t' := fun pins s σ H Q I q => h pins s σ H Q I (i σ H Q q)
theorem OpR.imp {f : Value → Value → Sem Value} {r r' : R2} (h : OpR X f r) (i : ∀ x y H Q, r' x y H Q → r x y H Q) : OpR X f r' := fun pins s σ H x y v u Q I rx ry q => h pins s σ H x y v u Q I rx ry (i _ _ _ _ q)
theorem UnR.imp {f : Value → Sem Value} {r r' : V → Hp → VK → Prop} (h : UnR X f r) (i : ∀ x H Q, r' x H Q → r x H Q) : UnR X f r' := fun pins s σ H x v Q I rx q => h pins s σ H x v Q I rx (i _ _ _ q)
theorem CallR.imp {f : Value} {r r' : List V → Hp → VK → Prop} (h : CallR X f r) (i : ∀ x H Q, r' x H Q → r x H Q) : CallR X f r' := fun pins s σ H x v Q I rx q => h pins s σ H x v Q I rx (i _ _ _ q)
theorem IxR.imp {r r' : R2} (h : IxR X r) (i : ∀ x y H Q, r' x y H Q → r x y H Q) : IxR X r' := fun va sl pins s σ H x y v u Q I rx ry q hs => h va sl pins s σ H x y v u Q I rx ry (i _ _ _ _ q) hs
theorem MtR.imp {id : String} {r r' : V → List V → Hp → VK → Prop} (h : MtR X id r) (i : ∀ x xs H Q, r' x xs H Q → r x xs H Q) : MtR X id r' := fun pins s σ H x xs v us Q I rx rs q => h pins s σ H x xs v us Q I rx rs (i _ _ _ _ q)
def fVar (i : Nat) : TE := fun σ H Q => match σ[i]? with
  | some (some v) => Q v H
  | _ => False
theorem fv (i : Nat) {x : Str} (hN : X.N[i]? = some x := by rfl) (hv : Vis X.env.scope x := by first | exact Or.inl rfl | exact Or.inr (Or.inl rfl) | exact Or.inr (Or.inr rfl)) (hd : (x == ("__debug__" : Str)) = false := by decide)
    (hcd : (x == ("__classdict__" : Str)) = false := by decide) : PE X (.Name x pos) (fVar i) := (pe_var hN hv hd hcd).imp fun σ H Q h => by
  unfold fVar at h
  split at h
  · exact ⟨_, by assumption, h⟩
  · exact h.elim
theorem pe_strT {x : Str} {j} (l : List Nat) (h : x = ⟨⟨l⟩⟩ := by decide +kernel) : PE X (.Constant (.str x) j pos) (tC (T l)) := h ▸ pe_str
def gAdd : R2
  | .int i, .int j, H, Q => Q (.int (i + j)) H
  | .str i, .str j, H, Q => (cs i).length + (cs j).length ≤ sizeLine ∧ Q (T (cs i ++ cs j)) H
  | _, _, _, _ => False
theorem app_cs (i j : Str) : V.str (i ++ j) = T (cs i ++ cs j) := by
  show V.str ⟨i.cps ++ j.cps⟩ = V.str ⟨⟨i.cps.toList ++ j.cps.toList⟩⟩
  congr 1
  congr 1
  exact (Array.ext' (by simp))
theorem fo_add : OpR X (binaryOp .Add) gAdd := (op_add.or op_add_str).imp fun x y H Q h => by
  unfold gAdd at h
  split at h
  · exact .inl ⟨_, _, rfl, rfl, h⟩
  · refine .inr ⟨_, _, rfl, rfl, by simpa [cs, Str.length] using h.1, ?_⟩
    rw [app_cs]; exact h.2
  · exact h.elim
def gI (g : Int → Int → V) : R2
  | .int i, .int j, H, Q => Q (g i j) H
  | _, _, _, _ => False
def gIC (C : Int → Int → Prop) (g : Int → Int → V) : R2
  | .int i, .int j, H, Q => C i j ∧ Q (g i j) H
  | _, _, _, _ => False
theorem gI_to {g : Int → Int → V} : ∀ x y H Q, gI g x y H Q → rI0 g x y H Q := fun x y H Q h => by
  unfold gI at h; split at h
  · exact ⟨_, _, rfl, rfl, h⟩
  · exact h.elim
theorem gIC_to {C : Int → Int → Prop} {g : Int → Int → V} : ∀ x y H Q, gIC C g x y H Q → rI C g x y H Q := fun x y H Q h => by
  unfold gIC at h; split at h
  · exact ⟨_, _, rfl, rfl, h.1, h.2⟩
  · exact h.elim
theorem fo_sub : OpR X (binaryOp .Sub) (gI fun i j => .int (i - j)) := op_sub.imp gI_to
theorem fo_mul : OpR X (binaryOp .Mult) (gIC CMul fun i j => .int (i * j)) := op_mul.imp gIC_to
theorem fo_mod : OpR X (binaryOp .Mod) (gIC (fun _ j => 0 < j) fun i j => .int (i % j)) := op_mod.imp gIC_to
theorem fo_fdiv : OpR X (binaryOp .FloorDiv) (gIC CDiv fun i j => .int (i / j)) := op_fdiv.imp gIC_to
theorem fo_pow : OpR X (binaryOp .Pow) (gIC CPow fun i j => .int (i ^ j.toNat)) := op_pow.imp gIC_to
def gNeg : V → Hp → VK → Prop
  | .int i, H, Q => Q (.int (-i)) H
  | _, _, _ => False
theorem fu_neg : UnR X (unaryOp .USub) gNeg := un_neg.imp fun x H Q h => by
  unfold gNeg at h; split at h
  · exact ⟨_, rfl, h⟩
  · exact h.elim
def leN (a b : List Nat) : Bool := !decide (b < a)
theorem op_le_str : OpR X (compareOp .LtE) (fun x y H Q => ∃ i j, x = .str i ∧ y = .str j ∧ Q (.bl (leN (cs i) (cs j))) H) := by
  intro pins s σ H x y v u Q I rx ry h
  obtain ⟨i, j, rfl, rfl, q⟩ := h
  obtain ⟨t, rfl⟩ := rx
  obtain ⟨t', rfl⟩ := ry
  exact PySem.P.le_str ⟨.bl _, H, I, rfl, q⟩
def gLe : R2
  | .int i, .int j, H, Q => Q (.bl (decide (i ≤ j))) H
  | .str i, .str j, H, Q => Q (.bl (leN (cs i) (cs j))) H
  | _, _, _, _ => False
theorem fo_le : OpR X (compareOp .LtE) gLe := (op_le.or op_le_str).imp fun x y H Q h => by
  unfold gLe at h; split at h
  · exact .inl ⟨_, _, rfl, rfl, h⟩
  · exact .inr ⟨_, _, rfl, rfl, h⟩
  · exact h.elim
def gLt : R2
  | .int i, .int j, H, Q => Q (.bl (decide (i < j))) H
  | .str i, .str j, H, Q => Q (.bl (decide (cs i < cs j))) H
  | _, _, _, _ => False
theorem fo_lt : OpR X (compareOp .Lt) gLt := (op_lt.or op_lt_str).imp fun x y H Q h => by
  unfold gLt at h; split at h
  · exact .inl ⟨_, _, rfl, rfl, h⟩
  · exact .inr ⟨_, _, rfl, rfl, h⟩
  · exact h.elim
theorem fo_gt : OpR X (compareOp .Gt) (gI fun i j => .bl (decide (j < i))) := op_gt.imp gI_to
def eqS : V → V → Option Bool
  | .int i, .int j => some (decide (i = j))
  | .bl i, .bl j => some (decide (i = j))
  | .str i, .str j => some (decide (cs i = cs j))
  | .non, .non => some true
  | .non, .int _ => some false | .int _, .non => some false | .non, .bl _ => some false | .bl _, .non => some false | .non, .str _ => some false | .str _, .non => some false
  | .int _, .str _ => some false | .str _, .int _ => some false | .bl _, .str _ => some false | .str _, .bl _ => some false
  | _, _ => none
theorem str_eq_iff (i j : Str) : V.str i = V.str j ↔ cs i = cs j := by
  constructor
  · intro h; injection h with h; rw [h]
  · intro h
    congr 1
    obtain ⟨⟨a⟩⟩ := i
    obtain ⟨⟨b⟩⟩ := j
    have h' : a = b := h
    rw [h']
theorem eqS_scal {x y : V} {k : Bool} (h : eqS x y = some k) : scal x y = true ∧ decide (x = y) = k := by
  unfold eqS at h
  split at h <;> (first | cases h) <;> refine ⟨rfl, ?_⟩
  case h_1 i j => exact decide_eq_decide.mpr (by simp)
  case h_2 i j => exact decide_eq_decide.mpr (by simp)
  case h_3 i j => exact decide_eq_decide.mpr (str_eq_iff i j)
  all_goals simp
variable {ta tb tc : TE} {rest : List Expr}
def kB (Q : Bool → Hp → Prop) : VK := fun x H => match x with
  | .bl k => Q k H
  | _ => False
def fTest (t : TE) : TT := fun σ H Q => t σ H (kB Q)
theorem kB_of {Q : Bool → Hp → Prop} {x : V} {H : Hp} (h : kB Q x H) : ∃ k, x = .bl k ∧ Q k H := by
  unfold kB at h
  split at h
  · exact ⟨_, rfl, h⟩
  · exact h.elim
theorem ft_cmp {op : CmpOp} {r : R2} (ho : OpR X (compareOp op) r) (ha : PE X a ta) (hb : PE X b tb) (hm : behindInMarks op b = false) : PT X (.Compare a [op] [b] pos) (fTest (tOp r ta tb)) := by
  intro pins s σ H Q I h
  refine wpAny_isTrue_Compare1 (thn (ha pins s σ H _ I h) fun v s1 ⟨x, H1, I1, r1, q1⟩ => thn (hb pins s1 σ H1 _ I1 q1) fun u s2 ⟨y, H2, I2, r2, q2⟩ =>
    thn (ho pins s2 σ H2 x y v u _ I2 r1 r2 q2) fun c s3 ⟨z, H3, I3, r3, q3⟩ => ?_) hm
  obtain ⟨k, e, q3⟩ := kB_of q3
  subst e
  cases r3
  exact wpAny_truthy_bool ⟨H3, I3, q3⟩
theorem ft_val {t : TE} (h : PE X e t) (he : ∀ whole, isTrue e X.env whole = (do let v ← whole; standAt e.pos; holding [v] (truthy v)) := by intro _; rfl) : PT X e (fTest t) := by
  intro pins s σ H Q I hw
  refine isTrue_plain (thn (h pins s σ H _ I hw) fun v s1 ⟨x, H1, I1, r1, q1⟩ => ?_) (he _)
  obtain ⟨d, rfl, q⟩ := kB_of q1
  cases r1
  exact wpAny_truthy_bool ⟨H1, I1, q⟩
def fChain (r r' : R2) (ta tb tc : TE) : TE := fun σ H Q => ta σ H fun x H1 => tb σ H1 fun y H2 => r x y H2 (kB fun k H3 => if k = true then tc σ H3 fun w' H4 => r' y w' H4 Q else Q (.bl false) H3)
theorem fe_chain {op op' : CmpOp} {r r' : R2} (ho : OpR X (compareOp op) r) (ho' : OpR X (compareOp op') r') (ha : PE X a ta) (hb : PE X b tb) (hc : PE X c tc)
    (hm : lastMarks [op, op'] [b, c] = false := by with_unfolding_all rfl) : PE X (.Compare a [op, op'] [b, c] pos) (fChain r r' ta tb tc) := by
  intro pins s σ H Q I h
  refine Compare_chain (thn (ha pins s σ H _ I h) fun v s1 ⟨x, H1, I1, r1, q1⟩ => chain_link (thn (hb pins s1 σ H1 _ I1 q1) fun u s2 ⟨y, H2, I2, r2, q2⟩ =>
    thn (ho pins s2 σ H2 x y v u _ I2 r1 r2 q2) fun d s3 ⟨z, H3, I3, r3, q3⟩ => ?_)) hm
  obtain ⟨k, e, q3⟩ := kB_of q3
  subst e
  cases r3
  refine wpAny_truthy_bool ?_
  cases k with
  | false => exact ite_ff ⟨.bl false, H3, I3, rfl, q3⟩
  | true => exact ite_tt (chain_last (thn (hc pins s3 σ H3 _ I3 q3) fun w' s4 ⟨z', H4, I4, r4, q4⟩ => ho' pins s4 σ H4 y z' u w' Q I4 r2 r4 q4))
theorem ft_chain {op op' : CmpOp} {r r' : R2} (ho : OpR X (compareOp op) r) (ho' : OpR X (compareOp op') r') (ha : PE X a ta) (hb : PE X b tb) (hc : PE X c tc)
    (hm : lastMarks [op, op'] [b, c] = false := by with_unfolding_all rfl) : PT X (.Compare a [op, op'] [b, c] pos) (fTest (fChain r r' ta tb tc)) := by
  intro pins s σ H Q I h
  refine isTrue_chain (thn (ha pins s σ H _ I h) fun v s1 ⟨x, H1, I1, r1, q1⟩ => test_link (thn (hb pins s1 σ H1 _ I1 q1) fun u s2 ⟨y, H2, I2, r2, q2⟩ =>
    thn (ho pins s2 σ H2 x y v u _ I2 r1 r2 q2) fun d s3 ⟨z, H3, I3, r3, q3⟩ => ?_)) hm
  obtain ⟨k, e, q3⟩ := kB_of q3
  subst e
  cases r3
  refine wpAny_truthy_bool ?_
  cases k with
  | false => exact ite_ff ⟨H3, I3, q3⟩
  | true =>
    refine ite_tt (test_last (thn (hc pins s3 σ H3 _ I3 q3) fun w' s4 ⟨z', H4, I4, r4, q4⟩ => thn (ho' pins s4 σ H4 y z' u w' _ I4 r2 r4 q4) fun d' s5 ⟨z2, H5, I5, r5, q5⟩ => ?_))
    obtain ⟨k2, e2, q5⟩ := kB_of q5
    subst e2
    cases r5
    exact wpAny_truthy_bool ⟨H5, I5, q5⟩
def fAnd (ta tb : TE) : TE := fun σ H Q => ta σ H (kB fun c H1 => if c = true then tb σ H1 Q else Q (.bl false) H1)
def fOr (ta tb : TE) : TE := fun σ H Q => ta σ H (kB fun c H1 => if c = true then Q (.bl true) H1 else tb σ H1 Q)
def fNot (ta : TE) : TE := fun σ H Q => ta σ H (kB fun c H1 => Q (.bl (!c)) H1)
theorem fe_and (ha : PE X a ta) (hb : PE X (.BoolOp .And (b :: rest) pos) tb) : PE X (.BoolOp .And (a :: b :: rest) pos) (fAnd ta tb) := by
  intro pins s σ H Q I h
  refine BoolOp_and (thn (ha pins s σ H _ I h) fun v s1 ⟨x, H1, I1, r1, q1⟩ => ?_)
  obtain ⟨c, rfl, q1⟩ := kB_of q1
  cases r1
  refine wpAny_truthy_bool ?_
  cases c with
  | true => exact hb pins s1 σ H1 Q I1 q1
  | false => exact ⟨.bl false, H1, I1, rfl, q1⟩
theorem fe_or (ha : PE X a ta) (hb : PE X (.BoolOp .Or (b :: rest) pos) tb) : PE X (.BoolOp .Or (a :: b :: rest) pos) (fOr ta tb) := by
  intro pins s σ H Q I h
  refine BoolOp_or (thn (ha pins s σ H _ I h) fun v s1 ⟨x, H1, I1, r1, q1⟩ => ?_)
  obtain ⟨c, rfl, q1⟩ := kB_of q1
  cases r1
  refine wpAny_truthy_bool ?_
  cases c with
  | false => exact hb pins s1 σ H1 Q I1 q1
  | true => exact ⟨.bl true, H1, I1, rfl, q1⟩
theorem fe_not (ha : PE X a ta) : PE X (.UnaryOp .Not a pos) (fNot ta) := by
  intro pins s σ H Q I h
  refine UnaryOp_ (thn (ha pins s σ H _ I h) fun v s1 ⟨x, H1, I1, r1, q1⟩ => ?_)
  obtain ⟨c, rfl, q1⟩ := kB_of q1
  cases r1
  exact not_of (wpAny_truthy_bool ⟨.bl (!c), H1, I1, rfl, q1⟩)
def gAbs : List V → Hp → VK → Prop
  | [.int i], H, Q => Q (.int (if i < 0 then -i else i)) H
  | _, _, _ => False
theorem fc_abs : CallR X (.builtin "abs") gAbs := call_abs.imp fun x H Q h => by
  unfold gAbs at h; split at h
  · exact ⟨_, rfl, h⟩
  · exact h.elim
def gLen (K : PySem.W.Frag) : List V → Hp → VK → Prop
  | [.str y], H, Q => (cs y).length ≤ sizeLine ∧ Q (.int (cs y).length) H
  | [.ref p], H, Q => ∃ xs, (SqL K H p xs ∨ SqT K H p xs) ∧ Q (.int xs.length) H
  | _, _, _ => False
theorem fc_len : CallR X (.builtin "len") (gLen X.K) := call_len.imp fun x H Q h => by
  unfold gLen at h; split at h
  · exact ⟨_, _, rfl, ⟨by simpa [cs, Str.length] using h.1, rfl⟩, by simpa [cs, Str.length] using h.2⟩
  · obtain ⟨xs, hx, q⟩ := h
    rcases hx with hx | hx
    · exact ⟨_, _, rfl, .inl ⟨xs, hx, rfl⟩, q⟩
    · exact ⟨_, _, rfl, .inr ⟨xs, hx, rfl⟩, q⟩
  · exact h.elim
def kindV (H : Hp) : V → Option String
  | .non => some "NoneType"
  | .bl _ => some "bool"
  | .int _ => some "int"
  | .str _ => some "str"
  | .ref p => match H p with
    | some (.lst _) => some "list"
    | some (.frz _ (.lst _)) => some "list"
    | some (.tup _) => some "tuple"
    | some (.dK _) => some "dict"
    | _ => none
  | _ => none
def isiT (t n : String) : Bool := t == n || (t == "bool" && n == "int")
def bKind (t : String) : Prop := t = "NoneType" ∨ t = "bool" ∨ t = "int" ∨ t = "str" ∨ t = "list" ∨ t = "tuple" ∨ t = "dict"
theorem kit_b {K : PySem.W.Frag} {t n : String} (h : bKind t) (hn : n = "int" ∨ n = "bool" ∨ n = "str" ∨ n = "list" ∨ n = "tuple" ∨ n = "dict") : PySem.W.kitOne K (.type t) (.type n) = some (isiT t n) := by
  rcases h with rfl | rfl | rfl | rfl | rfl | rfl | rfl <;> rcases hn with rfl | rfl | rfl | rfl | rfl | rfl <;> kernel_rfl
theorem kindV_ty {K : PySem.W.Frag} {H : Hp} {x : V} {t : String} (h : kindV H x = some t) : TyOf K H x (.type t) ∧ bKind t := by
  unfold kindV at h
  split at h
  · cases h; exact ⟨.non, by simp [bKind]⟩
  · cases h; exact ⟨.bl _, by simp [bKind]⟩
  · cases h; exact ⟨.int _, by simp [bKind]⟩
  · cases h; exact ⟨.str _, by simp [bKind]⟩
  · split at h
    · rename_i e; cases h; exact ⟨.lst e, by simp [bKind]⟩
    · rename_i e; cases h; exact ⟨.frz e, by simp [bKind]⟩
    · rename_i e; cases h; exact ⟨.tup e, by simp [bKind]⟩
    · rename_i e; cases h; exact ⟨.dK e, by simp [bKind]⟩
    · cases h
  · cases h
def clsN (n : String) : Bool := n == "int" || n == "bool" || n == "str" || n == "list" || n == "tuple" || n == "dict"
def gIsi (K : PySem.W.Frag) : List V → Hp → VK → Prop
  | [x, .ty n], H, Q => (match kindV H x with
    | some t => clsN n = true ∧ Q (.bl (isiT t n)) H
    | none => ∃ e C b, x = .ref e ∧ H e = some (ExcIs (.ref C) e) ∧ ExcCls K C ∧ PySem.W.kitOne K (.ref C) (.type n) = some b ∧ Q (.bl b) H)
  | [.ref e, .ref D], H, Q => ∃ C b, H e = some (ExcIs (.ref C) e) ∧ ExcCls K C ∧ PySem.W.kitOne K (.ref C) (.ref D) = some b ∧ Q (.bl b) H
  | _, _, _ => False
theorem fc_isi : CallR X (.builtin "isinstance") (gIsi X.K) := call_isiU.imp fun xs H Q h => by
  unfold gIsi at h
  split at h
  · rename_i x n
    split at h
    · rename_i t ht
      obtain ⟨ty, hb⟩ := kindV_ty (K := X.K) ht
      obtain ⟨hn, q⟩ := h
      refine .inl ⟨x, _, _, _, _, rfl, .ty n, ty, kit_b hb ?_, q⟩
      simpa [clsN, or_assoc] using hn
    · obtain ⟨e, C, b, rfl, he, Z, k, q⟩ := h
      exact .inr ⟨e, _, C, _, b, rfl, .ty n, he, Z, k, q⟩
  · rename_i e D
    obtain ⟨C, b, he, Z, k, q⟩ := h
    exact .inr ⟨e, _, C, _, b, rfl, .own D, he, Z, k, q⟩
  · exact h.elim
end
section
variable {X : Cx} {a b : Expr} {ta tb : TE} {pos pos' : Pos}
def gIx (K : PySem.W.Frag) : R2
  | .str z, .int i, H, Q => (cs z).length ≤ sizeLine ∧ (match atI (cs z) i with
    | some c => Q (T [c]) H
    | none => False)
  | .ref p, .int i, H, Q => ∃ xs v, (SqL K H p xs ∨ SqT K H p xs) ∧ atI xs i = some v ∧ Q v H
  | _, _, _, _ => False
theorem fx_seq : IxR X (gIx X.K) := ix_seq.imp fun x y H Q h => by
  unfold gIx at h
  split at h
  · obtain ⟨hz, h⟩ := h
    split at h
    · rename_i c hc
      exact .inr (.inr ⟨_, _, c, rfl, rfl, by simpa [cs, Str.length] using hz, hc, h⟩)
    · exact h.elim
  · obtain ⟨xs, v, hs | hs, hv, q⟩ := h
    · exact .inl ⟨_, xs, _, v, rfl, rfl, hs, hv, q⟩
    · exact .inr (.inl ⟨_, xs, _, v, rfl, rfl, hs, hv, q⟩)
  · exact h.elim
def kPick (xs : List V) (H H1 : Hp) (Q : VK) : V → Prop
  | .int i => (match atI xs i with
    | some (.ref q) => H q = none ∧ (match H1 q with
      | some o => plainO o = true ∧ Q (.ref q) (upd H q o)
      | none => False)
    | some v => Q v H
    | none => False)
  | _ => False
def fPickL (ta : TA) (ti : TE) : TE := fun σ H Q => NoT H ∧ ta σ H fun xs H1 => Same H H1 ∧ xs.length ≤ sizeLine ∧ ∀ p, H1 p = none → ti σ (upd H1 p (.lst xs)) fun y H2 => H2 = upd H1 p (.lst xs) ∧ kPick xs H H1 Q y
theorem kPick_of {xs : List V} {H H1 : Hp} {Q : VK} {y : V} {p : Addr} {o : HO} (s : Same H H1) (hp : H1 p = none) (h : kPick xs H H1 Q y) : ∃ i v G, y = .int i ∧ atI xs i = some v ∧ Gc H G (upd H1 p o) ∧ Q v G := by
  unfold kPick at h
  have s2 : Same H (upd H1 p o) := s.trans (same_upd o hp)
  split at h
  · rename_i i
    split at h
    · rename_i q hq
      obtain ⟨hn, h⟩ := h
      split at h
      · rename_i o' ho'
        exact ⟨i, _, _, rfl, hq, Gc.one s2 hn (by rw [upd_ne (ne_of_none ho' hp)]; exact ho') h.1, h.2⟩
      · exact h.elim
    · rename_i v _ hv
      exact ⟨i, v, H, rfl, hv, Gc.none s2, h⟩
    · exact h.elim
  · exact h.elim
theorem fe_pickL {es : List Expr} {t : TA} (ha : PA X es t) (hb : PE X b tb) (hs : PlainIx b) : PE X (.Subscript (.List es pos') b pos) (fPickL t tb) := by
  intro pins s σ H Q I h
  obtain ⟨n, h⟩ := h
  refine Subscript_ (wpAny_List_spliced (thn (ha pos' pins s σ H _ I h) fun us s1 ⟨xs, H1, I1, r, sm, z, q⟩ => ⟨by rw [← r.length]; exact z, ?_⟩))
  have hf : H1 s1.heap.objs.size = none := I1.hok.fresh (Nat.le_refl _)
  refine thn (hb pins _ σ (upd H1 s1.heap.objs.size (.lst xs)) _ (I1.laid (t' := s1.toks) (fun b u e => Heap.get?_push_of_some _ e) (Nat.le_refl _) ⟨z, us, 0, r, Heap.get?_push_size _ rfl⟩) (q _ hf)) fun u s3 ⟨y, H3, I3, ry, e, k⟩ => ?_
  subst e
  obtain ⟨i, v, G, rfl, hv, g, hq⟩ := kPick_of (o := .lst xs) sm hf k
  exact thn (ix_list (.List es pos') b pins s3 σ _ (.ref _) (.int i) _ u (fun v' H' => v' = v ∧ H' = upd H1 s1.heap.objs.size (.lst xs)) I3 rfl ry ⟨_, xs, i, v, rfl, rfl, SqL.of upd_same, hv, rfl, rfl⟩ (hs _ _))
    fun u' s4 ⟨v', H4, I4, r4, e1, e2⟩ => ⟨v, G, I.gc n (e2 ▸ I4) g, e1 ▸ r4, hq⟩
end
def sp0 (f : Hp → VK → XK → Prop) : Sp := fun vs H Q E => match vs with
  | [] => f H Q E
  | _ => False
def sp1 (f : V → Hp → VK → XK → Prop) : Sp := fun vs H Q E => match vs with
  | [x] => f x H Q E
  | _ => False
def sp2 (f : V → V → Hp → VK → XK → Prop) : Sp := fun vs H Q E => match vs with
  | [x, y] => f x y H Q E
  | _ => False
def sp3 (f : V → V → V → Hp → VK → XK → Prop) : Sp := fun vs H Q E => match vs with
  | [x, y, z] => f x y z H Q E
  | _ => False
def sp4 (f : V → V → V → V → Hp → VK → XK → Prop) : Sp := fun vs H Q E => match vs with
  | [x, y, z, u] => f x y z u H Q E
  | _ => False
section
variable {vs : List V} {H : Hp} {Q : VK} {E : XK}
theorem sp0.inv {f} (h : sp0 f vs H Q E) : vs = [] ∧ f H Q E := by
  unfold sp0 at h; split at h
  · exact ⟨rfl, h⟩
  · exact h.elim
theorem sp1.inv {f} (h : sp1 f vs H Q E) : ∃ x, vs = [x] ∧ f x H Q E := by
  unfold sp1 at h; split at h
  · exact ⟨_, rfl, h⟩
  · exact h.elim
theorem sp2.inv {f} (h : sp2 f vs H Q E) : ∃ x y, vs = [x, y] ∧ f x y H Q E := by
  unfold sp2 at h; split at h
  · exact ⟨_, _, rfl, h⟩
  · exact h.elim
theorem sp3.inv {f} (h : sp3 f vs H Q E) : ∃ x y z, vs = [x, y, z] ∧ f x y z H Q E := by
  unfold sp3 at h; split at h
  · exact ⟨_, _, _, rfl, h⟩
  · exact h.elim
theorem sp4.inv {f} (h : sp4 f vs H Q E) : ∃ x y z u, vs = [x, y, z, u] ∧ f x y z u H Q E := by
  unfold sp4 at h; split at h
  · exact ⟨_, _, _, _, rfl, h⟩
  · exact h.elim
theorem sp0.len {f} (h : sp0 f vs H Q E) : vs.length = 0 := by rw [(sp0.inv h).1]; rfl
theorem sp1.len {f} (h : sp1 f vs H Q E) : vs.length = 1 := by obtain ⟨_, rfl, _⟩ := sp1.inv h; rfl
theorem sp2.len {f} (h : sp2 f vs H Q E) : vs.length = 2 := by obtain ⟨_, _, rfl, _⟩ := sp2.inv h; rfl
theorem sp3.len {f} (h : sp3 f vs H Q E) : vs.length = 3 := by obtain ⟨_, _, _, rfl, _⟩ := sp3.inv h; rfl
theorem sp4.len {f} (h : sp4 f vs H Q E) : vs.length = 4 := by obtain ⟨_, _, _, _, rfl, _⟩ := sp4.inv h; rfl
end
def asI (x : V) (f : Int → Prop) : Prop := match x with
  | .int i => f i
  | _ => False
def asT (x : V) (f : List Nat → Prop) : Prop := match x with
  | .str y => f (cs y)
  | _ => False
def asB (x : V) (f : Bool → Prop) : Prop := match x with
  | .bl y => f y
  | _ => False
def asR (x : V) (f : Addr → Prop) : Prop := match x with
  | .ref y => f y
  | _ => False
theorem asI.inv {x : V} {f : Int → Prop} (h : asI x f) : ∃ i, x = .int i ∧ f i := by
  unfold asI at h; split at h
  · exact ⟨_, rfl, h⟩
  · exact h.elim
theorem asT.inv {x : V} {f : List Nat → Prop} (h : asT x f) : ∃ l, x = T l ∧ f l := by
  unfold asT at h; split at h
  · exact ⟨_, rfl, h⟩
  · exact h.elim
theorem asB.inv {x : V} {f : Bool → Prop} (h : asB x f) : ∃ i, x = .bl i ∧ f i := by
  unfold asB at h; split at h
  · exact ⟨_, rfl, h⟩
  · exact h.elim
theorem asR.inv {x : V} {f : Addr → Prop} (h : asR x f) : ∃ i, x = .ref i ∧ f i := by
  unfold asR at h; split at h
  · exact ⟨_, rfl, h⟩
  · exact h.elim
def asK (H : Hp) (x : V) (f : String → Prop) : Prop := match kindV H x with
  | some t => f t
  | none => False
theorem asK.inv {H : Hp} {x : V} {f : String → Prop} (h : asK H x f) : ∃ t, kindV H x = some t ∧ bKind t ∧ f t := by
  unfold asK at h; split at h
  · rename_i t ht
    exact ⟨t, ht, (kindV_ty (K := default) ht).2, h⟩
  · exact h.elim
theorem asK.of {H : Hp} {x : V} {f : String → Prop} {t : String} (e : kindV H x = some t) (h : f t) : asK H x f := by unfold asK; rw [e]; exact h
theorem at_get {ns : List Int} {k : Int} (h0 : 0 ≤ k) (h1 : k < ns.length) : atI (ns.map V.int) k = some (.int (ns.getD k.toNat 0)) := by
  obtain ⟨j, rfl⟩ : ∃ j : Nat, k = j := ⟨k.toNat, by omega⟩
  refine atI_nat ?_
  have l : j < ns.length := by omega
  simp [List.getD, l]
theorem pick_ints {ns : List Int} {H H1 : Hp} {Q : VK} {i : Int} (h0 : 0 ≤ i) (h1 : i < ns.length) (q : Q (.int (ns.getD i.toNat 0)) H) : kPick (ns.map V.int) H H1 Q (.int i) := by
  unfold kPick
  simp only [at_get h0 h1]
  exact q
section
variable {X : Cx} (K : PySem.W.Frag)
theorem fc_isiK (h : X.K = K := by rfl) : CallR X (.builtin "isinstance") (gIsi K) := h ▸ fc_isi
theorem fc_lenK (h : X.K = K := by rfl) : CallR X (.builtin "len") (gLen K) := h ▸ fc_len
theorem fx_seqK (h : X.K = K := by rfl) : IxR X (gIx K) := h ▸ fx_seq
theorem fi_listK {tg l : Expr} {tl : TE} (hl : PE X l tl) (h : X.K = K := by rfl) : PI X tg l (iList K tl) := h ▸ pi_list hl
end
theorem ite00 {A B : Prop} (h : A) : if false = false then A else B := by
  rw [if_pos rfl]; exact h
theorem ite10 {A B : Prop} (h : B) : if true = false then A else B := by
  rw [if_neg (by decide)]; exact h
theorem kind_exc {H : Hp} {e : Addr} {C : Value} : kindV (upd H e (ExcIs C e)) (.ref e) = none := by simp [kindV, upd_same, ExcIs]
theorem kd_bl {H : Hp} {b : Bool} : kindV H (.bl b) = some "bool" := rfl
theorem kd_int {H : Hp} {i : Int} : kindV H (.int i) = some "int" := rfl
theorem kd_str {H : Hp} {s : Str} : kindV H (.str s) = some "str" := rfl
theorem kd_non {H : Hp} : kindV H .non = some "NoneType" := rfl
theorem cl_int : clsN "int" = true := by decide
theorem is_NoneType_int : isiT "NoneType" "int" = false := by decide
theorem is_bool_int : isiT "bool" "int" = true := by decide
theorem is_int_int : isiT "int" "int" = true := by decide
theorem is_str_int : isiT "str" "int" = false := by decide
theorem is_list_int : isiT "list" "int" = false := by decide
theorem is_tuple_int : isiT "tuple" "int" = false := by decide
theorem is_dict_int : isiT "dict" "int" = false := by decide
theorem cl_bool : clsN "bool" = true := by decide
theorem is_NoneType_bool : isiT "NoneType" "bool" = false := by decide
theorem is_bool_bool : isiT "bool" "bool" = true := by decide
theorem is_int_bool : isiT "int" "bool" = false := by decide
theorem is_str_bool : isiT "str" "bool" = false := by decide
theorem is_list_bool : isiT "list" "bool" = false := by decide
theorem is_tuple_bool : isiT "tuple" "bool" = false := by decide
theorem is_dict_bool : isiT "dict" "bool" = false := by decide
theorem cl_str : clsN "str" = true := by decide
theorem is_NoneType_str : isiT "NoneType" "str" = false := by decide
theorem is_bool_str : isiT "bool" "str" = false := by decide
theorem is_int_str : isiT "int" "str" = false := by decide
theorem is_str_str : isiT "str" "str" = true := by decide
theorem is_list_str : isiT "list" "str" = false := by decide
theorem is_tuple_str : isiT "tuple" "str" = false := by decide
theorem is_dict_str : isiT "dict" "str" = false := by decide
theorem cl_list : clsN "list" = true := by decide
theorem is_NoneType_list : isiT "NoneType" "list" = false := by decide
theorem is_bool_list : isiT "bool" "list" = false := by decide
theorem is_int_list : isiT "int" "list" = false := by decide
theorem is_str_list : isiT "str" "list" = false := by decide
theorem is_list_list : isiT "list" "list" = true := by decide
theorem is_tuple_list : isiT "tuple" "list" = false := by decide
theorem is_dict_list : isiT "dict" "list" = false := by decide
theorem cl_tuple : clsN "tuple" = true := by decide
theorem is_NoneType_tuple : isiT "NoneType" "tuple" = false := by decide
theorem is_bool_tuple : isiT "bool" "tuple" = false := by decide
theorem is_int_tuple : isiT "int" "tuple" = false := by decide
theorem is_str_tuple : isiT "str" "tuple" = false := by decide
theorem is_list_tuple : isiT "list" "tuple" = false := by decide
theorem is_tuple_tuple : isiT "tuple" "tuple" = true := by decide
theorem is_dict_tuple : isiT "dict" "tuple" = false := by decide
theorem cl_dict : clsN "dict" = true := by decide
theorem is_NoneType_dict : isiT "NoneType" "dict" = false := by decide
theorem is_bool_dict : isiT "bool" "dict" = false := by decide
theorem is_int_dict : isiT "int" "dict" = false := by decide
theorem is_str_dict : isiT "str" "dict" = false := by decide
theorem is_list_dict : isiT "list" "dict" = false := by decide
theorem is_tuple_dict : isiT "tuple" "dict" = false := by decide
theorem is_dict_dict : isiT "dict" "dict" = true := by decide
theorem ak_bl {H : Hp} {b : Bool} {f : String → Prop} : asK H (.bl b) f = f "bool" := rfl
theorem ak_int {H : Hp} {i : Int} {f : String → Prop} : asK H (.int i) f = f "int" := rfl
theorem ak_str {H : Hp} {i : Str} {f : String → Prop} : asK H (.str i) f = f "str" := rfl
theorem ak_non {H : Hp} {f : String → Prop} : asK H .non f = f "NoneType" := rfl
def noStar : Expr → Bool
  | .Starred _ _ => false
  | _ => true
theorem star_cons {e : Expr} {es : List Expr} {env : Env} (h : noStar e = true) : starEach (e :: es) env = (false, eval e env) :: starEach es env := by
  cases e <;> first | rfl | cases h
structure FA (X : Cx) (es : List Expr) (t : TA) : Prop where
  pa : PA X es t
theorem fa_nil {X : Cx} : FA X [] tNil := ⟨pa_nil⟩
theorem fa_cons {X : Cx} {e : Expr} {es : List Expr} {te : TE} {t : TA} (ha : PE X e te) (hr : FA X es t) (h : noStar e = true := by rfl) : FA X (e :: es) (tCons te t) := ⟨pa_cons ha hr.pa (star_cons h)⟩
theorem gc_self {H : Hp} {P : Hp → Prop} : (∃ G, Gc H G H ∧ P G) ↔ P H := by
  constructor
  · rintro ⟨G, g, p⟩
    have e : G = H := by
      funext b
      cases h : H b with
      | none => exact g.b.free h
      | some o => exact g.a b o h
    rw [← e]; exact p
  · exact fun p => ⟨H, Gc.refl, p⟩
theorem cx_K {CX : CXT} {P : Program} {w : World} {K : PySem.W.Frag} {mg : Str → Option Value} {base : Heap} {N : List Str} {qual : Str} {scope : Scope} {f : Addr} {cd : Value} {A : Around} {outer : List Env} {s : Shared} {H : Hp} {E : XK} :
    (cxOf CX P w K mg base N qual scope f cd A outer s H E).K = K := rfl
def isI : V → Bool
  | .int _ => true
  | _ => false
def isS : V → Bool
  | .str _ => true
  | _ => false
theorem kind_int {H : Hp} {x : V} {t : String} (h : kindV H x = some t) : (t == "int") = isI x := by
  unfold kindV at h
  split at h
  case h_5 => split at h <;> cases h <;> simp [isI]
  all_goals (cases h <;> simp [isI])
theorem same_self {H : Hp} : Same H H ↔ True := ⟨fun _ => trivial, fun _ => Same.refl H⟩
theorem noT_upd {H : Hp} {p : Addr} {o : HO} (hN : NoT H) (d : dTfree o = true) : NoT (upd H p o) := hN.upd d
theorem isI_int {i : Int} : isI (.int i) = true := rfl
theorem isI_bl {i : Bool} : isI (.bl i) = false := rfl
theorem isI_str {i : Str} : isI (.str i) = false := rfl
theorem isI_ref {i : Addr} : isI (.ref i) = false := rfl
theorem isI_non  : isI (.non) = false := rfl
theorem isS_int {i : Int} : isS (.int i) = false := rfl
theorem isS_bl {i : Bool} : isS (.bl i) = false := rfl
theorem isS_str {i : Str} : isS (.str i) = true := rfl
theorem isS_ref {i : Addr} : isS (.ref i) = false := rfl
theorem isS_non  : isS (.non) = false := rfl
theorem noT_only {H : Hp} (h : Only H) : NoT H := fun b o e => by
  rcases h b with z | ⟨ob, xs, z⟩
  · rw [e] at z; cases z
  · rw [e] at z; cases z; rfl
def gcE (H : Hp) (E : XK) : XK := fun C d H' => ∃ G, Gc H G H' ∧ E C d G
theorem Fun.okG {P : Program} {w : World} {K : PySem.W.Frag} {mg : Str → Option Value} {base : Heap} {x qual : Str} {st : Stmt} {f : Addr} {fd : FuncData} {N ps : List Str} {k : Nat} {sp : Sp} (F : Fun K x qual st f fd) (S : FnScope N ps (defScope st))
    (len : ∀ vs H Q E, sp vs H Q E → vs.length = ps.length)
    (hbody : ∀ (cdv : Value) (A : Around) (outer : List Env) (s : Shared) (H : Hp) (vs : List V) (Q : VK) (E : XK), Room k (A.deeper (envOfC qual (defScope st) s.heap.objs.size f cdv)) → sp vs H Q E →
      NoT H ∧ ∃ t, PSs (cxOf (XE P w) P w K mg base N qual (defScope st) f cdv A outer s H (gcE H E)) (defBody st) t ∧ t { nx := fun _ H' => ∃ G, Gc H G H' ∧ Q .non G, rt := fun v H' => ∃ G, Gc H G H' ∧ Q v G } (start N vs) H) : FnOk P w K mg base (XE P w) (k + 1) f fd ps sp := by
  have F' : FnOk P w K mg base (XE P w) (k + 1) f fd ps (fun vs H Q' E' => ∃ Q E, sp vs H Q E ∧ Q' = (fun v H' => ∃ G, Gc H G H' ∧ Q v G) ∧ E' = gcE H E) := by
    refine F.okX S (fun vs H Q' E' ⟨Q, E, h, _⟩ => len vs H Q E h) (fun cdv A outer s H vs Q' E' hr h => ?_)
    obtain ⟨Q, E, h, rfl, rfl⟩ := h
    exact (hbody cdv A outer s H vs Q E hr h).2
  refine ⟨len, fun A outer s H args us vs Q E hr e0 hb r hsp => ?_⟩
  have nT : NoT H := by
    obtain ⟨oc, od, kV, doc, pm, an, cdv, ct, osl, rfl, lk, hcd⟩ := F.ex
    exact (hbody cdv A outer s H vs Q E (hr.deeper _) hsp).1
  refine codeAny_mono (F'.run A outer s H args us vs _ _ hr e0 hb r ⟨Q, E, hsp, rfl, rfl⟩) fun res s' h => ?_
  cases res with
  | error e =>
    obtain ⟨ea, C, rs, H', h1, h2, h3, un, hok, hrs, fly, G, g, q⟩ := h
    exact ⟨ea, C, rs, G, h1, h2, h3, un.gc g, HOk.gc nT e0.hok hok g, fun b hb => ⟨(hrs b hb).1, g.b.free (hrs b hb).2⟩, fly, q⟩
  | ok fl =>
    cases fl with
    | ret u =>
      obtain ⟨v, H', h1, h2, un, hok, rv, G, g, q⟩ := h
      exact ⟨v, G, h1, h2, un.gc g, HOk.gc nT e0.hok hok g, rv, q⟩
    | next => exact h
    | brk => exact h
    | cont => exact h
section
variable {K : PySem.W.Frag} {C D : Addr} {b : Bool} {cl : ClassData}
theorem kitCls_of (o : PySem.W.clsIn K D = some cl) (t : PySem.W.typeIn K (.ref D) = some (.type "type")) (m : PySem.W.mroIn K C (.ref D) = some b) : PySem.W.kitCls K (.ref C) (.ref D) = some b := by
  unfold PySem.W.kitCls
  simp only [o, t, Option.isSome_some, beq_self_eq_true, Bool.and_self, if_true]
  exact m
theorem exmOne_of (o : PySem.W.clsIn K D = some cl) (t : PySem.W.typeIn K (.ref D) = some (.type "type")) (s : PySem.W.mroIn K D (.type "BaseException") = some true) (m : PySem.W.mroIn K C (.ref D) = some b) : PySem.W.exmOne K (.ref C) (.ref D) = some b := by
  unfold PySem.W.exmOne
  have e : PySem.W.subIn K (.ref D) (.type "BaseException") = some true := s
  rw [e, if_pos (by rfl)]
  exact kitCls_of o t m
theorem kitOne_of (o : PySem.W.clsIn K D = some cl) (t : PySem.W.typeIn K (.ref D) = some (.type "type")) (s : PySem.W.mroIn K C (.ref C) = some true) (m : PySem.W.mroIn K C (.ref D) = some b) : PySem.W.kitOne K (.ref C) (.ref D) = some b := by
  unfold PySem.W.kitOne
  by_cases e : ((Value.ref C == Value.ref D) = true)
  · rw [if_pos e]
    have e' : C = D := Value.ref.inj (beq_iff_eq.mp e)
    subst e'
    rw [s] at m; exact m
  · rw [if_neg e]; exact kitCls_of o t m
theorem kitMeta_VE : PySem.W.kitMeta "ValueError" = true := by kernel_rfl
theorem kitOne_VE (m : PySem.W.mroIn K C (.type "ValueError") = some b) : PySem.W.kitOne K (.ref C) (.type "ValueError") = some b := by
  unfold PySem.W.kitOne
  rw [if_neg (by intro z; cases (beq_iff_eq.mp z))]
  unfold PySem.W.kitCls
  simp only [kitMeta_VE, if_true]
  exact m
end
theorem walk_ofX {l : PySem.W.OpenLaw} {n k : Nat} {q : Program} {loose : List Str} {XP : (Str → Option Value) → Heap → Prop} {YP : World → Heap → Prop} {d : DefRec} {K : Params → PySem.W.Frag} {sp : PySem.W.Frag → Sp} {x : Str}
    (hn : l.most = some n) (hn2 : n ≤ sizeLine) (hdf : d.params.defaults = []) (hr : Room k callerA)
    (hY : ∀ (w : World) (h : Heap), YP w h → (K w.params).In h)
    (F : ∀ (w : World) (mg : Str → Option Value) (fa : Addr) (h : Heap), (K w.params).In h → h.Ns mainGlobals mg → mg d.name = some (.ref fa) →
      ∃ fd : FuncData, (∀ (s : Shared) (u : Value), BindsTo s fd ⟨[u], []⟩ [(x, u)]) ∧
        ∀ base : Heap, (K w.params).In base → base.Ns mainGlobals mg → FnOk l.prog w (K w.params) mg base (XE l.prog w) k fa fd [x] (sp (K w.params)))
    (hsp : ∀ (K : PySem.W.Frag) (H : Hp) (a : Addr) (ns : List Int), ns.length ≤ n → Only H → SqL K H a (ns.map V.int) → sp K [.ref a] H (fun v _ => v = .bl true) fun _ _ _ => False) :
    PySem.W.WalkO q loose XP YP l.row.toRowW d [] (fun f vs => PySem.call f vs) :=
  walk_of (K := K) (CX := fun w => XE l.prog w) (sp := fun w => sp (K w.params)) hn hn2 hdf hr hY F (fun w H a ns h1 h2 h3 => hsp (K w.params) H a ns h1 h2 h3) fun w H s e s' ⟨_, _, _, _, _, _, _, _, _, _, _, z⟩ => z
end L2
set_option Elab.async false
set_option linter.all false
set_option maxRecDepth 100000
namespace L2
open PySem PySem.Spec PyProof.Rows
section
variable {prog : Program} {w : World} {A : Around} {R : Result → Shared → Prop} {s : Shared}
theorem compLoop_any {elt target iter : Expr} {ifs : List Expr} {scope : Scope} {pos : Pos} {it acc : Value} {env : Env} (I : Nat → Shared → Prop)
    (turn : ∀ n s, I n s → wpAny (model prog w) A (pyNext it) (fun r s₁ => match r with
      | none => R (.ok .next) s₁
      | some v => wpAny (model prog w) A (letOwnedTupleGo target it v) (fun _ s₁' => wpAny (model prog w) A (assign target env v) (fun _ s₂ =>
          wpAny (model prog w) A (forIn ifs true fun c r => if r = true then do let ok ← isTrue c env (eval c env); pure (ForInStep.yield ok) else pure (ForInStep.yield r)) (fun ok s₃ =>
            if ok = true then wpAny (model prog w) A (eval elt env) (fun x s₄ =>
              wpAny (model prog w) A (call (.builtin "list.append") [acc, x]) (fun _ s₅ => ∃ m, m < n ∧ I m s₅) (notedBy (model prog w) A env fun e s' => R (.error e) s') s₄) (notedBy (model prog w) A env fun e s' => R (.error e) s') s₃
            else ∃ m, m < n ∧ I m s₃) (notedBy (model prog w) A env fun e s' => R (.error e) s') s₂) (notedBy (model prog w) A env fun e s' => R (.error e) s') s₁') (notedBy (model prog w) A env fun e s' => R (.error e) s') s₁) (notedBy (model prog w) A env fun e s' => R (.error e) s') s)
    (n : Nat) (h : I n s) :
    codeAny (model prog w) A (.compLoop (.ListComp elt [⟨target, iter, ifs, 0⟩] scope pos) 0 it acc env) R s := by
  refine codeAny_loop rfl I (fun n s hI => ?_) n h
  show wpAny _ A ((compTurn (.ListComp elt [⟨target, iter, ifs, 0⟩] scope pos) 0 it acc env).onRaise (fun x => do noteFrame x env; theTreesLotGoes x)) _ _ s
  refine wpAny_noted ?_
  rw [compTurn_list]
  refine wpAny_bind (wpAny_standAt (wpAny_bind (wpAny_mono (turn n s hI) (fun r s₁ h₁ => ?_) fun _ _ h' => h')))
  cases r with
  | none => exact wpAny_pure h₁
  | some v =>
    refine wpAny_bind (wpAny_mono h₁ (fun _ s₁' h₁' => ?_) fun _ _ h' => h')
    refine wpAny_bind (wpAny_mono h₁' (fun _ s₂ h₂ => wpAny_bind (wpAny_mono h₂ (fun ok s₃ h₃ => ?_) fun _ _ h' => h')) fun _ _ h' => h')
    cases ok with
    | false => exact wpAny_pure ⟨rfl, h₃⟩
    | true =>
      exact wpAny_bind (wpAny_bind (wpAny_mono h₃ (fun x s₄ h₄ => wpAny_bind (wpAny_mono h₄ (fun _ s₅ h₅ => wpAny_pure (wpAny_pure ⟨rfl, h₅⟩)) fun _ _ h' => h')) fun _ _ h' => h'))
end
def compCx (X : Cx) (N : List Str) (scope : Scope) (cl : List (Str × Addr)) (C : Addr) (s₂ : Shared) (H₂ : Hp) (ex : List Addr) (pn : List (Addr × Obj)) : Cx :=
  { X with N := N, s₀ := s₂, H₀ := H₂, env := compEnvC scope cl C X.env, outer := X.stack, stack := X.stack, ex := ex, fn := fun _ => false, pn := pn, xe := fun _ _ => False }
structure CompScope (X : Cx) (scope : Scope) (cl : List (Str × Addr)) (x : Str) (fr : List Str) : Prop where
  clos : closureFor scope X.env = pure cl
  nocell : ∀ y ∈ scope.names, y.2 ≠ .cell
  kind : scope.kind = .function
  names : ∀ y ∈ scope.names, y.2 = .local → scope.names.lookup y.1 = some .local
  own : scope.names.lookup x = some .local
  keys : ∀ y ∈ cl, y.1 ∈ fr
  cells : fr.map (fun y => cl.lookup y) = fr.map (fun y => X.env.cells.lookup y)
  kinds : ∀ y ∈ fr, X.env.kindOf y = some .cell ∨ X.env.kindOf y = some .free
  kin : ∀ y ∈ fr, (relabel scope X.env).names.lookup y = some .cell ∨ (relabel scope X.env).names.lookup y = some .free
  only : ∀ y, ((relabel scope X.env).names.lookup y = some .cell ∨ (relabel scope X.env).names.lookup y = some .free) → y ∈ fr
theorem lookup_mem {α : Type} {l : List (Str × α)} {y : Str} {c : α} (h : l.lookup y = some c) : (y, c) ∈ l := PySem.mem_of_lookup h
theorem CompScope.cell {X : Cx} {scope : Scope} {cl : List (Str × Addr)} {x : Str} {fr : List Str} (S : CompScope X scope cl x fr) {y : Str} (h : y ∈ fr) : cl.lookup y = X.env.cells.lookup y := by
  have e := S.cells
  obtain ⟨i, hi, rfl⟩ := List.getElem_of_mem h
  have := congrArg (fun l => l[i]?) e
  simpa [hi] using this
theorem CompScope.sub {X : Cx} {scope : Scope} {cl : List (Str × Addr)} {x : Str} {fr : List Str} (S : CompScope X scope cl x fr) {y : Str} {c : Addr} (h : cl.lookup y = some c) : X.env.cells.lookup y = some c := by
  rw [← S.cell (S.keys _ (lookup_mem h))]; exact h
def PTs (X : Cx) (ifs : List Expr) (t : TT) : Prop :=
  ∀ (pins : List (Addr × Obj)) (s : Shared) (σ : St) (H : Hp) (Q : Bool → Hp → Prop), Inv X pins σ H s → t σ H Q →
    wpAny (model X.prog X.w) X.A (forIn ifs true fun c r => if r = true then do let ok ← isTrue c X.env (eval c X.env); pure (ForInStep.yield ok) else pure (ForInStep.yield r)) (TP X pins σ Q) X.xe s
theorem pts_nil {X : Cx} : PTs X [] (fun _ H Q => Q true H) := fun pins s σ H Q I h => wpAny_tests_nil ⟨H, I, h⟩
def tComp (wi : TI) (ks : List Nat) (tt : TT) (te : TE) : TE := fun σ H Q => wi σ H fun J H1 => ∀ D, H1 D = none → ∃ W : Nat → Nat → List V → Hp → Prop, (∃ m, W 0 m [] (upd H1 D (.lst []))) ∧
  ∀ i m ys H2, W i m ys H2 → H2 D = some (.lst ys) ∧ ((J.stop i H2 ∧ Q (.ref D) H2) ∨ (J.go i H2 ∧ ∀ x H3, J.yld i H2 x H3 →
    tt (some x :: ks.map fun k => (σ[k]?).join) H3 fun b H4 => if b = true then te (some x :: ks.map fun k => (σ[k]?).join) H4 fun y H5 => H5 D = some (.lst ys) ∧ ys.length < sizeLine ∧ ∃ m', m' < m ∧ W (i + 1) m' (ys ++ [y]) (upd H5 D (.lst (ys ++ [y])))
      else ∃ m', m' < m ∧ W (i + 1) m' ys H4))
theorem comp_run {X : Cx} {elt iter : Expr} {x : Str} {px pos : Pos} {ifs : List Expr} {scope : Scope} {cl : List (Str × Addr)} {fr : List Str} {ks : List Nat} {wi : TI} {tt : TT} {te : TE} (hc : X.calm = true) (S : CompScope X scope cl x fr)
    (hks : ks.map (fun k => X.N[k]?) = fr.map some) (hnd : (x :: fr).Nodup) (hi : PI X (.Name x px) iter wi)
    (ht : ∀ C s₂ H₂ ex pn, PTs (compCx X (x :: fr) scope cl C s₂ H₂ ex pn) ifs tt) (he : ∀ C s₂ H₂ ex pn, PE (compCx X (x :: fr) scope cl C s₂ H₂ ex pn) elt te)
    (hs : ∀ x, foldedSetIterable iter X.env x = pure x := by intro _; rfl)
    {pins : List (Addr × Obj)} {s : Shared} {σ : St} {H : Hp} {Q : VK} (I : Inv X pins σ H s) (h : tComp wi ks tt te σ H Q) (use : Option (Value → Sem Unit)) (Qp : Value → Shared → Prop)
    (hend : ∀ (D C : Addr) (H' : Hp) (s' : Shared) (mC : Str → Option Value) (f : Flow), Inv X pins σ H' s' → FpOk X pins H' C → s'.heap.Ns C mC → Q (.ref D) H' → compPost (model X.prog X.w) X.A X.xe use Qp (.ref D) C (.ok f) s') :
    wpAny (model X.prog X.w) X.A (comprehension (.ListComp elt [⟨.Name x px, iter, ifs, 0⟩] scope pos) scope X.env (firstIterPos [⟨.Name x px, iter, ifs, 0⟩] pos) (newList []) false (firstIter [⟨.Name x px, iter, ifs, 0⟩] X.env) use) Qp X.xe s := by
  refine wpAny_comprehension_free (use := use) rfl hs S.clos S.kind S.names (thn (hi pins s σ H _ I h) fun v s1 h1 => thn h1 fun itv s2 h2 => ?_)
  obtain ⟨it, fp, tn, J, H2, e, I2, T, st2, f2, hW⟩ := h2
  subst e
  refine wpAny_newObj_type (wpAny_newFunctionEnv S.nocell (by intro y hy; simp at hy) (fun h₁ hns₁ hsb₁ => ?_) S.kind)
  dsimp only at hns₁ hsb₁ ⊢
  have hD0 : H2 s2.heap.objs.size = none := I2.hok.fresh (Nat.le_refl _)
  obtain ⟨W, ⟨m0, w0⟩, turn⟩ := hW s2.heap.objs.size hD0
  generalize hs3 : s2.heap.push { cls := .type "list", dict := none, data := .seq ([] : List Value).toArray } = g3 at hns₁ hsb₁ ⊢
  have hsz3 : g3.objs.size = s2.heap.objs.size + 1 := by rw [← hs3, Heap.size_push]
  have up3 : ∀ b o, s2.heap.get? b = some o → g3.get? b = some o := fun b o e => by rw [← hs3]; exact Heap.get?_push_of_some _ e
  have gD : g3.get? s2.heap.objs.size = some { cls := .type "list", dict := none, data := .seq ([] : List Value).toArray } := by rw [← hs3]; exact Heap.get?_push_size _ rfl
  have I3 : Inv X pins σ (upd H2 s2.heap.objs.size (.lst [])) { s2 with heap := g3 } := I2.laid (t' := s2.toks) up3 (Nat.le_refl _) ⟨by simp, [], 0, .nil, gD⟩
  have keep4 : ∀ b o, g3.get? b = some o → h₁.get? b = some o := fun b o e => (hsb₁.2 b (Nat.ne_of_lt (Heap.lt_size e))).trans (Heap.get?_push_of_some _ e)
  have hCn : (upd H2 s2.heap.objs.size (.lst [])) g3.objs.size = none := I3.hok.fresh (Nat.le_refl _)
  have fpD : ∀ b ∈ fp, b ≠ s2.heap.objs.size := fun b hb z => by
    obtain ⟨o, e, _⟩ := T.obj 0 _ st2 b hb
    exact absurd (Heap.lt_size e) (by rw [z]; exact Nat.lt_irrefl _)
  have fpC : ∀ b ∈ fp, b ≠ g3.objs.size := fun b hb z => by
    obtain ⟨o, e, _⟩ := T.obj 0 _ st2 b hb
    exact absurd (Heap.lt_size (up3 b o e)) (by rw [z]; exact Nat.lt_irrefl _)
  have fpN : ∀ b ∈ fp, (upd H2 s2.heap.objs.size (.lst [])) b = none := fun b hb => by rw [upd_ne (fpD b hb)]; exact (f2 b hb).1
  have Ok : (compCx X (x :: fr) scope cl g3.objs.size { s2 with heap := g3 } (upd H2 s2.heap.objs.size (.lst [])) fp (X.pn ++ pins)).Ok := by
    refine ⟨I.ok.mod, S.kind, I.ok.glob, I.ok.blt, Nat.le_refl _, fun y z c e1 e2 => I.ok.inj y z c (S.sub e1) (S.sub e2), fun y hy => ?_, (fun y c z => nomatch z), I.ok.hd, I.ok.frames, .inl rfl, fun b hb => ⟨fpC b hb, fun y c e => (f2 b hb).2.2.2.2.1 y c (S.sub e)⟩, I3.bs, Nat.le_trans I.ok.bsz I3.sz, fun b o e hb => ?_, fun b hb z => ?_, I3.stack, I3.stkFree⟩
    · have hy' : y ∈ fr := S.only y hy
      obtain ⟨c, e⟩ := I.ok.has y (S.kinds y hy')
      exact ⟨c, (S.cell hy').trans e⟩
    · rcases (f2 b hb).2.2.2.1 with q | q
      · exact I.ok.noex b o e q
      · exact absurd (Heap.lt_size e) (Nat.not_lt.mpr (Nat.le_trans I.ok.bsz q))
    · rcases List.mem_cons.mp (I3.stkSub b z) with q | q
      · exact (f2 b hb).2.1 q
      · exact (f2 b hb).2.2.1 q
  have I4 : Inv (compCx X (x :: fr) scope cl g3.objs.size { s2 with heap := g3 } (upd H2 s2.heap.objs.size (.lst [])) fp (X.pn ++ pins)) [] (none :: ks.map fun k => (σ[k]?).join) (upd H2 s2.heap.objs.size (.lst [])) { s2 with heap := h₁, toks := s2.toks + ([] : List (Str × Value)).length } := by
    refine ⟨Ok, rfl, I3.bare, Un.kept keep4, ⟨_, hns₁, fun i y v e1 e2 e3 => ?_⟩, fun y c e => ?_, hCn, fun y c e => I3.freeC y c (S.sub e), fun p hp => ?_, I3.hok.kept keep4, ?_⟩
    · cases i with
      | zero => simp at e2
      | succ i =>
        have e1' : fr[i]? = some y := by simpa [compCx] using e1
        have hy : y ∈ fr := List.mem_of_getElem? e1'
        have ek : (ks.map (fun k => X.N[k]?))[i]? = (fr.map some)[i]? := by rw [hks]
        rw [List.getElem?_map, List.getElem?_map, e1'] at ek
        have e2' : (ks.map fun k => (σ[k]?).join)[i]? = some (some v) := by simpa using e2
        rw [List.getElem?_map] at e2'
        cases hk : ks[i]? with
        | none => rw [hk] at ek; cases ek
        | some k =>
          rw [hk] at ek e2'
          have ek' : X.N[k]? = some y := by simpa using ek
          have e2'' : (σ[k]?).join = some v := by simpa using e2'
          have es : σ[k]? = some (some v) := by
            cases q : σ[k]? with
            | none => rw [q] at e2''; cases e2''
            | some z => rw [q] at e2''; rw [show z = some v from e2'']
          obtain ⟨m, hn, hl⟩ := I3.loc
          have hkd := S.kinds y hy
          obtain ⟨u, r, lk⟩ := hl k y v ek' es (by rcases hkd with q | q; exact .inr (.inl q); exact .inr (.inr q))
          refine ⟨u, r, .inr ⟨S.kin y hy, ?_⟩⟩
          rcases lk with ⟨q, _⟩ | ⟨_, c, ec, hcell⟩
          · rcases hkd with z | z <;> (rw [q] at z; cases z)
          · obtain ⟨o, ho, hd⟩ := hcell
            exact ⟨c, (S.cell hy).trans ec, o, keep4 _ _ ho, hd⟩
    · obtain ⟨v, o, ho, hd⟩ := I3.cell y c (S.sub e)
      exact ⟨v, o, keep4 _ _ ho, hd⟩
    · have hp' : p ∈ X.pn ++ pins := by simpa [compCx] using hp
      obtain ⟨a1, a2, a3, a4, a5⟩ := I3.pin p hp'
      refine ⟨keep4 _ _ a1, a2, Nat.ne_of_lt (Heap.lt_size a1), fun z => ?_, a5⟩
      rcases List.mem_cons.mp (I3.stkSub p.1 z) with q | q
      · exact a3 q
      · exact a4 q
    · show (none :: ks.map _).length = (x :: fr).length
      have := congrArg List.length hks
      simp at this
      simp [this]
  have st4 : tn 0 h₁ := T.keep 0 _ _ st2 fun b hb o e => keep4 _ _ (up3 _ _ e)
  have stat : ∀ {H' : Hp}, (∀ b ∈ fp, H' b = none) → ∀ b ∈ fp, FpOk (compCx X (x :: fr) scope cl g3.objs.size { s2 with heap := g3 } (upd H2 s2.heap.objs.size (.lst [])) fp (X.pn ++ pins)) [] H' b := fun hn b hb =>
    ⟨hn b hb, fpC b hb, Ok.exfs b hb, .inl hb, fun y c e => (f2 b hb).2.2.2.2.1 y c (S.sub e), fun p hp => (f2 b hb).2.2.2.2.2 p (by simpa [compCx] using hp)⟩
  have loop : codeAny (model X.prog X.w) X.A (.compLoop (.ListComp elt [⟨.Name x px, iter, ifs, 0⟩] scope pos) 0 (.ref it) (.ref s2.heap.objs.size) (compEnvC scope cl g3.objs.size X.env))
      (compPost (model X.prog X.w) X.A X.xe use Qp (.ref s2.heap.objs.size) g3.objs.size) { s2 with heap := h₁, toks := s2.toks + ([] : List (Str × Value)).length } := by
    refine compLoop_any (fun n s' => ∃ i ys σ' H', Inv (compCx X (x :: fr) scope cl g3.objs.size { s2 with heap := g3 } (upd H2 s2.heap.objs.size (.lst [])) fp (X.pn ++ pins)) [] σ' H' s' ∧ (∃ z, σ' = z :: ks.map fun k => (σ[k]?).join) ∧ tn i s'.heap ∧ (∀ b ∈ fp, H' b = none) ∧ W i n ys H') ?_ m0
      ⟨0, [], _, _, I4, ⟨none, rfl⟩, st4, fpN, w0⟩
    rintro n s' ⟨i, ys, σ', H', I5, ⟨z, rfl⟩, st5, fr5, w5⟩
    obtain ⟨hD, hor⟩ := turn i n ys H' w5
    rcases hor with ⟨stop, qn⟩ | ⟨go, step⟩
    · refine wpAny_mono (T.done (compCx X (x :: fr) scope cl g3.objs.size { s2 with heap := g3 } (upd H2 s2.heap.objs.size (.lst [])) fp (X.pn ++ pins)) rfl rfl rfl hc i [] s' _ H' (fun _ _ => False) I5 (stat fr5) st5 stop) (fun r s6 ⟨hr, I6⟩ => ?_) (fun _ _ f => f.elim)
      subst hr
      obtain ⟨mC, hnC, _⟩ := I6.loc
      have tr : ∀ b o, b ≠ g3.objs.size → s6.heap.get? b = some o → s6.heap.get? b = some o := fun b o hb e => e
      have U := I6.base
      have neC : ∀ b o, g3.get? b = some o → b ≠ g3.objs.size := fun b o e => Nat.ne_of_lt (Heap.lt_size e)
      have U' : Un (frs X.stack) fp (upd H2 s2.heap.objs.size (.lst [])) H' g3 s6.heap := ⟨fun b o q n hb hx => tr b o (neC b o q) (U.keep b o q n hb hx), fun b o q n hb hx => let ⟨sl, e⟩ := U.slot b o q n hb hx; ⟨sl, tr _ _ (neC b o q) e⟩, U.free, fun b o q hx => let ⟨o', e⟩ := U.there b o q hx; ⟨o', tr _ _ (neC b o q) e⟩, U.tups, U.frzs, U.tbls⟩
      have ok' : HOk X.prog X.w H' s6.heap := fun a o e => (I6.hok a o e).stay (fun b u hb q => tr b u (fun z => by
          have fC : H' g3.objs.size = none := I6.free
          rcases hb with r | r
          · rw [← z, r, e] at fC; cases fC
          · rw [← z, r] at fC; cases fC) q) (fun _ q => q) fun _ _ q => q
      have J6 : Inv X pins σ H' s6 := I3.call' (s' := s6) (ch := fp) I6.os U' ok' I6.bare fun b hb => ⟨(f2 b hb).2.2.2.1, (f2 b hb).2.1, (f2 b hb).2.2.2.2.1, (f2 b hb).2.2.2.2.2⟩
      exact hend s2.heap.objs.size g3.objs.size H' s6 mC _ J6 (I3.fpOk (Nat.le_refl _) I6.free) hnC qn
    · refine wpAny_mono (T.item (compCx X (x :: fr) scope cl g3.objs.size { s2 with heap := g3 } (upd H2 s2.heap.objs.size (.lst [])) fp (X.pn ++ pins)) rfl rfl rfl hc i [] s' _ H' (fun _ _ => False) I5 (stat fr5) st5 go) (fun r s6 ⟨u, hr, h6⟩ => ?_) (fun _ _ f => f.elim)
      subst hr
      refine wpAny_mono h6 (fun _ s7 ⟨xv, H7, I7, r7, y7, st7, fr7⟩ => ?_) (fun _ _ f => f.elim)
      have I7' := I7.pinned (stat fr7) (T.obj _ _ st7)
      have own : Loc (compEnvC scope cl g3.objs.size X.env).scope x := .inl (lookup_relabel_local S.own)
      refine wpAny_assign_Name (store_ok (i := 0) I7' hnd rfl own r7 (fun s8 I8 => ?_) (.inr (lookup_relabel_local S.own)))
      have pinsTo : ∀ {σ9 : St} {H9 : Hp} {s9 : Shared}, Inv (compCx X (x :: fr) scope cl g3.objs.size { s2 with heap := g3 } (upd H2 s2.heap.objs.size (.lst [])) fp (X.pn ++ pins)) ([] ++ pinsAt fp s7.heap) σ9 H9 s9 → tn (i + 1) s9.heap ∧ ∀ b ∈ fp, H9 b = none := fun {σ9 H9 s9} I9 =>
        ⟨T.keep _ _ _ st7 fun b hb o e => (I9.pin (b, o) (List.mem_append_right _ (List.mem_append_right _ (mem_pinsAt hb e)))).1, fun b hb => by
          obtain ⟨o, e, d⟩ := T.obj _ _ st7 b hb
          exact (I9.pin (b, o) (List.mem_append_right _ (List.mem_append_right _ (mem_pinsAt hb e)))).2.1⟩
      refine wpAny_mono (ht _ _ _ _ _ _ s8 _ H7 _ I8 (step xv H7 y7)) (fun ok s9 ⟨H9, I9, q9⟩ => ?_) (fun _ _ f => f.elim)
      cases ok with
      | false =>
        rw [if_neg Bool.false_ne_true] at q9 ⊢
        obtain ⟨m', hm, w9⟩ := q9
        obtain ⟨t9, f9⟩ := pinsTo I9
        exact ⟨m', hm, i + 1, ys, _, H9, I9.unpinned, ⟨_, rfl⟩, t9, f9, w9⟩
      | true =>
        rw [if_pos rfl] at q9 ⊢
        refine wpAny_mono (he _ _ _ _ _ _ s9 _ H9 _ I9 q9) (fun yv s10 ⟨y, H10, I10, r10, hD10, hlen, m', hm, w10⟩ => ?_) (fun _ _ f => f.elim)
        refine wpAny_mono (mt_append (X := compCx X (x :: fr) scope cl g3.objs.size { s2 with heap := g3 } (upd H2 s2.heap.objs.size (.lst [])) fp (X.pn ++ pins)) _ s10 _ H10 (.ref s2.heap.objs.size) [y] (.ref s2.heap.objs.size) [yv]
          (fun _ H' => H' = upd H10 s2.heap.objs.size (.lst (ys ++ [y]))) I10 rfl (.cons r10 .nil) ⟨_, ys, y, rfl, rfl, hD10, hlen, rfl⟩) (fun _ s11 ⟨_, H11, I11, _, e11⟩ => ?_) (fun _ _ f => f.elim)
        subst e11
        obtain ⟨t11, f11⟩ := pinsTo I11
        exact ⟨m', hm, i + 1, ys ++ [y], _, _, I11.unpinned, ⟨_, rfl⟩, t11, f11, w10⟩
  exact codeAny_compStart_list loop (T.self X.A 0 _ _ _ st4 loop)
theorem pe_comp {X : Cx} {elt iter : Expr} {x : Str} {px pos : Pos} {ifs : List Expr} {scope : Scope} {cl : List (Str × Addr)} {fr : List Str} {ks : List Nat} {wi : TI} {tt : TT} {te : TE} (hc : X.calm = true) (S : CompScope X scope cl x fr)
    (hks : ks.map (fun k => X.N[k]?) = fr.map some) (hnd : (x :: fr).Nodup) (hi : PI X (.Name x px) iter wi)
    (ht : ∀ C s₂ H₂ ex pn, PTs (compCx X (x :: fr) scope cl C s₂ H₂ ex pn) ifs tt) (he : ∀ C s₂ H₂ ex pn, PE (compCx X (x :: fr) scope cl C s₂ H₂ ex pn) elt te)
    (hs : ∀ x, foldedSetIterable iter X.env x = pure x := by intro _; rfl) : PE X (.ListComp elt [⟨.Name x px, iter, ifs, 0⟩] scope pos) (tComp wi ks tt te) := by
  intro pins s σ H Q I h
  rw [eval_ListComp]
  refine comp_run hc S hks hnd hi ht he hs I h none _ fun D C H' s' mC f J fp hn q => ⟨mC, hn, fun h' sb => ?_⟩
  obtain ⟨f0, f1, f2, f3, f4, f5⟩ := fp
  exact ⟨.ref D, H', J.turned (t' := s'.toks) (fun b o hb e => (sb.2 b hb).trans e) f0 f1 f3 f4 f5, rfl, q⟩
theorem ps_setC {X : Cx} {i0 : Nat} {x0 : Str} {px0 pos0 : Pos} {elt iter : Expr} {x : Str} {px pos : Pos} {ifs : List Expr} {scope : Scope} {cl : List (Str × Addr)} {fr : List Str} {ks : List Nat} {wi : TI} {tt : TT} {te : TE} (hN : X.N.Nodup) (hi0 : X.N[i0]? = some x0) (hx0 : Loc X.env.scope x0) (hc : X.calm = true) (S : CompScope X scope cl x fr)
    (hks : ks.map (fun k => X.N[k]?) = fr.map some) (hnd : (x :: fr).Nodup) (hi : PI X (.Name x px) iter wi)
    (ht : ∀ C s₂ H₂ ex pn, PTs (compCx X (x :: fr) scope cl C s₂ H₂ ex pn) ifs tt) (he : ∀ C s₂ H₂ ex pn, PE (compCx X (x :: fr) scope cl C s₂ H₂ ex pn) elt te)
    (hs : ∀ x, foldedSetIterable iter X.env x = pure x := by intro _; rfl)
    (hsw : swapsWith (.ListComp elt [⟨.Name x px, iter, ifs, 0⟩] scope pos) (some (.Name x0 px0)) pos0.line X.env = pure true := by rfl) (hf : X.fn x0 = true ∨ X.env.scope.names.lookup x0 = some .local := by first | exact .inl rfl | exact .inr rfl | assumption) :
    PS X (.Assign [.Name x0 px0] (.ListComp elt [⟨.Name x px, iter, ifs, 0⟩] scope pos) pos0) (tAsg (tComp wi ks tt te) (gName i0)) := by
  intro pins s σ H D I h
  rw [exec_Assign_Name_used _ _ _ _ hsw]
  refine wpAny_bind (wpAny_standAt (wpAny_bind (wpAny_bind ?_)))
  refine comp_run hc S hks hnd hi ht he hs I h (some (assign (.Name x0 px0) X.env)) _ fun D' C H' s' mC f J fp hn q => ?_
  obtain ⟨f0, f1, f2, f3, f4, f5⟩ := fp
  refine wpAny_assign_Name (store_ok2 J hN hi0 hx0 (v := .ref D') rfl (fun s7 I7 ⟨a, sb, ha⟩ => ?_) hf)
  have hCa : C ≠ a := by
    rcases ha with e | e
    · rw [e]; exact f1
    · exact fun z => f4 _ _ e z.symm
  refine ⟨mC, hn.sameBut sb hCa, fun h' sb2 => ?_⟩
  have J2 := I7.turned (t' := s7.toks) (fun b o hb e => (sb2.2 b hb).trans e) f0 f1 f3 f4 f5
  exact wpAny_pure (wpAny_pure ⟨_, H', J2, q⟩)
end L2
set_option Elab.async false
set_option maxHeartbeats 4000000
namespace MT
def isD (c : Nat) : Bool := decide (48 ≤ c) && decide (c ≤ 57)
def vl (t : List Nat) : Nat := t.foldl (fun n c => 10 * n + (c - 48)) 0
def nin (t : List Nat) : Nat := t.foldl (fun n c => if isD c then 10 * n + (c - 48) else n) 0
def fg (t : List Nat) : List Nat := if t.take 1 = [45] then t.drop 1 else t
def good (t : List Nat) : Prop := fg t ≠ [] ∧ (∀ c ∈ fg t, isD c = true) ∧ ((fg t).head? = some 48 → t = [48])
end MT
set_option Elab.async false
set_option linter.all false
set_option maxRecDepth 100000
namespace L2
open PySem PySem.Spec PyProof.Rows Builtin Builtin.Str
section
variable {X : Cx} {e a b c : Expr} {pos : Pos}
def gIdx : V → List V → Hp → VK → Prop
  | .str x, [.str y], H, Q => (match cs y with
    | [c] => c ∈ cs x ∧ ∀ i : Nat, (cs x)[i]? = some c → Q (.int i) H
    | _ => False)
  | _, _, _, _ => False
theorem gIdx.inv {x : V} {xs : List V} {H : Hp} {Q : VK} (h : gIdx x xs H Q) : ∃ x0 y c, x = .str x0 ∧ xs = [.str y] ∧ cs y = [c] ∧ c ∈ cs x0 ∧ ∀ i : Nat, (cs x0)[i]? = some c → Q (.int i) H := by
  unfold gIdx at h
  split at h
  · split at h
    · exact ⟨_, _, _, rfl, rfl, by assumption, h.1, h.2⟩
    · exact h.elim
  · exact h.elim
end
end L2
set_option Elab.async false
set_option linter.all false
set_option maxRecDepth 100000
namespace L2
open PySem PySem.Spec PyProof.Rows
section
variable {X : Cx}
def CDivB (i j : Int) : Prop := 0 < j ∧ j.natAbs.log2 < 1000
theorem fo_fdivB : OpR X (binaryOp .FloorDiv) (gIC CDivB fun i j => .int (i / j)) := by
  have h : OpR X (binaryOp .FloorDiv) (rI CDivB fun i j => .int (i / j)) := opI fun i j _ _ _ _ _ hc q => by
    have e : i / j = i.fdiv j := (Int.fdiv_eq_ediv_of_nonneg i (Int.le_of_lt hc.1)).symm
    rw [e] at q
    exact floordiv_int (Ne.symm (Int.ne_of_lt hc.1)) q (.inl (PyProof.noPylong_of_log2 (by have := hc.2; omega)))
  exact h.imp gIC_to
theorem bools_of : ∀ {bs : List Bool} {us : List Value}, Vals (bs.map V.bl) us → LSm.BoolsAre us bs
  | [], _, .nil => .nil
  | b :: r, _, .cons e t => by
    cases (show _ = Value.bool b from e)
    exact .cons b (bools_of t)
def gAll (K : PySem.W.Frag) : List V → Hp → VK → Prop
  | [.ref p], H, Q => ∃ bs : List Bool, SqL K H p (bs.map V.bl) ∧ Q (.bl (bs.all id)) H
  | _, _, _ => False
theorem fc_allK (K : PySem.W.Frag) (hc : X.calm = true) (hK : X.K = K := by rfl) : CallR X (.builtin "all") (gAll K) := by
  subst hK
  intro pins s σ H xs us Q I r h
  unfold gAll at h
  split at h
  · rename_i p
    obtain ⟨bs, hq, q⟩ := h
    obtain ⟨u, rfl, rx⟩ := vals1 r
    cases (show u = Value.ref p from rx)
    obtain ⟨its, rv, pl, hz⟩ := I.list hq
    have hne : p ≠ s.heap.objs.size := Nat.ne_of_lt (by obtain ⟨_, e, _⟩ := pl.isList; exact Heap.lt_size e)
    have hb : LSm.BoolsAre its bs := bools_of rv
    refine call_all_walk (wpAny_pyIter_list pl.isList ?_)
    refine ⟨s.heap.objs.size, [s.heap.objs.size, p], [s.heap.objs.size], its.toArray.size, _, _, fun i => (bs[i]?).getD true, rfl, Walks.list (A := X.A.in1) (I.ok.hd hc) _ p hne its.toArray,
      ⟨⟨_, Heap.get?_push_size _ rfl, rfl, rfl⟩, pl.isList.push _⟩, fun i v s' Q' E' hP hQ => ?_, fun h' tk hk => ?_⟩
    · obtain ⟨b, e, rfl⟩ := hb.get i v (by simpa using hP)
      simp only [e, Option.getD_some] at hQ
      exact wpAny_truthy_bool hQ
    · have e : ((List.range its.toArray.size).all fun i => (bs[i]?).getD true) = bs.all id := by
        rw [List.size_toArray, hb.length]; exact LSm.range_all bs
      rw [e]
      exact ⟨.bl (bs.all id), H, I.kept (LSm.kept_iter hk), rfl, q⟩
  · exact h.elim
end
end L2
set_option Elab.async false
set_option linter.all false
set_option maxRecDepth 100000
namespace L2
open PySem PySem.Spec PyProof.Rows Builtin Builtin.Str
def S (l : List Nat) : Str := ⟨⟨l⟩⟩
section
variable {X : Cx}
end
end L2
namespace PySem
open Sem (wp)
open Builtin Builtin.Str Builtin.Int
set_option maxRecDepth 100000
namespace F
end F
section
variable {prog : Program} {w : World} {A : Around} {E : Value → Shared → Prop} {s : Shared} {I : Addr} {fp wr : List Addr} {G : Array GenState → Array GenState → Prop} {n : Nat} {P : Nat → Value → Prop} {St : Nat → Shared → Prop}
end
end PySem
set_option Elab.async false
set_option linter.all false
set_option maxRecDepth 100000
namespace L2
open PySem PySem.Spec PyProof.Rows Builtin Builtin.Str
section
variable {X : Cx} {o e : Expr} {to te : TE} {apos cpos p pos : Pos}
end
end L2
set_option Elab.async false
set_option linter.all false
set_option maxRecDepth 100000
namespace L2
open PySem PySem.Spec PyProof.Rows Builtin Builtin.Str
section
variable {X : Cx}
end
theorem SqL.same {K : PySem.W.Frag} {H H' : Hp} {a : Addr} {xs : List V} (s : Same H H') (h : SqL K H a xs) : SqL K H' a xs := by
  rcases h with (h | ⟨o, h⟩) | h
  · exact .inl (.inl (s _ _ h))
  · exact .inl (.inr ⟨o, s _ _ h⟩)
  · exact .inr h
theorem passF {P : Program} {w : World} {X : Cx} : Passes' (XE P w) X (fun _ _ _ _ => False) := fun _ _ _ _ _ _ _ ⟨_, _, _, _, _, _, _, _, _, _, _, q⟩ => q.elim
def isCF : Option NameKind → Bool
  | some .cell => true
  | some .free => true
  | _ => false
theorem isCF_iff {k : Option NameKind} : isCF k = true ↔ (k = some .cell ∨ k = some .free) := by
  cases k with
  | none => simp [isCF]
  | some k => cases k <;> simp [isCF]
theorem keys_of {cl : List (Str × Addr)} {fr : List Str} (h : (cl.map (·.1)).all (fun y => fr.elem y) = true) : ∀ y ∈ cl, y.1 ∈ fr := fun y hy => by
  have := List.all_eq_true.mp h y.1 (List.mem_map_of_mem hy)
  simpa using this
theorem kinds_of {fr : List Str} {k : Str → Option NameKind} (h : fr.all (fun y => isCF (k y)) = true) : ∀ y ∈ fr, k y = some .cell ∨ k y = some .free := fun y hy => isCF_iff.mp (List.all_eq_true.mp h y hy)
theorem only_of {names : List (Str × NameKind)} {fr : List Str} (h : names.all (fun p => !isCF (some p.2) || fr.elem p.1) = true) : ∀ y, (names.lookup y = some .cell ∨ names.lookup y = some .free) → y ∈ fr := fun y hy => by
  have hy' := isCF_iff.mpr hy
  cases e : names.lookup y with
  | none => rw [e] at hy'; cases hy'
  | some k =>
    rw [e] at hy'
    have := List.all_eq_true.mp h (y, k) (PySem.mem_of_lookup e)
    simpa [hy'] using this
end L2
set_option Elab.async false
set_option linter.all false
set_option maxRecDepth 100000
namespace L2
open PySem PySem.Spec PyProof.Rows Builtin Builtin.Str
section
variable {X : Cx} {pos : Pos}
theorem big_of {pins : List (Addr × Obj)} {σ : St} {H : Hp} {s : Shared} (I : Inv X pins σ H s) : sysModules < s.heap.objs.size :=
  Nat.lt_trans (by decide) (show mainGlobals < s.heap.objs.size from (I.mod.glob.keeps I.bk).lt)
def fDnew : TE := fun _ H Q => ∀ p, H p = none → Q (.ref p) (upd H p (.dK []))
theorem fe_dnew : PE X (.Dict [] [] pos) fDnew := by
  intro pins s σ H Q I h
  have new : ObjOk X.prog X.w (upd H s.heap.objs.size (.dK [])) (s.heap.push { cls := .type "dict", data := .dict #[] }) s.heap.objs.size (.dK []) :=
    ⟨Nat.zero_le _, beq_eq_false_iff_ne.mpr (Ne.symm (Nat.ne_of_lt (big_of I))), [], .nil, Heap.DictOf.new s.heap⟩
  exact wpAny_Dict_empty ⟨.ref s.heap.objs.size, _, I.laid (t' := s.toks) (fun _ _ q => Heap.get?_push_of_some _ q) (Nat.le_refl _) new, rfl, h _ (I.hok.fresh (Nat.le_refl _))⟩
end
end L2
set_option Elab.async false
set_option linter.all false
set_option maxRecDepth 100000
namespace L2
open PySem PySem.Spec PyProof.Rows Builtin Builtin.Str
section
variable {X : Cx}
structure EnumC (C : Hp → Prop) (J : It) (vs : List V) : Prop where
  go : ∀ i H, C H → i < vs.length → J.go i H
  yld : ∀ i H x H', C H → i < vs.length → J.yld i H x H' → H' = H ∧ vs[i]? = some x
  stop : ∀ H, C H → J.stop vs.length H
theorem comp_enumC {J : It} {vs : List V} {σ' : St} {H1 : Hp} {Q : VK} {tt : TT} {te : TE} (C : Hp → Prop) (E : EnumC C J vs) (p : V → Bool) (f : V → V) (hlen : vs.length ≤ sizeLine)
    (hp : ∀ x ∈ vs, ∀ H (R : Bool → Hp → Prop), C H → R (p x) H → tt (some x :: σ') H R) (hf : ∀ x ∈ vs, p x = true → ∀ H (R : VK), C H → R (f x) H → te (some x :: σ') H R)
    (D : Addr) (hD : H1 D = none) (hC : ∀ ys, C (upd H1 D (.lst ys))) (q : Q (.ref D) (upd H1 D (.lst ((vs.filter p).map f)))) :
    ∃ W : Nat → Nat → List V → Hp → Prop, (∃ m, W 0 m [] (upd H1 D (.lst []))) ∧
      ∀ i m ys H2, W i m ys H2 → H2 D = some (.lst ys) ∧ ((J.stop i H2 ∧ Q (.ref D) H2) ∨ (J.go i H2 ∧ ∀ x H3, J.yld i H2 x H3 →
        tt (some x :: σ') H3 fun b H4 => if b = true then te (some x :: σ') H4 fun y H5 => H5 D = some (.lst ys) ∧ ys.length < sizeLine ∧ ∃ m', m' < m ∧ W (i + 1) m' (ys ++ [y]) (upd H5 D (.lst (ys ++ [y])))
          else ∃ m', m' < m ∧ W (i + 1) m' ys H4)) := by
  refine ⟨fun i m ys H2 => m = vs.length - i ∧ i ≤ vs.length ∧ ys = ((vs.take i).filter p).map f ∧ H2 = upd H1 D (.lst ys), ⟨vs.length, by simp, Nat.zero_le _, by simp, rfl⟩, ?_⟩
  rintro i m ys H2 ⟨rfl, hi, hys, rfl⟩
  refine ⟨upd_same, ?_⟩
  by_cases hlt : i < vs.length
  · refine .inr ⟨E.go i _ (hC _) hlt, fun x H3 y => ?_⟩
    obtain ⟨e, hx⟩ := E.yld i _ x H3 (hC _) hlt y
    subst e
    have hm : x ∈ vs := List.mem_of_getElem? hx
    have htk : vs.take (i + 1) = vs.take i ++ [x] := by
      rw [List.take_succ, hx]; rfl
    have hyl : ys.length ≤ i := by
      rw [hys, List.length_map]
      exact Nat.le_trans (List.length_filter_le _ _) (by simp [List.length_take]; omega)
    refine hp x hm _ _ (hC _) ?_
    cases hb : p x with
    | true =>
      rw [if_pos rfl]
      refine hf x hm hb _ _ (hC _) ⟨upd_same, by omega, vs.length - (i + 1), by omega, rfl, hlt, ?_, ?_⟩
      · rw [htk, List.filter_append, List.map_append, ← hys]
        simp [hb]
      · funext z
        by_cases hz : z = D
        · subst hz; rw [upd_same, upd_same]
        · rw [upd_ne hz, upd_ne hz, upd_ne hz]
    | false =>
      rw [if_neg Bool.false_ne_true]
      refine ⟨vs.length - (i + 1), by omega, rfl, hlt, ?_, rfl⟩
      rw [htk, List.filter_append, List.map_append, ← hys]
      simp [hb]
  · have e : i = vs.length := by omega
    subst e
    refine .inl ⟨E.stop _ (hC _), ?_⟩
    rw [List.take_length] at hys
    rw [hys]; exact q
theorem enum_lst {K : PySem.W.Frag} {C : Hp → Prop} {a : Addr} {vs : List V} (h : ∀ H, C H → SqL K H a vs) : EnumC C (Itl K a) vs :=
  ⟨fun i H c hi => ⟨vs, vs[i], h H c, List.getElem?_eq_getElem hi⟩, fun i H x H' c _ y => ⟨y.1, y.2 vs (h H c)⟩, fun H c => ⟨vs, h H c, Nat.le_refl _⟩⟩
theorem comp_lst {K : PySem.W.Frag} {tl : TE} {ks : List Nat} {σ : St} {H H1 : Hp} {Q : VK} {tt : TT} {te : TE} (a : Addr) (vs : List V) (C : Hp → Prop) (hC : ∀ D ys, H1 D = none → C (upd H1 D (.lst ys))) (hT : ∀ H, C H → SqL K H a vs) (p : V → Bool) (f : V → V)
    (hl : ∀ R : VK, R (.ref a) H1 → tl σ H R) (h1 : SqL K H1 a vs) (hz : vs.length ≤ sizeLine)
    (hp : ∀ x ∈ vs, ∀ H (R : Bool → Hp → Prop), C H → R (p x) H → tt (some x :: ks.map fun k => (σ[k]?).join) H R) (hf : ∀ x ∈ vs, p x = true → ∀ H (R : VK), C H → R (f x) H → te (some x :: ks.map fun k => (σ[k]?).join) H R)
    (q : ∀ D, H1 D = none → Q (.ref D) (upd H1 D (.lst ((vs.filter p).map f)))) : tComp (iList K tl) ks tt te σ H Q :=
  hl _ ⟨a, rfl, ⟨vs, h1⟩, fun D hD => comp_enumC C (enum_lst hT) p f hz hp hf D hD (fun ys => hC D ys hD) (q D hD)⟩
end
end L2
set_option Elab.async false
set_option linter.all false
set_option maxRecDepth 100000
namespace L2
open PySem PySem.Spec PyProof.Rows
section
variable {X : Cx} {K : PySem.W.Frag} {pos : Pos}
theorem fg_tupK (K : PySem.W.Frag) {es : List Expr} {k : Nat} {t : TGs} {n : Nat} (hc : X.calm = true) (h : PGs X es t) (hK : X.K = K := by rfl)
    (hn : (assignEach es X.env).length = n := by rfl) (hst : (assignEach es X.env).findIdx? (·.1) = none := by rfl) : PG X (.Tuple es k pos) (gTup K n t) := by
  subst hK; exact pg_tup hc h hn hst
end
section
variable {X : Cx} {T name id : String} {r : V → List V → Hp → VK → Prop} {o e : Expr} {es : List Expr} {to : TE} {t : TA} {apos cpos : Pos}
theorem pe_bmK (K : PySem.W.Frag) (pa : PlainAttrs T) (slot : Slot T name id) (hty : typeOf (.builtin id) = pure (.type "method_descriptor")) (hm : MtR X id r) (ho : PE X o to) (ha : PA X (e :: es) t) (hK : X.K = K := by rfl)
    (hbase : attributeBase o name X.env (eval o X.env) = eval o X.env := by rfl)
    (hfew : ((backTo cpos (starEach (e :: es) X.env)).all (fun x => !x.1) && (backToKw cpos (keywordEach [] X.env)).all (fun x => x.1.isSome)
      && decide ((e :: es).length + ([] : List Keyword).length + (if ([] : List Keyword).isEmpty then 0 else 1) < 30)) = true := by rfl)
    (hline : (apos.endLine == cpos.line) = true := by rfl) (hs : starEach (e :: es) X.env = (false, eval e X.env) :: starEach es X.env := by rfl) (hplain : (backTo cpos (starEach es X.env)).any (·.1) = false := by rfl) :
    PE X (.Call (.Attribute o name apos) (e :: es) [] cpos) (tBM K T r to t) := by
  subst hK; exact pe_bm pa slot hty hm ho ha hbase hfew hline hs hplain
end
section
variable {K : PySem.W.Frag} {tl : TE} {ks : List Nat} {σ : St} {H : Hp} {Q : VK} {tt : TT} {te : TE}
end
end L2
set_option Elab.async false
set_option linter.all false
set_option maxRecDepth 100000
namespace L2
end L2
set_option Elab.async false
set_option linter.all false
set_option maxRecDepth 100000
namespace L2
open PySem PySem.Spec PyProof.Rows Builtin Builtin.Str
def spN (c : Nat) : List Nat → List (List Nat)
  | [] => [[]]
  | a :: r => if a = c then [] :: spN c r else match spN c r with
    | h :: t => (a :: h) :: t
    | [] => [[a]]
section
variable {X : Cx} {e a b c : Expr} {pos : Pos}
def gSpl : V → List V → Hp → VK → Prop
  | .str x, [.str y], H, Q => (∃ c, cs y = [c] ∧ (cs x).length + 2 ≤ sizeLine ∧ ∀ p, H p = none → Q (.ref p) (upd H p (.lst ((spN c (cs x)).map T))))
  | _, _, _, _ => False
def gCat : R2
  | .ref l, .ref b, H, Q => ∃ xs zs, H l = some (.lst xs) ∧ H b = some (.lst zs) ∧ xs.length + zs.length ≤ sizeLine ∧ ∀ p, H p = none → Q (.ref p) (upd H p (.lst (xs ++ zs)))
  | _, _, _, _ => False
theorem fo_cat : OpR X (binaryOp .Add) gCat := op_cat.imp fun x y H Q h => by
  unfold gCat at h; split at h
  · obtain ⟨xs, zs, h1, h2, h3, q⟩ := h
    exact ⟨_, _, xs, zs, rfl, rfl, h1, h2, h3, q⟩
  · exact h.elim
def gRep : R2
  | .ref l, .int k, H, Q => ∃ xs, H l = some (.lst xs) ∧ -(2 ^ 63) ≤ k ∧ k < 2 ^ 63 ∧ xs.length * k.toNat ≤ sizeLine ∧ ∀ p, H p = none → Q (.ref p) (upd H p (.lst (List.replicate k.toNat xs).flatten))
  | _, _, _, _ => False
theorem fo_rep : OpR X (binaryOp .Mult) gRep := op_rep.imp fun x y H Q h => by
  unfold gRep at h; split at h
  · obtain ⟨xs, h1, h2, h3, h4, q⟩ := h
    exact ⟨_, _, xs, rfl, rfl, h1, h2, h3, h4, q⟩
  · exact h.elim
theorem fs_listK (K : PySem.W.Frag) (h : X.K = K := by rfl) : SlR X (rSlL K) := h ▸ sl_list
def gList (K : PySem.W.Frag) : List V → Hp → VK → Prop
  | [.ref p], H, Q => ∃ ys, (SqL K H p ys ∨ SqT K H p ys) ∧ ∀ l, H l = none → Q (.ref l) (upd H l (.lst ys))
  | _, _, _ => False
theorem fc_list (K : PySem.W.Frag) (hK : X.K = K := by rfl) : CallR X (.type "list") (gList K) := by
  subst hK
  refine call_list_of.imp fun xs H Q h => ?_
  unfold gList at h; split at h
  · obtain ⟨ys, h1, q⟩ := h
    exact ⟨_, ys, rfl, h1, q⟩
  · exact h.elim
def gTuple (K : PySem.W.Frag) : List V → Hp → VK → Prop
  | [.ref p], H, Q => ∃ ys, (SqL K H p ys ∧ ∀ l, H l = none → Q (.ref l) (upd H l (.tup ys))) ∨ (SqT K H p ys ∧ Q (.ref p) H)
  | _, _, _ => False
theorem fc_tuple (K : PySem.W.Frag) (hK : X.K = K := by rfl) : CallR X (.type "tuple") (gTuple K) := by
  subst hK
  refine call_tuple_of.imp fun xs H Q h => ?_
  unfold gTuple at h; split at h
  · obtain ⟨ys, h1⟩ := h
    exact ⟨_, ys, rfl, h1⟩
  · exact h.elim
inductive EqH (K : PySem.W.Frag) (H : Hp) : Nat → V → V → Bool → Prop
  | flat {n x y} : flatV x = true → flatV y = true → EqH K H n x y (eqV x y)
  | same {n p} : EqH K H n (.ref p) (.ref p) true
  | lst {n p q xs ys} {e : Nat → Bool} : p ≠ q → SqL K H p xs → SqL K H q ys → xs.length = ys.length → (∀ j x y, xs[j]? = some x → ys[j]? = some y → EqH K H n x y (e j)) → EqH K H (n + 1) (.ref p) (.ref q) ((List.range xs.length).all e)
  | len {n p q xs ys} : p ≠ q → SqL K H p xs → SqL K H q ys → xs.length ≠ ys.length → EqH K H (n + 1) (.ref p) (.ref q) false
  | tup {n p q xs ys} {e : Nat → Bool} : p ≠ q → SqT K H p xs → SqT K H q ys → (∀ j x y, xs[j]? = some x → ys[j]? = some y → EqH K H n x y (e j)) → EqH K H (n + 1) (.ref p) (.ref q) ((List.range (min xs.length ys.length)).all e && xs.length == ys.length)
  | lt {n p q xs ys} : SqL K H p xs → SqT K H q ys → EqH K H (n + 1) (.ref p) (.ref q) false
  | tl {n p q xs ys} : SqT K H p xs → SqL K H q ys → EqH K H (n + 1) (.ref p) (.ref q) false
theorem at_items {P : Value → Value → Bool → Prop} {xs ys : List V} {its its' : List Value} {e : Nat → Bool} (r : Vals xs its) (r' : Vals ys its') (h : ∀ j x y u v, xs[j]? = some x → ys[j]? = some y → RelV x u → RelV y v → P u v (e j)) :
    ∀ j (h1 : j < its.toArray.size) (h2 : j < its'.toArray.size), P its.toArray[j] its'.toArray[j] (e j) := fun j g1 g2 => by
  have h1 : xs.length = its.length := r.length
  have h2 : ys.length = its'.length := r'.length
  have g1' : j < its.length := by simpa using g1
  have g2' : j < its'.length := by simpa using g2
  have l1 : j < xs.length := by omega
  have l2 : j < ys.length := by omega
  obtain ⟨w1, e1, r1⟩ := r.get (List.getElem?_eq_getElem l1)
  obtain ⟨w2, e2, r2⟩ := r'.get (List.getElem?_eq_getElem l2)
  have z1 : its.toArray[j] = w1 := by
    have : its[j]? = some its[j] := List.getElem?_eq_getElem g1'
    rw [this] at e1; simpa using Option.some.inj e1
  have z2 : its'.toArray[j] = w2 := by
    have : its'[j]? = some its'[j] := List.getElem?_eq_getElem g2'
    rw [this] at e2; simpa using Option.some.inj e2
  rw [z1, z2]
  exact h j _ _ _ _ (List.getElem?_eq_getElem l1) (List.getElem?_eq_getElem l2) r1 r2
theorem EqH.at {K : PySem.W.Frag} {H : Hp} {n : Nat} {x y : V} {b : Bool} (h : EqH K H n x y b) : ∀ {X : Cx} {pins : List (Addr × Obj)} {σ : St} {s : Shared} {A : Around} {u v : Value}, X.K = K → Inv X pins σ H s → A.units + n < cLine → RelV x u → RelV y v → SeqAt.EqAt A s u v b := by
  induction h with
  | flat fx fy =>
    intro X pins σ s A u v hK I hu rx ry
    exact eqAt_V rx ry fx fy
  | same =>
    intro X pins σ s A u v hK I hu rx ry
    cases rx; cases ry
    exact SeqAt.EqAt.same _
  | @lst n p q xs ys e hpq hx hy hl _ ih =>
    intro X pins σ s A u v hK I hu rx ry
    cases rx; cases ry
    subst hK
    obtain ⟨its, r, pl, hz⟩ := I.list hx
    obtain ⟨its', r', pl', hz'⟩ := I.list hy
    have h1 : xs.length = its.length := r.length
    have h2 : ys.length = its'.length := r'.length
    have := SeqAt.RcAt.lists (A := A) (e := e) pl.isList pl'.isList (by simp; omega) (by omega) (at_items r r' fun j x y u v g1 g2 r1 r2 => ih j x y g1 g2 rfl I (by show A.units + 1 + n < cLine; omega) r1 r2)
    rw [List.size_toArray, ← h1] at this
    exact .of_refs hpq this
  | @len n p q xs ys hpq hx hy hl =>
    intro X pins σ s A u v hK I hu rx ry
    cases rx; cases ry
    subst hK
    obtain ⟨its, r, pl, hz⟩ := I.list hx
    obtain ⟨its', r', pl', hz'⟩ := I.list hy
    have h1 : xs.length = its.length := r.length
    have h2 : ys.length = its'.length := r'.length
    exact .of_refs hpq (SeqAt.RcAt.lists_lengths pl.isList pl'.isList (by simp; omega) (by omega))
  | @tup n p q xs ys e hpq hx hy _ ih =>
    intro X pins σ s A u v hK I hu rx ry
    cases rx; cases ry
    subst hK
    obtain ⟨its, r, pl, hz⟩ := I.tuple hx
    obtain ⟨its', r', pl', hz'⟩ := I.tuple hy
    have h1 : xs.length = its.length := r.length
    have h2 : ys.length = its'.length := r'.length
    have := SeqAt.RcAt.tuples (A := A) (e := e) pl pl' (by omega) (at_items r r' fun j x y u v g1 g2 r1 r2 => ih j x y g1 g2 rfl I (by show A.units + 1 + n < cLine; omega) r1 r2)
    rw [List.size_toArray, List.size_toArray, ← h1, ← h2] at this
    exact .of_refs hpq this
  | lt hx hy =>
    intro X pins σ s A u v hK I hu rx ry
    cases rx; cases ry
    subst hK
    obtain ⟨its, r, pl, hz⟩ := I.list hx
    obtain ⟨its', r', pl', hz'⟩ := I.tuple hy
    exact SeqAt.EqAt.list_tuple pl.isList pl' (by omega)
  | tl hx hy =>
    intro X pins σ s A u v hK I hu rx ry
    cases rx; cases ry
    subst hK
    obtain ⟨its, r, pl, hz⟩ := I.tuple hx
    obtain ⟨its', r', pl', hz'⟩ := I.list hy
    exact SeqAt.EqAt.tuple_list pl pl'.isList (by omega)
inductive EqR (K : PySem.W.Frag) (H : Hp) (p q : Addr) : Bool → Prop
  | lst {xs ys} {e : Nat → Bool} : SqL K H p xs → SqL K H q ys → xs.length = ys.length → (∀ j x y, xs[j]? = some x → ys[j]? = some y → EqH K H 50 x y (e j)) → EqR K H p q ((List.range xs.length).all e)
  | len {xs ys} : SqL K H p xs → SqL K H q ys → xs.length ≠ ys.length → EqR K H p q false
  | tup {xs ys} {e : Nat → Bool} : SqT K H p xs → SqT K H q ys → (∀ j x y, xs[j]? = some x → ys[j]? = some y → EqH K H 50 x y (e j)) → EqR K H p q ((List.range (min xs.length ys.length)).all e && xs.length == ys.length)
def gEqA (K : PySem.W.Frag) (neg : Bool) : R2
  | .ref p, .ref q, H, Q => ∃ b, EqR K H p q b ∧ Q (.bl (neg ^^ b)) H
  | _, _, _, _ => False
theorem fo_eqA (K : PySem.W.Frag) (hu : X.A.units + 100 < cLine) (hK : X.K = K := by rfl) : OpR X (compareOp .Eq) (gEqA K false) := by
  subst hK
  intro pins s σ H x y v u Q I rx ry h
  unfold gEqA at h
  split at h
  · rename_i p q
    obtain ⟨b, hb, q⟩ := h
    cases rx; cases ry
    cases hb with
    | @lst xs ys e hx hy hl he =>
      obtain ⟨its, r, pl, hz⟩ := I.list hx
      obtain ⟨its', r', pl', hz'⟩ := I.list hy
      have h1 : xs.length = its.length := r.length
      have h2 : ys.length = its'.length := r'.length
      refine SeqAt.eq_listAt (e := e) pl.isList pl'.isList (by simp; omega) (by omega) (at_items r r' fun j x y u v g1 g2 r1 r2 => (he j x y g1 g2).at rfl I (by show X.A.units + 1 + 50 < cLine; omega) r1 r2) ⟨.bl _, H, I, rfl, ?_⟩
      rw [List.size_toArray, ← h1]; simpa using q
    | @len xs ys hx hy hl =>
      obtain ⟨its, r, pl, hz⟩ := I.list hx
      obtain ⟨its', r', pl', hz'⟩ := I.list hy
      have h1 : xs.length = its.length := r.length
      have h2 : ys.length = its'.length := r'.length
      exact SeqAt.eq_list_lengthsAt pl.isList pl'.isList (by simp; omega) (by omega) ⟨.bl false, H, I, rfl, by simpa using q⟩
    | @tup xs ys e hx hy he =>
      obtain ⟨its, r, pl, hz⟩ := I.tuple hx
      obtain ⟨its', r', pl', hz'⟩ := I.tuple hy
      have h1 : xs.length = its.length := r.length
      have h2 : ys.length = its'.length := r'.length
      refine SeqAt.eq_tupleAt (e := e) pl pl' (by omega) (at_items r r' fun j x y u v g1 g2 r1 r2 => (he j x y g1 g2).at rfl I (by show X.A.units + 1 + 50 < cLine; omega) r1 r2) ⟨.bl _, H, I, rfl, ?_⟩
      rw [List.size_toArray, List.size_toArray, ← h1, ← h2]; simpa using q
  · exact h.elim
theorem fo_neA (K : PySem.W.Frag) (hu : X.A.units + 100 < cLine) (hK : X.K = K := by rfl) : OpR X (compareOp .NotEq) (gEqA K true) := by
  subst hK
  intro pins s σ H x y v u Q I rx ry h
  unfold gEqA at h
  split at h
  · rename_i p q
    obtain ⟨b, hb, q⟩ := h
    cases rx; cases ry
    cases hb with
    | @lst xs ys e hx hy hl he =>
      obtain ⟨its, r, pl, hz⟩ := I.list hx
      obtain ⟨its', r', pl', hz'⟩ := I.list hy
      have h1 : xs.length = its.length := r.length
      have h2 : ys.length = its'.length := r'.length
      refine SeqAt.RcNeAt.lists (e := e) pl.isList pl'.isList (by simp; omega) (by omega) (at_items r r' fun j x y u v g1 g2 r1 r2 => (he j x y g1 g2).at rfl I (by show X.A.units + 1 + 50 < cLine; omega) r1 r2) X.prog X.w X.xe _ ⟨.bl _, H, I, rfl, ?_⟩
      rw [List.size_toArray, ← h1]; simpa using q
    | @len xs ys hx hy hl =>
      obtain ⟨its, r, pl, hz⟩ := I.list hx
      obtain ⟨its', r', pl', hz'⟩ := I.list hy
      have h1 : xs.length = its.length := r.length
      have h2 : ys.length = its'.length := r'.length
      exact SeqAt.RcNeAt.lists_lengths pl.isList pl'.isList (by simp; omega) (by omega) X.prog X.w X.xe _ ⟨.bl true, H, I, rfl, by simpa using q⟩
    | @tup xs ys e hx hy he =>
      obtain ⟨its, r, pl, hz⟩ := I.tuple hx
      obtain ⟨its', r', pl', hz'⟩ := I.tuple hy
      have h1 : xs.length = its.length := r.length
      have h2 : ys.length = its'.length := r'.length
      refine SeqAt.RcNeAt.tuples (e := e) pl pl' (by omega) (at_items r r' fun j x y u v g1 g2 r1 r2 => (he j x y g1 g2).at rfl I (by show X.A.units + 1 + 50 < cLine; omega) r1 r2) X.prog X.w X.xe _ ⟨.bl _, H, I, rfl, ?_⟩
      rw [List.size_toArray, List.size_toArray, ← h1, ← h2]; simpa using q
  · exact h.elim
end
end L2
set_option Elab.async false
set_option linter.all false
set_option maxRecDepth 100000
namespace PySem
open Sem (wp)
open Builtin
end PySem
namespace L2
open PySem PySem.Spec PyProof.Rows Builtin Builtin.Str
section
variable {X : Cx} {e a b c : Expr} {pos : Pos}
def gEqQ (K : PySem.W.Frag) (neg : Bool) : R2 := fun x y H Q => match eqS x y with
  | some k => Q (.bl (neg ^^ k)) H
  | none => gEqA K neg x y H Q
theorem fo_eqQ (K : PySem.W.Frag) (hu : X.A.units + 100 < cLine) (hK : X.K = K := by rfl) : OpR X (compareOp .Eq) (gEqQ K false) := ((op_eqU (by omega)).or (fo_eqA K hu hK)).imp fun x y H Q h => by
  unfold gEqQ at h
  split at h
  · rename_i k hk
    obtain ⟨h1, h2⟩ := eqS_scal hk
    exact .inl (.inl ⟨h1, by rw [h2]; simpa using h⟩)
  · exact .inr h
theorem fo_neQ (K : PySem.W.Frag) (hu : X.A.units + 100 < cLine) (hK : X.K = K := by rfl) : OpR X (compareOp .NotEq) (gEqQ K true) := ((op_neU (by omega)).or (fo_neA K hu hK)).imp fun x y H Q h => by
  unfold gEqQ at h
  split at h
  · rename_i k hk
    obtain ⟨h1, h2⟩ := eqS_scal hk
    exact .inl (.inl ⟨h1, by rw [h2]; simpa using h⟩)
  · exact .inr h
variable {K : PySem.W.Frag} {neg : Bool} {H : Hp} {Q : VK}
theorem eqQ_int {i j : Int} : gEqQ K neg (.int i) (.int j) H Q = Q (.bl (neg ^^ decide (i = j))) H := rfl
theorem eqQ_bl {i j : Bool} : gEqQ K neg (.bl i) (.bl j) H Q = Q (.bl (neg ^^ decide (i = j))) H := rfl
theorem eqQ_str {i j : Str} : gEqQ K neg (.str i) (.str j) H Q = Q (.bl (neg ^^ decide (i.cps.toList = j.cps.toList))) H := rfl
theorem eqQ_ref {p q : Addr} : gEqQ K neg (.ref p) (.ref q) H Q = ∃ b, EqR K H p q b ∧ Q (.bl (neg ^^ b)) H := rfl
theorem eqQ_nn : gEqQ K neg .non .non H Q = Q (.bl (neg ^^ true)) H := rfl
theorem eqQ_ni {i : Int} : gEqQ K neg .non (.int i) H Q = Q (.bl (neg ^^ false)) H := rfl
theorem eqQ_in {i : Int} : gEqQ K neg (.int i) .non H Q = Q (.bl (neg ^^ false)) H := rfl
theorem eqQ_is {i : Int} {s : Str} : gEqQ K neg (.int i) (.str s) H Q = Q (.bl (neg ^^ false)) H := rfl
theorem eqQ_si {i : Int} {s : Str} : gEqQ K neg (.str s) (.int i) H Q = Q (.bl (neg ^^ false)) H := rfl
end
theorem for_lstC {K : PySem.W.Frag} {a : Addr} {xs : List V} {g : TG} {tb : TS} {D : Ends} {σ : St} {H : Hp} (hq : SqL K H a xs) (h : ∃ W : Nat → Nat → St → Hp → Prop, (∃ m, W 0 m σ H) ∧ ∀ i m σ H, W i m σ H →
      ((Itl K a).stop i H ∧ D.nx σ H) ∨ ((Itl K a).go i H ∧ ∃ N : St → Hp → Prop, (∀ σ' H', N σ' H' → ∃ m', m' < m ∧ W (i + 1) m' σ' H') ∧ ∀ x H', (Itl K a).yld i H x H' → g x σ H' fun σ2 H2 => tb { D with nx := N, ct := N, bk := D.nx } σ2 H2)) : tFor (iList K (tC (.ref a))) g tb D σ H := ⟨a, rfl, ⟨xs, hq⟩, h⟩
theorem kind_same {H H' : Hp} {x : V} {t : String} (s : Same H H') (h : kindV H x = some t) : kindV H' x = some t := by
  cases x with
  | ref p =>
    unfold kindV at h ⊢
    dsimp only at h ⊢
    cases e : H p with
    | none => rw [e] at h; cases h
    | some o => rw [e] at h; rw [s _ _ e]; exact h
  | _ => exact h
theorem pick_ref {xs : List V} {H H1 : Hp} {Q : VK} {i : Int} {q : Addr} {o : HO} (h : atI xs i = some (.ref q)) (hq : H q = none) (ho : H1 q = some o) (po : plainO o = true) (k : Q (.ref q) (upd H q o)) : kPick xs H H1 Q (.int i) := by
  unfold kPick
  simp only [h, ho]
  exact ⟨hq, po, k⟩
end L2
namespace L2
theorem units100 {k : Nat} {A : PySem.Around} (r : Room k A) : A.units + 100 < PySem.cLine := by have := r.un; omega
end L2
set_option Elab.async false
set_option linter.all false
set_option maxRecDepth 100000
namespace L2
open PySem PySem.Spec PyProof.Rows
section
variable {κ : Type} [DecidableEq κ]
def valV (kvs : List (κ × V)) (k : κ) : Option V := (kvs.find? fun kv => decide (kv.1 = k)).map (·.2)
def putK (kvs : List (κ × V)) (k : κ) (v : V) : List (κ × V) :=
  if (kvs.any fun kv => decide (kv.1 = k)) = true then kvs.map (fun kv => if kv.1 = k then (kv.1, v) else kv) else kvs ++ [(k, v)]
def dropK (kvs : List (κ × V)) (k : κ) : List (κ × V) := kvs.filter fun kv => decide (kv.1 ≠ k)
theorem valV_pos {p : κ × V} {r : List (κ × V)} {k : κ} (e : p.1 = k) : valV (p :: r) k = some p.2 := by simp [valV, List.find?_cons, e]
theorem valV_neg {p : κ × V} {r : List (κ × V)} {k : κ} (e : ¬ p.1 = k) : valV (p :: r) k = valV r k := by simp [valV, List.find?_cons, e]
theorem valV_any (k : κ) : ∀ kvs : List (κ × V), (kvs.any fun kv => decide (kv.1 = k)) = (valV kvs k).isSome
  | [] => rfl
  | p :: r => by
    rw [List.any_cons]
    by_cases e : p.1 = k
    · simp only [valV_pos e, decide_eq_true e, Bool.true_or, Option.isSome_some]
    · rw [valV_neg e, decide_eq_false e, Bool.false_or]; exact valV_any k r
theorem length_putK (kvs : List (κ × V)) (k : κ) (v : V) : (putK kvs k v).length ≤ kvs.length + 1 := by
  unfold putK
  split
  · rw [List.length_map]; omega
  · rw [List.length_append, List.length_cons, List.length_nil]; omega
theorem RelO.isSome_eq {o : Option V} {u : Option Value} (r : RelO o u) : o.isSome = u.isSome := by
  cases o with
  | none => cases u with
    | none => rfl
    | some _ => exact (show False from r).elim
  | some _ => cases u with
    | none => exact (show False from r).elim
    | some _ => rfl
theorem RelO.getD {o : Option V} {u : Option Value} {d : V} {d' : Value} (r : RelO o u) (rd : RelV d d') : RelV (o.getD d) (u.getD d') := by
  cases o with
  | none => cases u with
    | none => exact rd
    | some _ => exact (show False from r).elim
  | some _ => cases u with
    | none => exact (show False from r).elim
    | some _ => exact r
theorem KV.val {kvs : List (κ × V)} {vs : List (κ × Value)} (r : KV kvs vs) (k : κ) : RelO (valV kvs k) (valueAt vs k) := by
  unfold KV at r
  induction r with
  | nil => exact True.intro
  | @cons p q ps qs h t ih =>
    obtain ⟨h1, h2⟩ := h
    by_cases e : p.1 = k
    · have e' : q.1 = k := h1.symm.trans e
      have b : valueAt (q :: qs) k = some q.2 := by simp [valueAt, List.find?_cons, e']
      rw [valV_pos e, b]; exact h2
    · have e' : ¬ q.1 = k := fun z => e (h1.trans z)
      have b : valueAt (q :: qs) k = valueAt qs k := by simp [valueAt, List.find?_cons, e']
      rw [valV_neg e, b]; exact ih
theorem KV.any {kvs : List (κ × V)} {vs : List (κ × Value)} (r : KV kvs vs) (k : κ) : (kvs.any fun kv => decide (kv.1 = k)) = vs.any fun kv => decide (kv.1 = k) := by
  unfold KV at r
  induction r with
  | nil => rfl
  | cons h t ih => rw [List.any_cons, List.any_cons, ih, h.1]
theorem KV.repl {kvs : List (κ × V)} {vs : List (κ × Value)} (r : KV kvs vs) (k : κ) {y : V} {u : Value} (ry : RelV y u) :
    KV (kvs.map fun kv => if kv.1 = k then (kv.1, y) else kv) (vs.map fun kv => if kv.1 = k then (kv.1, u) else kv) := by
  unfold KV at r ⊢
  induction r with
  | nil => exact .nil
  | @cons p q ps qs h t ih =>
    rw [List.map_cons, List.map_cons]
    refine .cons ?_ ih
    obtain ⟨h1, h2⟩ := h
    by_cases e : p.1 = k
    · rw [if_pos e, if_pos (h1.symm.trans e)]; exact ⟨h1, ry⟩
    · rw [if_neg e, if_neg (fun z => e (h1.trans z))]; exact ⟨h1, h2⟩
theorem KV.put {kvs : List (κ × V)} {vs : List (κ × Value)} (r : KV kvs vs) (k : κ) {y : V} {u : Value} (ry : RelV y u) : KV (putK kvs k y) (stored vs k u) := by
  unfold putK stored
  rw [r.any k]
  by_cases e : (vs.any fun kv => decide (kv.1 = k)) = true
  · rw [if_pos e, if_pos e]; exact r.repl k ry
  · rw [if_neg e, if_neg e]; exact Paired.snoc r ⟨rfl, ry⟩
theorem KV.drop {kvs : List (κ × V)} {vs : List (κ × Value)} (r : KV kvs vs) (k : κ) : KV (dropK kvs k) (without vs k) := by
  unfold KV at r ⊢
  unfold dropK without
  induction r with
  | nil => exact .nil
  | @cons p q ps qs h t ih =>
    obtain ⟨h1, h2⟩ := h
    rw [List.filter_cons, List.filter_cons]
    by_cases e : p.1 = k
    · have a : ¬ decide (p.1 ≠ k) = true := by simp [e]
      have b : ¬ decide (q.1 ≠ k) = true := by simp [h1.symm.trans e]
      rw [if_neg a, if_neg b]; exact ih
    · have e' : ¬ q.1 = k := fun z => e (h1.trans z)
      have a : decide (p.1 ≠ k) = true := by simp [e]
      have b : decide (q.1 ≠ k) = true := by simp [e']
      rw [if_pos a, if_pos b]; exact .cons ⟨h1, h2⟩ ih
theorem KV.keys {kvs : List (κ × V)} {vs : List (κ × Value)} (r : KV kvs vs) : kvs.map (·.1) = vs.map (·.1) := by
  unfold KV at r
  induction r with
  | nil => rfl
  | cons h t ih => rw [List.map_cons, List.map_cons, ih, h.1]
theorem KV.length {kvs : List (κ × V)} {vs : List (κ × Value)} (r : KV kvs vs) : kvs.length = vs.length := Paired.length r
end
theorem kV_is {P : Program} {w : World} {k : Key} {u : Value} (r : RelV (kV k) u) : (mixKind P w).is k u = true := by
  cases k with
  | inl i => obtain ⟨t, e⟩ := (show ∃ t, u = Value.int i t from r); subst e; exact mixKind_int P w i t
  | inr x => obtain ⟨t, e⟩ := (show ∃ t, u = Value.str x t from r); subst e; exact mixKind_str P w x t
abbrev KT (H : Hp) : List (List Key × V) → List (List Key × Addr × Value) → Prop := Paired fun p q => p.1 = q.1 ∧ H q.2.1 = some (.tup (p.1.map kV)) ∧ RelV p.2 q.2.2
theorem KT.val {H : Hp} {kvs : List (List Key × V)} {xs : List (List Key × Addr × Value)} (r : KT H kvs xs) (k : List Key) : RelO (valV kvs k) ((atKey xs k).map (·.2)) := by
  induction r with
  | nil => exact True.intro
  | @cons p q ps qs h t ih =>
    obtain ⟨h1, _, h2⟩ := h
    by_cases e : p.1 = k
    · have e' : q.1 = k := h1.symm.trans e
      have b : atKey (q :: qs) k = some q.2 := by simp [atKey, List.find?_cons, e']
      rw [valV_pos e, b]; exact h2
    · have e' : ¬ q.1 = k := fun z => e (h1.trans z)
      have b : atKey (q :: qs) k = atKey qs k := by simp [atKey, List.find?_cons, e']
      rw [valV_neg e, b]; exact ih
theorem KT.repl {H : Hp} {kvs : List (List Key × V)} {xs : List (List Key × Addr × Value)} (r : KT H kvs xs) (k : List Key) {y : V} {u : Value} (ry : RelV y u) :
    KT H (kvs.map fun kv => if kv.1 = k then (kv.1, y) else kv) (xs.map (putAt k u)) := by
  induction r with
  | nil => exact .nil
  | @cons p q ps qs h t ih =>
    rw [List.map_cons, List.map_cons]
    refine .cons ?_ ih
    obtain ⟨h1, h2, h3⟩ := h
    unfold putAt
    by_cases e : p.1 = k
    · rw [if_pos e, if_pos (h1.symm.trans e)]; exact ⟨h1, h2, ry⟩
    · rw [if_neg e, if_neg (fun z => e (h1.trans z))]; exact ⟨h1, h2, h3⟩
theorem KT.put {H : Hp} {kvs : List (List Key × V)} {xs : List (List Key × Addr × Value)} (r : KT H kvs xs) (k : List Key) {b : Addr} {y : V} {u : Value} (hb : H b = some (.tup (k.map kV))) (ry : RelV y u) :
    KT H (putK kvs k y) (storedH xs k b u) := by
  have e : (kvs.any fun kv => decide (kv.1 = k)) = (atKey xs k).isSome := by
    rw [valV_any, (r.val k).isSome_eq, Option.isSome_map]
  unfold putK storedH
  rw [e]
  by_cases q : (atKey xs k).isSome = true
  · rw [if_pos q, if_pos q]; exact r.repl k ry
  · rw [if_neg q, if_neg q]; exact Paired.snoc r ⟨rfl, hb, ry⟩
theorem KT.keeps {H H' : Hp} {kvs : List (List Key × V)} {xs : List (List Key × Addr × Value)} (r : KT H kvs xs) (ht : ∀ b ys, H b = some (.tup ys) → H' b = some (.tup ys)) : KT H' kvs xs :=
  Paired.mapP r fun _ _ z => ⟨z.1, ht _ _ z.2.1, z.2.2⟩
section
variable {P : Program} {w : World} {H : Hp} {h : Heap} {a : Addr}
theorem rd_of {u : HO} (ok : HOk P w H h) (e : Rd H a u) : ObjOk P w H h a u := e.ok ok
theorem dk_rd {kvs : List (Key × V)} (ok : HOk P w H h) (e : Rd H a (.dK kvs)) : kvs.length ≤ sizeLine ∧ (a == sysModules) = false ∧ ∃ vs, KV kvs vs ∧ h.DictOf (mixKind P w) a vs :=
  show ObjOk P w H h a (.dK kvs) from rd_of ok e
theorem dk_of {kvs : List (Key × V)} (ok : HOk P w H h) (e : H a = some (.dK kvs)) : kvs.length ≤ sizeLine ∧ (a == sysModules) = false ∧ ∃ vs, KV kvs vs ∧ h.DictOf (mixKind P w) a vs := dk_rd ok (.inl e)
end
def DGet (H : Hp) (a : Addr) (y : V) (r : Option V) : Prop :=
  (∃ kvs k, Rd H a (.dK kvs) ∧ y = kV k ∧ r = valV kvs k) ∨ ∃ kvs k b, Rd H a (.dT kvs) ∧ y = .ref b ∧ H b = some (.tup (k.map kV)) ∧ r = valV kvs k
def DPut (H : Hp) (a : Addr) (y v : V) (H' : Hp) : Prop :=
  (∃ kvs k, H a = some (.dK kvs) ∧ y = kV k ∧ kvs.length < sizeLine ∧ H' = upd H a (.dK (putK kvs k v))) ∨
  ∃ kvs k b, H a = some (.dT kvs) ∧ y = .ref b ∧ H b = some (.tup (k.map kV)) ∧ kvs.length < sizeLine ∧ H' = upd H a (.dT (putK kvs k v))
theorem DGet.k {H : Hp} {a : Addr} {kvs : List (Key × V)} {k : Key} (e : H a = some (.dK kvs)) : DGet H a (kV k) (valV kvs k) := .inl ⟨kvs, k, .inl e, rfl, rfl⟩
theorem DGet.t {H : Hp} {a b : Addr} {kvs : List (List Key × V)} {k : List Key} (e : H a = some (.dT kvs)) (eb : H b = some (.tup (k.map kV))) : DGet H a (.ref b) (valV kvs k) := .inr ⟨kvs, k, b, .inl e, rfl, eb, rfl⟩
theorem DPut.k {H : Hp} {a : Addr} {kvs : List (Key × V)} {k : Key} {v : V} (e : H a = some (.dK kvs)) (hl : kvs.length < sizeLine) : DPut H a (kV k) v (upd H a (.dK (putK kvs k v))) := .inl ⟨kvs, k, e, rfl, hl, rfl⟩
theorem DPut.t {H : Hp} {a b : Addr} {kvs : List (List Key × V)} {k : List Key} {v : V} (e : H a = some (.dT kvs)) (eb : H b = some (.tup (k.map kV))) (hl : kvs.length < sizeLine) :
    DPut H a (.ref b) v (upd H a (.dT (putK kvs k v))) := .inr ⟨kvs, k, b, e, rfl, eb, hl, rfl⟩
section
variable {X : Cx} {pins : List (Addr × Obj)} {σ : St} {H : Hp} {s : Shared} {a : Addr} {y v : V} {u r : Value} {o : Option V} {A : Around} {E : Value → Shared → Prop}
theorem Inv.big (I : Inv X pins σ H s) : sysModules < s.heap.objs.size := by
  have h : mainGlobals < s.heap.objs.size := (I.mod.glob.keeps I.bk).lt
  exact Nat.lt_trans (by decide) h
theorem d_write {h' : Heap} {t' : Nat} {ob : HO} (I : Inv X pins σ H s) (mu : Mut (H a)) (hs : Heap.SameBut a s.heap h') (he : ∃ q, h'.get? a = some q) (new : ObjOk X.prog X.w (upd H a ob) h' a ob) :
    Inv X pins σ (upd H a ob) { s with heap := h', toks := t' } :=
  I.write (x := a) (e := a) mu (.inl rfl) (fun b q hb z => (hs.2 b hb).trans z) he new
theorem dk_new {P : Program} {w : World} {H' : Hp} {h' : Heap} {kvs : List (Key × V)} {vs : List (Key × Value)} (z : kvs.length ≤ sizeLine) (hd : (a == sysModules) = false) (rel : KV kvs vs) (dd : h'.DictOf (mixKind P w) a vs) :
    ObjOk P w H' h' a (.dK kvs) := ⟨z, hd, vs, rel, dd⟩
end
section
variable {X : Cx} {pins : List (Addr × Obj)} {σ : St} {H : Hp} {s : Shared} {a : Addr} {kvs : List (Key × V)} {k : Key} {u : Value} {A : Around} {E : Value → Shared → Prop}
end
section
variable {X : Cx} {o i e value : Expr} {pos pos' tpos : Pos} {td ty tv : TE}
end
theorem dk_empty {P : Program} {w : World} {H : Hp} (h : Heap) (hb : sysModules < h.objs.size) : ObjOk P w H (h.push { cls := .type "dict", data := .dict #[] }) h.objs.size (.dK []) :=
  ⟨Nat.zero_le _, beq_eq_false_iff_ne.mpr (Ne.symm (Nat.ne_of_lt hb)), [], .nil, Heap.DictOf.new h⟩
section
variable {X : Cx} {pos : Pos}
end
def tPairs : List (TE × TE) → St → Hp → (List (V × V) → Hp → Prop) → Prop
  | [], _, H, Q => Q [] H
  | (tk, tv) :: r, σ, H, Q => tk σ H fun x H1 => tv σ H1 fun y H2 => tPairs r σ H2 fun ps H3 => Q ((x, y) :: ps) H3
abbrev VV : List (V × V) → List (Value × Value) → Prop := Paired fun p q => RelV p.1 q.1 ∧ RelV p.2 q.2
def PPs (X : Cx) (pos : Pos) (keys : List (Option Expr)) (values : List Expr) (trs : List (TE × TE)) : Prop :=
  ∀ (pins : List (Addr × Obj)) (s : Shared) (σ : St) (H : Hp) (Q : List (V × V) → Hp → Prop), Inv X pins σ H s → tPairs trs σ H Q →
    wpAny (model X.prog X.w) X.A (evalPairs (pairTrees keys values X.env pos)) (fun vs s' => ∃ ps H', Inv X pins σ H' s' ∧ VV ps vs ∧ Q ps H') X.xe s
theorem pps_nil {X : Cx} {pos : Pos} : PPs X pos [] [] [] := fun pins s σ H Q I h => pairTrees_nil_walk ⟨[], H, I, .nil, h⟩
theorem pps_cons {X : Cx} {pos : Pos} {k v : Expr} {ks : List (Option Expr)} {vs : List Expr} {tk tv : TE} {trs : List (TE × TE)} (hk : PE X k tk) (hv : PE X v tv) (hr : PPs X pos ks vs trs) :
    PPs X pos (some k :: ks) (v :: vs) ((tk, tv) :: trs) := fun pins s σ H Q I h =>
  pairTrees_cons_walk (thn (hk pins s σ H _ I h) fun u s1 ⟨x, H1, I1, rx, q1⟩ => thn (hv pins s1 σ H1 _ I1 q1) fun w2 s2 ⟨y, H2, I2, ry, q2⟩ =>
    thn (hr pins s2 σ H2 _ I2 q2) fun ws s3 ⟨ps, H3, I3, rel, q3⟩ => ⟨(x, y) :: ps, H3, I3, .cons ⟨rx, ry⟩ rel, q3⟩)
def mergeK (kvs more : List (Key × V)) : List (Key × V) := more.foldl (fun acc kv => putK acc kv.1 kv.2) kvs
theorem KV.merge : ∀ {more : List (Key × V)} {rs : List (Key × Value)} {kvs : List (Key × V)} {vs : List (Key × Value)}, KV more rs → KV kvs vs → KV (mergeK kvs more) (merged vs rs) := by
  intro more rs kvs vs r
  unfold KV at r
  induction r generalizing kvs vs with
  | nil => intro q; exact q
  | @cons p q ps qs h t ih =>
    intro r0
    have e : KV (putK kvs p.1 p.2) (stored vs q.1 q.2) := by
      have := r0.put p.1 h.2
      rw [← h.1]; exact this
    exact ih e
theorem length_mergeK : ∀ (more kvs : List (Key × V)), (mergeK kvs more).length ≤ kvs.length + more.length
  | [], kvs => by show kvs.length ≤ kvs.length + 0; omega
  | p :: r, kvs => by
    have h1 := length_mergeK r (putK kvs p.1 p.2)
    have h2 := length_putK kvs p.1 p.2
    show (mergeK (putK kvs p.1 p.2) r).length ≤ _
    rw [List.length_cons]; omega
theorem carries_of {P : Program} {w : World} : ∀ {kvs : List (Key × V)} {ws : List (Value × Value)}, VV (kvs.map fun kv => (kV kv.1, kv.2)) ws → ∃ rs, Carries (mixKind P w) ws rs ∧ KV kvs rs
  | [], _, r => by rw [List.map_nil] at r; cases r; exact ⟨[], True.intro, .nil⟩
  | p :: kvs, _, r => by
    rw [List.map_cons] at r
    cases r with
    | @cons a b as bs h t =>
      obtain ⟨rs, c, q⟩ := carries_of (P := P) (w := w) t
      obtain ⟨b1, b2⟩ := b
      exact ⟨(p.1, b2) :: rs, ⟨kV_is h.1, rfl, c⟩, .cons ⟨rfl, h.2⟩ q⟩
def tDisp (trs : List (TE × TE)) : TE := fun σ H Q => ∀ p, H p = none → tPairs trs σ (upd H p (.dK [])) fun ps H2 => H2 p = some (.dK []) ∧ ∃ kvs : List (Key × V), ps = kvs.map (fun kv => (kV kv.1, kv.2)) ∧ kvs.length ≤ 15 ∧ Q (.ref p) (upd H2 p (.dK (mergeK [] kvs)))
theorem pe_disp {X : Cx} {pos : Pos} {keys : List (Option Expr)} {values : List Expr} {trs : List (TE × TE)} (h : PPs X pos keys values trs) (hall : keys.all (·.isSome) = true) (hl : keys.length = values.length) (h0 : keys ≠ [])
    (h15 : keys.length ≤ 15) : PE X (.Dict keys values pos) (tDisp trs) := by
  intro pins s σ H Q I q
  have hn := I.hok.fresh (Nat.le_refl s.heap.objs.size)
  have I1 := I.laid (a := s.heap.objs.size) (o := .dK []) (h' := s.heap.push { cls := .type "dict", data := .dict #[] }) (t' := s.toks) (fun _ _ q => Heap.get?_push_of_some _ q) (Nat.le_refl _) (dk_empty s.heap I.big)
  refine wpAny_Dict_walk (knd := mixKind X.prog X.w) hall hl h0 h15 (thn (h pins _ σ _ _ I1 (q _ hn)) fun ws s2 ⟨ps, H2, I2, rel, e, kvs, ep, lk, q2⟩ => ?_)
  subst ep
  obtain ⟨rs, c, rk⟩ := carries_of (P := X.prog) (w := X.w) rel
  obtain ⟨z, hd, vs0, r0, dd⟩ := dk_of I2.hok e
  cases r0
  refine ⟨rs, c, dd, fun h' dd' hs => ⟨.ref s.heap.objs.size, _, ?_, rfl, q2⟩⟩
  have hz : (mergeK [] kvs).length ≤ sizeLine := by
    have h1 := length_mergeK kvs []
    rw [List.length_nil] at h1
    rw [sizeLine_eq]; omega
  have he : ∃ q, h'.get? s.heap.objs.size = some q := let ⟨q, _, _, hq, _⟩ := dd'; ⟨q, hq⟩
  exact d_write I2 (by rw [e]; exact True.intro) hs he (dk_new hz hd (rk.merge .nil) dd')
section
variable {X : Cx} {pins : List (Addr × Obj)} {σ : St} {H : Hp} {s : Shared} {a : Addr} {y d : V} {u r : Value} {o : Option V} {A : Around} {E : Value → Shared → Prop}
end
section
variable {X : Cx} {o e f : Expr} {apos cpos : Pos} {td ty tx : TE}
end
section
variable {X : Cx} {pins : List (Addr × Obj)} {σ : St} {H : Hp} {s : Shared} {a : Addr} {kvs : List (Key × V)} {A : Around} {E : Value → Shared → Prop}
end
section
variable {X : Cx} {pins : List (Addr × Obj)} {σ : St} {H : Hp} {s : Shared} {a : Addr} {y : V} {u : Value} {A : Around} {E : Value → Shared → Prop}
end
end L2
set_option Elab.async false
set_option linter.all false
set_option maxRecDepth 100000
namespace L2
open PySem PySem.Spec PyProof.Rows
section
variable {X : Cx} {e o value : Expr} {f : Str} {ta tv : TE} {pos pos' : Pos}
end
section
variable {X : Cx} {CX : CXT} {k : Nat} {f C : Addr} {fd : FuncData} {ps : List Str} {sp : Sp} {dvs : List V} {ds : List Value} {E : XKs} {x m : Str} {p pos apos : Pos} {e o : Expr} {es : List Expr} {ta : TE} {t : TA}
end
end L2
set_option Elab.async false
set_option linter.all false
set_option maxRecDepth 100000
namespace L2
open PySem PySem.Spec PyProof.Rows
def tCompT (wi : TI) (n : Nat) (g : TG) (ks : List Nat) (tt : TT) (te : TE) : TE := fun σ H Q => wi σ H fun J H1 => ∀ D, H1 D = none → ∃ W : Nat → Nat → List V → Hp → Prop, (∃ m, W 0 m [] (upd H1 D (.lst []))) ∧
  ∀ i m ys H2, W i m ys H2 → H2 D = some (.lst ys) ∧ ((J.stop i H2 ∧ Q (.ref D) H2) ∨ (J.go i H2 ∧ ∀ x H3, J.yld i H2 x H3 → ∀ zs : St, zs.length = n →
    g x (zs ++ ks.map fun k => (σ[k]?).join) H3 fun σ4 H4 => (∃ zs4 : St, zs4.length = n ∧ σ4 = zs4 ++ ks.map fun k => (σ[k]?).join) ∧
      tt σ4 H4 fun b H5 => if b = true then te σ4 H5 fun y H6 => H6 D = some (.lst ys) ∧ ys.length < sizeLine ∧ ∃ m', m' < m ∧ W (i + 1) m' (ys ++ [y]) (upd H6 D (.lst (ys ++ [y])))
        else ∃ m', m' < m ∧ W (i + 1) m' ys H5))
theorem comp_runT {X : Cx} {elt iter : Expr} {x : Str} {xs : List Str} {tg : Expr} {g : TG} {pos : Pos} {ifs : List Expr} {scope : Scope} {cl : List (Str × Addr)} {fr : List Str} {ks : List Nat} {wi : TI} {tt : TT} {te : TE} (hc : X.calm = true) (S : CompScope X scope cl x fr)
    (hks : ks.map (fun k => X.N[k]?) = fr.map some) (hi : PI X tg iter wi) (hg : ∀ C s₂ H₂ ex pn, PG (compCx X (xs ++ fr) scope cl C s₂ H₂ ex pn) tg g)
    (ht : ∀ C s₂ H₂ ex pn, PTs (compCx X (xs ++ fr) scope cl C s₂ H₂ ex pn) ifs tt) (he : ∀ C s₂ H₂ ex pn, PE (compCx X (xs ++ fr) scope cl C s₂ H₂ ex pn) elt te)
    (hs : ∀ x, foldedSetIterable iter X.env x = pure x := by intro _; rfl)
    {pins : List (Addr × Obj)} {s : Shared} {σ : St} {H : Hp} {Q : VK} (I : Inv X pins σ H s) (h : tCompT wi xs.length g ks tt te σ H Q) (use : Option (Value → Sem Unit)) (Qp : Value → Shared → Prop)
    (hend : ∀ (D C : Addr) (H' : Hp) (s' : Shared) (mC : Str → Option Value) (f : Flow), Inv X pins σ H' s' → FpOk X pins H' C → s'.heap.Ns C mC → Q (.ref D) H' → compPost (model X.prog X.w) X.A X.xe use Qp (.ref D) C (.ok f) s') :
    wpAny (model X.prog X.w) X.A (comprehension (.ListComp elt [⟨tg, iter, ifs, 0⟩] scope pos) scope X.env (firstIterPos [⟨tg, iter, ifs, 0⟩] pos) (newList []) false (firstIter [⟨tg, iter, ifs, 0⟩] X.env) use) Qp X.xe s := by
  refine wpAny_comprehension_free (use := use) rfl hs S.clos S.kind S.names (thn (hi pins s σ H _ I h) fun v s1 h1 => thn h1 fun itv s2 h2 => ?_)
  obtain ⟨it, fp, tn, J, H2, e, I2, T, st2, f2, hW⟩ := h2
  subst e
  refine wpAny_newObj_type (wpAny_newFunctionEnv S.nocell (by intro y hy; simp at hy) (fun h₁ hns₁ hsb₁ => ?_) S.kind)
  dsimp only at hns₁ hsb₁ ⊢
  have hD0 : H2 s2.heap.objs.size = none := I2.hok.fresh (Nat.le_refl _)
  obtain ⟨W, ⟨m0, w0⟩, turn⟩ := hW s2.heap.objs.size hD0
  generalize hs3 : s2.heap.push { cls := .type "list", dict := none, data := .seq ([] : List Value).toArray } = g3 at hns₁ hsb₁ ⊢
  have hsz3 : g3.objs.size = s2.heap.objs.size + 1 := by rw [← hs3, Heap.size_push]
  have up3 : ∀ b o, s2.heap.get? b = some o → g3.get? b = some o := fun b o e => by rw [← hs3]; exact Heap.get?_push_of_some _ e
  have gD : g3.get? s2.heap.objs.size = some { cls := .type "list", dict := none, data := .seq ([] : List Value).toArray } := by rw [← hs3]; exact Heap.get?_push_size _ rfl
  have I3 : Inv X pins σ (upd H2 s2.heap.objs.size (.lst [])) { s2 with heap := g3 } := I2.laid (t' := s2.toks) up3 (Nat.le_refl _) ⟨by simp, [], 0, .nil, gD⟩
  have keep4 : ∀ b o, g3.get? b = some o → h₁.get? b = some o := fun b o e => (hsb₁.2 b (Nat.ne_of_lt (Heap.lt_size e))).trans (Heap.get?_push_of_some _ e)
  have hCn : (upd H2 s2.heap.objs.size (.lst [])) g3.objs.size = none := I3.hok.fresh (Nat.le_refl _)
  have fpD : ∀ b ∈ fp, b ≠ s2.heap.objs.size := fun b hb z => by
    obtain ⟨o, e, _⟩ := T.obj 0 _ st2 b hb
    exact absurd (Heap.lt_size e) (by rw [z]; exact Nat.lt_irrefl _)
  have fpC : ∀ b ∈ fp, b ≠ g3.objs.size := fun b hb z => by
    obtain ⟨o, e, _⟩ := T.obj 0 _ st2 b hb
    exact absurd (Heap.lt_size (up3 b o e)) (by rw [z]; exact Nat.lt_irrefl _)
  have fpN : ∀ b ∈ fp, (upd H2 s2.heap.objs.size (.lst [])) b = none := fun b hb => by rw [upd_ne (fpD b hb)]; exact (f2 b hb).1
  have Ok : (compCx X (xs ++ fr) scope cl g3.objs.size { s2 with heap := g3 } (upd H2 s2.heap.objs.size (.lst [])) fp (X.pn ++ pins)).Ok := by
    refine ⟨I.ok.mod, S.kind, I.ok.glob, I.ok.blt, Nat.le_refl _, fun y z c e1 e2 => I.ok.inj y z c (S.sub e1) (S.sub e2), fun y hy => ?_, (fun y c z => nomatch z), I.ok.hd, I.ok.frames, .inl rfl, fun b hb => ⟨fpC b hb, fun y c e => (f2 b hb).2.2.2.2.1 y c (S.sub e)⟩, I3.bs, Nat.le_trans I.ok.bsz I3.sz, fun b o e hb => ?_, fun b hb z => ?_, I3.stack, I3.stkFree⟩
    · have hy' : y ∈ fr := S.only y hy
      obtain ⟨c, e⟩ := I.ok.has y (S.kinds y hy')
      exact ⟨c, (S.cell hy').trans e⟩
    · rcases (f2 b hb).2.2.2.1 with q | q
      · exact I.ok.noex b o e q
      · exact absurd (Heap.lt_size e) (Nat.not_lt.mpr (Nat.le_trans I.ok.bsz q))
    · rcases List.mem_cons.mp (I3.stkSub b z) with q | q
      · exact (f2 b hb).2.1 q
      · exact (f2 b hb).2.2.1 q
  have I4 : Inv (compCx X (xs ++ fr) scope cl g3.objs.size { s2 with heap := g3 } (upd H2 s2.heap.objs.size (.lst [])) fp (X.pn ++ pins)) [] ((xs.map fun _ => none) ++ ks.map fun k => (σ[k]?).join) (upd H2 s2.heap.objs.size (.lst [])) { s2 with heap := h₁, toks := s2.toks + ([] : List (Str × Value)).length } := by
    refine ⟨Ok, rfl, I3.bare, Un.kept keep4, ⟨_, hns₁, fun i y v e1 e2 e3 => ?_⟩, fun y c e => ?_, hCn, fun y c e => I3.freeC y c (S.sub e), fun p hp => ?_, I3.hok.kept keep4, ?_⟩
    · have e1' : (xs ++ fr)[i]? = some y := e1
      by_cases hix : i < xs.length
      · rw [List.getElem?_append_left (by simpa using hix)] at e2
        simp [hix] at e2
      · obtain ⟨i, rfl⟩ : ∃ i', i = xs.length + i' := ⟨i - xs.length, by omega⟩
        rw [List.getElem?_append_right (by omega)] at e1'
        rw [List.getElem?_append_right (by simp)] at e2
        have e1' : fr[i]? = some y := by simpa using e1'
        have e2 : (ks.map fun k => (σ[k]?).join)[i]? = some (some v) := by simpa using e2
        have hy : y ∈ fr := List.mem_of_getElem? e1'
        have ek : (ks.map (fun k => X.N[k]?))[i]? = (fr.map some)[i]? := by rw [hks]
        rw [List.getElem?_map, List.getElem?_map, e1'] at ek
        have e2' := e2
        rw [List.getElem?_map] at e2'
        cases hk : ks[i]? with
        | none => rw [hk] at ek; cases ek
        | some k =>
          rw [hk] at ek e2'
          have ek' : X.N[k]? = some y := by simpa using ek
          have e2'' : (σ[k]?).join = some v := by simpa using e2'
          have es : σ[k]? = some (some v) := by
            cases q : σ[k]? with
            | none => rw [q] at e2''; cases e2''
            | some z => rw [q] at e2''; rw [show z = some v from e2'']
          obtain ⟨m, hn, hl⟩ := I3.loc
          have hkd := S.kinds y hy
          obtain ⟨u, r, lk⟩ := hl k y v ek' es (by rcases hkd with q | q; exact .inr (.inl q); exact .inr (.inr q))
          refine ⟨u, r, .inr ⟨S.kin y hy, ?_⟩⟩
          rcases lk with ⟨q, _⟩ | ⟨_, c, ec, hcell⟩
          · rcases hkd with z | z <;> (rw [q] at z; cases z)
          · obtain ⟨o, ho, hd⟩ := hcell
            exact ⟨c, (S.cell hy).trans ec, o, keep4 _ _ ho, hd⟩
    · obtain ⟨v, o, ho, hd⟩ := I3.cell y c (S.sub e)
      exact ⟨v, o, keep4 _ _ ho, hd⟩
    · have hp' : p ∈ X.pn ++ pins := by simpa [compCx] using hp
      obtain ⟨a1, a2, a3, a4, a5⟩ := I3.pin p hp'
      refine ⟨keep4 _ _ a1, a2, Nat.ne_of_lt (Heap.lt_size a1), fun z => ?_, a5⟩
      rcases List.mem_cons.mp (I3.stkSub p.1 z) with q | q
      · exact a3 q
      · exact a4 q
    · show ((xs.map fun _ => none) ++ ks.map _).length = (xs ++ fr).length
      have := congrArg List.length hks
      simp at this
      simp [this]
  have st4 : tn 0 h₁ := T.keep 0 _ _ st2 fun b hb o e => keep4 _ _ (up3 _ _ e)
  have stat : ∀ {H' : Hp}, (∀ b ∈ fp, H' b = none) → ∀ b ∈ fp, FpOk (compCx X (xs ++ fr) scope cl g3.objs.size { s2 with heap := g3 } (upd H2 s2.heap.objs.size (.lst [])) fp (X.pn ++ pins)) [] H' b := fun hn b hb =>
    ⟨hn b hb, fpC b hb, Ok.exfs b hb, .inl hb, fun y c e => (f2 b hb).2.2.2.2.1 y c (S.sub e), fun p hp => (f2 b hb).2.2.2.2.2 p (by simpa [compCx] using hp)⟩
  have loop : codeAny (model X.prog X.w) X.A (.compLoop (.ListComp elt [⟨tg, iter, ifs, 0⟩] scope pos) 0 (.ref it) (.ref s2.heap.objs.size) (compEnvC scope cl g3.objs.size X.env))
      (compPost (model X.prog X.w) X.A X.xe use Qp (.ref s2.heap.objs.size) g3.objs.size) { s2 with heap := h₁, toks := s2.toks + ([] : List (Str × Value)).length } := by
    refine compLoop_any (fun n s' => ∃ i ys σ' H', Inv (compCx X (xs ++ fr) scope cl g3.objs.size { s2 with heap := g3 } (upd H2 s2.heap.objs.size (.lst [])) fp (X.pn ++ pins)) [] σ' H' s' ∧ (∃ zs, zs.length = xs.length ∧ σ' = zs ++ ks.map fun k => (σ[k]?).join) ∧ tn i s'.heap ∧ (∀ b ∈ fp, H' b = none) ∧ W i n ys H') ?_ m0
      ⟨0, [], _, _, I4, ⟨xs.map fun _ => none, by simp, rfl⟩, st4, fpN, w0⟩
    rintro n s' ⟨i, ys, σ', H', I5, ⟨zs, hzs, rfl⟩, st5, fr5, w5⟩
    obtain ⟨hD, hor⟩ := turn i n ys H' w5
    rcases hor with ⟨stop, qn⟩ | ⟨go, step⟩
    · refine wpAny_mono (T.done (compCx X (xs ++ fr) scope cl g3.objs.size { s2 with heap := g3 } (upd H2 s2.heap.objs.size (.lst [])) fp (X.pn ++ pins)) rfl rfl rfl hc i [] s' _ H' (fun _ _ => False) I5 (stat fr5) st5 stop) (fun r s6 ⟨hr, I6⟩ => ?_) (fun _ _ f => f.elim)
      subst hr
      obtain ⟨mC, hnC, _⟩ := I6.loc
      have tr : ∀ b o, b ≠ g3.objs.size → s6.heap.get? b = some o → s6.heap.get? b = some o := fun b o hb e => e
      have U := I6.base
      have neC : ∀ b o, g3.get? b = some o → b ≠ g3.objs.size := fun b o e => Nat.ne_of_lt (Heap.lt_size e)
      have U' : Un (frs X.stack) fp (upd H2 s2.heap.objs.size (.lst [])) H' g3 s6.heap := ⟨fun b o q n hb hx => tr b o (neC b o q) (U.keep b o q n hb hx), fun b o q n hb hx => let ⟨sl, e⟩ := U.slot b o q n hb hx; ⟨sl, tr _ _ (neC b o q) e⟩, U.free, fun b o q hx => let ⟨o', e⟩ := U.there b o q hx; ⟨o', tr _ _ (neC b o q) e⟩, U.tups, U.frzs, U.tbls⟩
      have ok' : HOk X.prog X.w H' s6.heap := fun a o e => (I6.hok a o e).stay (fun b u hb q => tr b u (fun z => by
          have fC : H' g3.objs.size = none := I6.free
          rcases hb with r | r
          · rw [← z, r, e] at fC; cases fC
          · rw [← z, r] at fC; cases fC) q) (fun _ q => q) fun _ _ q => q
      have J6 : Inv X pins σ H' s6 := I3.call' (s' := s6) (ch := fp) I6.os U' ok' I6.bare fun b hb => ⟨(f2 b hb).2.2.2.1, (f2 b hb).2.1, (f2 b hb).2.2.2.2.1, (f2 b hb).2.2.2.2.2⟩
      exact hend s2.heap.objs.size g3.objs.size H' s6 mC _ J6 (I3.fpOk (Nat.le_refl _) I6.free) hnC qn
    · refine wpAny_mono (T.item (compCx X (xs ++ fr) scope cl g3.objs.size { s2 with heap := g3 } (upd H2 s2.heap.objs.size (.lst [])) fp (X.pn ++ pins)) rfl rfl rfl hc i [] s' _ H' (fun _ _ => False) I5 (stat fr5) st5 go) (fun r s6 ⟨u, hr, h6⟩ => ?_) (fun _ _ f => f.elim)
      subst hr
      refine wpAny_mono h6 (fun _ s7 ⟨xv, H7, I7, r7, y7, st7, fr7⟩ => ?_) (fun _ _ f => f.elim)
      have I7' := I7.pinned (stat fr7) (T.obj _ _ st7)
      have pinsTo : ∀ {σ9 : St} {H9 : Hp} {s9 : Shared}, Inv (compCx X (xs ++ fr) scope cl g3.objs.size { s2 with heap := g3 } (upd H2 s2.heap.objs.size (.lst [])) fp (X.pn ++ pins)) ([] ++ pinsAt fp s7.heap) σ9 H9 s9 → tn (i + 1) s9.heap ∧ ∀ b ∈ fp, H9 b = none := fun {σ9 H9 s9} I9 =>
        ⟨T.keep _ _ _ st7 fun b hb o e => (I9.pin (b, o) (List.mem_append_right _ (List.mem_append_right _ (mem_pinsAt hb e)))).1, fun b hb => by
          obtain ⟨o, e, d⟩ := T.obj _ _ st7 b hb
          exact (I9.pin (b, o) (List.mem_append_right _ (List.mem_append_right _ (mem_pinsAt hb e)))).2.1⟩
      refine wpAny_mono (hg _ _ _ _ _ _ s7 _ H7 xv u _ I7' r7 (step xv H7 y7 zs hzs)) (fun _ s8 ⟨σ8, H8, I8, ⟨zs4, hz4, e8⟩, q8⟩ => ?_) (fun _ _ f => f.elim)
      subst e8
      refine wpAny_mono (ht _ _ _ _ _ _ s8 _ H8 _ I8 q8) (fun ok s9 ⟨H9, I9, q9⟩ => ?_) (fun _ _ f => f.elim)
      cases ok with
      | false =>
        rw [if_neg Bool.false_ne_true] at q9 ⊢
        obtain ⟨m', hm, w9⟩ := q9
        obtain ⟨t9, f9⟩ := pinsTo I9
        exact ⟨m', hm, i + 1, ys, _, H9, I9.unpinned, ⟨zs4, hz4, rfl⟩, t9, f9, w9⟩
      | true =>
        rw [if_pos rfl] at q9 ⊢
        refine wpAny_mono (he _ _ _ _ _ _ s9 _ H9 _ I9 q9) (fun yv s10 ⟨y, H10, I10, r10, hD10, hlen, m', hm, w10⟩ => ?_) (fun _ _ f => f.elim)
        refine wpAny_mono (mt_append (X := compCx X (xs ++ fr) scope cl g3.objs.size { s2 with heap := g3 } (upd H2 s2.heap.objs.size (.lst [])) fp (X.pn ++ pins)) _ s10 _ H10 (.ref s2.heap.objs.size) [y] (.ref s2.heap.objs.size) [yv]
          (fun _ H' => H' = upd H10 s2.heap.objs.size (.lst (ys ++ [y]))) I10 rfl (.cons r10 .nil) ⟨_, ys, y, rfl, rfl, hD10, hlen, rfl⟩) (fun _ s11 ⟨_, H11, I11, _, e11⟩ => ?_) (fun _ _ f => f.elim)
        subst e11
        obtain ⟨t11, f11⟩ := pinsTo I11
        exact ⟨m', hm, i + 1, ys ++ [y], _, _, I11.unpinned, ⟨zs4, hz4, rfl⟩, t11, f11, w10⟩
  exact codeAny_compStart_list loop (T.self X.A 0 _ _ _ st4 loop)
theorem pe_compT {X : Cx} {elt iter : Expr} {x : Str} {xs : List Str} {tg : Expr} {g : TG} {pos : Pos} {ifs : List Expr} {scope : Scope} {cl : List (Str × Addr)} {fr : List Str} {ks : List Nat} {wi : TI} {tt : TT} {te : TE} (hc : X.calm = true) (S : CompScope X scope cl x fr)
    (hks : ks.map (fun k => X.N[k]?) = fr.map some) (hi : PI X tg iter wi) (hg : ∀ C s₂ H₂ ex pn, PG (compCx X (xs ++ fr) scope cl C s₂ H₂ ex pn) tg g)
    (ht : ∀ C s₂ H₂ ex pn, PTs (compCx X (xs ++ fr) scope cl C s₂ H₂ ex pn) ifs tt) (he : ∀ C s₂ H₂ ex pn, PE (compCx X (xs ++ fr) scope cl C s₂ H₂ ex pn) elt te)
    (hs : ∀ x, foldedSetIterable iter X.env x = pure x := by intro _; rfl) : PE X (.ListComp elt [⟨tg, iter, ifs, 0⟩] scope pos) (tCompT wi xs.length g ks tt te) := by
  intro pins s σ H Q I h
  rw [eval_ListComp]
  refine comp_runT hc S hks hi hg ht he hs I h none _ fun D C H' s' mC f J fp hn q => ⟨mC, hn, fun h' sb => ?_⟩
  obtain ⟨f0, f1, f2, f3, f4, f5⟩ := fp
  exact ⟨.ref D, H', J.turned (t' := s'.toks) (fun b o hb e => (sb.2 b hb).trans e) f0 f1 f3 f4 f5, rfl, q⟩
end L2
set_option Elab.async false
set_option linter.all false
set_option maxRecDepth 100000
namespace L2
open PySem PySem.Spec PyProof.Rows Builtin Builtin.Str
section
variable {prog : Program} {w : World} {A : Around} {E : Value → Shared → Prop} {s : Shared} {t : Addr}
theorem sum_listG {xs : Array (Int × Tok)} {Q : Value → Shared → Prop} (hh : A.handled = none) (ht : s.heap.IsList t (intItems xs))
    (h : ∀ h' tk t', (∀ b o, s.heap.get? b = some o → h'.get? b = some o) → Q (.int (preSum (numAt xs) xs.size) t') { s with heap := h', toks := tk }) :
    wpAny (model prog w) A (call (.builtin "sum") [.ref t]) Q E s := by
  obtain ⟨o, ho, hc, n, hd⟩ := id ht
  have hne : t ≠ s.heap.objs.size := Nat.ne_of_lt (Heap.lt_size ho)
  have hsz : (intItems xs).size = xs.size := by simp [intItems]
  have W := (Walks.list (prog := prog) (w := w) (A := A.in1) hh s.heap.objs.size t hne (intItems xs)).toS
  rw [hsz] at W
  refine call_sum_walkAnyS (wpAny_pyIter_list ht ?_)
  refine ⟨s.heap.objs.size, _, _, _, _, _, _, numAt xs, rfl, W, ⟨⟨_, Heap.get?_push_size _ rfl, rfl, rfl⟩, ht.at fun o e => Heap.get?_push_of_some _ e⟩, fun b hb => ?_, fun i v hP => intItems_at hP, fun s' t' hm => ?_⟩
  · rcases List.mem_cons.mp hb with rfl | hb
    · exact Heap.lt_size (Heap.get?_push_size _ rfl)
    · obtain rfl := List.mem_singleton.mp hb
      exact Heap.lt_size (Heap.get?_push_of_some _ ho)
  · obtain ⟨h', g', d', tk', os'⟩ := s'
    have e1 : g' = s.gens := hm.gens
    have e2 : d' = s.drawn := hm.drawn
    have e3 : os' = s.os := hm.os
    subst e1 e2 e3
    exact h h' tk' t' fun b o e => hm.heap b o (fun hb => absurd (Heap.lt_size e) ((List.mem_singleton.mp hb) ▸ Nat.lt_irrefl _)) (Heap.get?_push_of_some _ e)
end
section
variable {X : Cx} {e a b c : Expr} {pos : Pos}
def gSum (K : PySem.W.Frag) : List V → Hp → VK → Prop
  | [.ref p], H, Q => ∃ ns : List Int, (SqL K H p (ns.map V.int) ∨ SqT K H p (ns.map V.int)) ∧ Q (.int ns.sum) H
  | _, _, _ => False
theorem fc_sumA (K : PySem.W.Frag) (hc : X.calm = true) (hK : X.K = K := by rfl) : CallR X (.builtin "sum") (gSum K) := by
  subst hK
  intro pins s σ H xs us Q I r h
  unfold gSum at h
  split at h
  · rename_i p
    obtain ⟨ns, hq, q⟩ := h
    rcases hq with hq | hq
    · obtain ⟨u, rfl, rx⟩ := vals1 r
      cases (show u = Value.ref p from rx)
      obtain ⟨its, r', pl, hz⟩ := I.list hq
      have hi := intsAre_of r'
      obtain ⟨ys, hy⟩ := hi.allInts.items
      have hn : numsOf its.toArray.toList = ns := by rw [show its.toArray.toList = its from rfl, hi.numsOf]
      have pl' := pl.isList
      rw [hy] at pl' hn
      rw [nums_intItems] at hn
      refine sum_listG (I.ok.hd hc) pl' fun h' tk t' hk => ?_
      rw [preSum_eq, List.take_of_length_le (by simp), hn]
      exact ⟨.int ns.sum, H, I.kept hk, ⟨_, rfl⟩, q⟩
    · exact call_sum_tup hc pins s σ H _ us Q I r ⟨p, ns, rfl, hq, q⟩
  · exact h.elim
section
variable {T name id : String} {r : V → List V → Hp → VK → Prop} {o : Expr} {to : TE} {apos cpos : Pos}
end
end
end L2
namespace L2
theorem nd_of {l : List PySem.Str} (h : l.Nodup) : l.Nodup := h
end L2
namespace L2
def sp5 (f : V → V → V → V → V → Hp → VK → XK → Prop) : Sp := fun vs H Q E => match vs with
  | [x, y, z, u, v] => f x y z u v H Q E
  | _ => False
theorem sp5.inv {vs : List V} {H : Hp} {Q : VK} {E : XK} {f} (h : sp5 f vs H Q E) : ∃ x y z u v, vs = [x, y, z, u, v] ∧ f x y z u v H Q E := by
  unfold sp5 at h; split at h
  · exact ⟨_, _, _, _, _, rfl, h⟩
  · exact h.elim
theorem sp5.len {vs : List V} {H : Hp} {Q : VK} {E : XK} {f} (h : sp5 f vs H Q E) : vs.length = 5 := by obtain ⟨_, _, _, _, _, rfl, _⟩ := sp5.inv h; rfl
end L2
set_option Elab.async false
set_option linter.all false
set_option maxRecDepth 100000
set_option maxHeartbeats 1000000
namespace L2
open PySem PySem.Spec PyProof.Rows
structure RoomC (k : Nat) (A : Around) : Prop where
  dp : A.depth + 3 * k + 5 < recursionLimit
  un : A.units + 16 * k + 200 < cLine
theorem RoomC.mono {j k : Nat} {A : Around} (r : RoomC k A) (h : j ≤ k) : RoomC j A := ⟨by have := r.dp; omega, by have := r.un; omega⟩
theorem RoomC.deeper {k : Nat} {A : Around} (r : RoomC (k + 1) A) (env : Env) : RoomC k (A.deeper env) :=
  ⟨by have := r.dp; show A.depth + 1 + 3 * k + 5 < _; omega, by have := r.un; show A.units + 3 + 16 * k + 200 < _; omega⟩
section
variable {X : Cx} {CX : CXT} {k : Nat} {f : Addr} {fd : FuncData} {ps : List Str} {sp : Sp} {dvs : List V} {ds : List Value} {E : XKs} {x : Str} {p pos : Pos} {e : Expr} {es : List Expr} {t : TA}
end
end L2
set_option Elab.async false
set_option linter.all false
set_option maxRecDepth 100000
set_option maxHeartbeats 1000000
namespace L2
open PySem PySem.Spec PyProof.Rows
section
variable {X : Cx} {tg : Expr}
end
end L2
namespace L2
theorem ex1 {α : Type} {us : List α} (hl : us.length = 1) : ∃ a0, us = [a0] := by
  match us, hl with
  | [a0], _ => exact ⟨a0, rfl⟩
theorem ex2 {α : Type} {us : List α} (hl : us.length = 2) : ∃ a0 a1, us = [a0, a1] := by
  match us, hl with
  | [a0, a1], _ => exact ⟨a0, a1, rfl⟩
theorem ex3 {α : Type} {us : List α} (hl : us.length = 3) : ∃ a0 a1 a2, us = [a0, a1, a2] := by
  match us, hl with
  | [a0, a1, a2], _ => exact ⟨a0, a1, a2, rfl⟩
end L2
set_option Elab.async false
set_option linter.all false
namespace L2
open Lean Meta Simp
def rdFree : List Name := [`L2.fVar, `L2.tC, `L2.tOp, `L2.tUn, `L2.gEqN, `L2.fTest, `L2.fChain, `L2.fAnd, `L2.fOr, `L2.fNot, `L2.fPickL, `L2.fPickT, `L2.tSeq, `L2.tIfS, `L2.tRet, `L2.tRetN, `L2.tNext, `L2.tDrop, `L2.tAsg, `L2.gName, `L2.tIf, `L2.tAnd, `L2.tOr, `L2.tNot, `L2.tCons, `L2.tNil, `L2.tCB, `L2.tCallX, `L2.tTup, `L2.tLst, `L2.tIsN, `L2.tNotN, `L2.tIsB, `L2.tPart, `L2.tNoPart, `L2.tSl, `L2.cs, `L2.CDiv, `L2.CMul, `L2.CPow, `L2.tRaise, `L2.tTry, `L2.gcE, `L2.tGcT, `L2.tGc, `L2.tBM, `L2.fDnew, `L2.fJoinRev, `L2.CDivB, `L2.rAppend, `L2.gTup, `L2.gCons, `L2.gNil, `L2.gSub, `L2.rSetL, `L2.tFldG, `L2.sFldG, `L2.tMethX, `L2.tMakeX, `L2.tDGet1, `L2.tDGet2, `L2.sDPut, `L2.tBM0, `L2.rClear]
def rdCase : List Name := [`L2.gAdd, `L2.gI, `L2.gIC, `L2.gNeg, `L2.gLe, `L2.gLt, `L2.eqS, `L2.kB, `L2.gAbs, `L2.gMin, `L2.gMax, `L2.gLen, `L2.gIsi, `L2.gInt, `L2.gIx, `L2.sp0, `L2.sp1, `L2.sp2, `L2.sp3, `L2.sp4, `L2.asI, `L2.asT, `L2.asB, `L2.asR, `L2.tyV, `L2.gSt, `L2.gEn, `L2.gZf, `L2.gStr, `L2.gInt2, `L2.gIn, `L2.gSl, `L2.gIdx, `L2.gMulS, `L2.gCat, `L2.gRep, `L2.gRepT, `L2.gIsiT, `L2.gList, `L2.gTuple, `L2.gSpl, `L2.gStM, `L2.gFld, `L2.gPutF, `L2.gMeth, `L2.gSum, `L2.gMulT]
def rdStep (e : Lean.Expr) : MetaM (Option Lean.Expr) := do
  let .const n us := e.getAppFn | return none
  let fr := rdFree.contains n
  unless fr || rdCase.contains n do return none
  let some (.defnInfo d) := (← getEnv).find? n | return none
  let v := d.value.instantiateLevelParams d.levelParams us
  let k := v.getNumHeadLambdas
  if e.getAppNumArgs < k then return none
  let b := v.beta e.getAppArgs
  if fr then return some b
  match ← reduceMatcher? b with
  | .reduced r => return some r
  | .notMatcher => return some b
  | _ => return none
dsimproc_decl rdAll (_) := fun e => do
  match ← rdStep e with
  | some r => return .visit r
  | none => return .continue
def rdI := And.intro @L2.gc_self (And.intro @L2.cx_K (And.intro @L2.V.bl.injEq (And.intro @L2.V.str.injEq (And.intro @L2.same_self (And.intro @L2.kd_bl (And.intro @L2.kd_int (And.intro @L2.kd_str (And.intro @L2.kd_non (And.intro @L2.cl_int (And.intro @L2.is_NoneType_int (And.intro @L2.is_bool_int (And.intro @L2.is_int_int (And.intro @L2.is_str_int (And.intro @L2.is_list_int (And.intro @L2.is_tuple_int (And.intro @L2.is_dict_int (And.intro @L2.cl_bool (And.intro @L2.is_NoneType_bool (And.intro @L2.is_bool_bool (And.intro @L2.is_int_bool (And.intro @L2.is_str_bool (And.intro @L2.is_list_bool (And.intro @L2.is_tuple_bool (And.intro @L2.is_dict_bool (And.intro @L2.cl_str (And.intro @L2.is_NoneType_str (And.intro @L2.is_bool_str (And.intro @L2.is_int_str (And.intro @L2.is_str_str (And.intro @L2.is_list_str (And.intro @L2.is_tuple_str (And.intro @L2.is_dict_str (And.intro @L2.cl_list (And.intro @L2.is_NoneType_list (And.intro @L2.is_bool_list (And.intro @L2.is_int_list (And.intro @L2.is_str_list (And.intro @L2.is_list_list (And.intro @L2.is_tuple_list (And.intro @L2.is_dict_list (And.intro @L2.cl_tuple (And.intro @L2.is_NoneType_tuple (And.intro @L2.is_bool_tuple (And.intro @L2.is_int_tuple (And.intro @L2.is_str_tuple (And.intro @L2.is_list_tuple (And.intro @L2.is_tuple_tuple (And.intro @L2.is_dict_tuple (And.intro @L2.cl_dict (And.intro @L2.is_NoneType_dict (And.intro @L2.is_bool_dict (And.intro @L2.is_int_dict (And.intro @L2.is_str_dict (And.intro @L2.is_list_dict (And.intro @L2.is_tuple_dict (And.intro @L2.is_dict_dict (And.intro @L2.ak_bl (And.intro @L2.ak_int (And.intro @L2.ak_str (And.intro @L2.ak_non (And.intro @L2.isI_int (And.intro @L2.isI_bl (And.intro @L2.isI_str (And.intro @L2.isI_ref (And.intro @L2.isI_non (And.intro @L2.isS_int (And.intro @L2.isS_bl (And.intro @L2.isS_str (And.intro @L2.isS_ref (And.intro @L2.isS_non (And.intro @true_and (And.intro @and_true (And.intro @and_self (And.intro @true_or (And.intro @or_true (And.intro @decide_eq_true_eq (And.intro @Bool.true_eq_false (And.intro @Bool.false_xor (And.intro @Bool.true_xor (And.intro @Bool.not_true (And.intro @Bool.not_false (And.intro @Bool.false_eq_true (And.intro @Bool.not_eq_true' (And.intro @decide_eq_false_iff_not @Classical.not_not))))))))))))))))))))))))))))))))))))))))))))))))))))))))))))))))))))))))))))))))))))
end L2
set_option Elab.async false
set_option linter.all false
set_option maxRecDepth 100000
namespace L2
namespace Srt
open PySem PyProof.Rows
def kv (κ : Keyed → Int) (xs : Array Keyed) (i : Nat) : Int := (xs[i]?.map κ).getD 0
def Up (κ : Keyed → Int) (xs : Array Keyed) (k : Nat) : Prop := ∀ i j, i ≤ j → j < k → kv κ xs i ≤ kv κ xs j
def Dn (κ : Keyed → Int) (xs : Array Keyed) (k : Nat) : Prop := ∀ i j, i ≤ j → j < k → kv κ xs j ≤ kv κ xs i
structure SB (kd : SortKind) (z : Array Keyed) (t : SortSt) : Prop where
  pm : (arrOf t).Perm z
  kn : kindOf t = kd
  fl : failedOf t = none
  pn : pendingOf t = #[]
theorem SB.sz {kd : SortKind} {z : Array Keyed} {t : SortSt} (b : SB kd z t) : (arrOf t).size = z.size := b.pm.size_eq
theorem SB.put {kd : SortKind} {z : Array Keyed} {t : SortSt} {xs : Array Keyed} (b : SB kd z t) (p : xs.Perm (arrOf t)) : SB kd z (setArr t xs) :=
  ⟨p.trans b.pm, b.kn, b.fl, b.pn⟩
theorem kv_at {κ : Keyed → Int} {xs : Array Keyed} {i : Nat} (h : i < xs.size) : kv κ xs i = κ xs[i] := by
  unfold kv; rw [Array.getElem?_eq_getElem h]; rfl
theorem kv_of {κ : Keyed → Int} {xs ys : Array Keyed} {i j : Nat} (h : xs[i]? = ys[j]?) : kv κ xs i = kv κ ys j := by unfold kv; rw [h]
theorem kv_bub {κ : Keyed → Int} {xs : Array Keyed} {u d : Nat} (hs : u < xs.size) (hd : d ≤ u) (k : Nat) :
    kv κ (bubble xs u d) k = if k = u - d then kv κ xs u else if u - d < k ∧ k ≤ u then kv κ xs (k - 1) else kv κ xs k := by
  have e := getElem?_bubble hs d hd k
  by_cases h1 : k = u - d
  · rw [if_pos h1] at e ⊢
    exact kv_of e
  · rw [if_neg h1] at e ⊢
    by_cases h2 : u - d < k ∧ k ≤ u
    · rw [if_pos h2] at e ⊢
      exact kv_of e
    · rw [if_neg h2] at e ⊢
      exact kv_of e
theorem kv_mir {κ : Keyed → Int} {xs : Array Keyed} {n : Nat} (hj : n ≤ xs.size) {k : Nat} (hk : k < n) :
    kv κ (mirror xs 0 n ((n - 0) / 2)) k = kv κ xs (n - 1 - k) := by
  have e := getElem?_mirror_all (i := 0) hj k
  rw [if_pos ⟨Nat.zero_le _, hk⟩, Nat.zero_add] at e
  exact kv_of e
section
variable {prog : Program} {w : World} {A : Around} {E : Value → Shared → Prop} {s : Shared} {z : Array Keyed} {κ : Keyed → Int} {kd : SortKind} {t : SortSt}
def Lts (prog : Program) (w : World) (A : Around) (s : Shared) (kd : SortKind) (κ : Keyed → Int) (z : Array Keyed) : Prop :=
  ∀ (E : Value → Shared → Prop) (p q : Keyed) (Q : Bool → Shared → Prop), p ∈ z.toList → q ∈ z.toList → Q (decide (κ p < κ q)) s → wpAny (model prog w) A (keyLt' kd p.1 q.1) Q E s
theorem SB.mem (b : SB kd z t) {i : Nat} (h : i < (arrOf t).size) : (arrOf t)[i] ∈ z.toList :=
  (Array.perm_iff_toList_perm.mp b.pm).mem_iff.mp (by simp)
theorem lt_at {i j : Nat} {Q : Option Bool → SortSt → Prop} (L : Lts prog w A s kd κ z) (b : SB kd z t) (hi : i < z.size) (hj : j < z.size)
    (h : Q (some (decide (kv κ (arrOf t) i < kv κ (arrOf t) j))) t) : wpS (model prog w) A E s (ltAt' i j) Q t := by
  have i' : i < (arrOf t).size := b.sz ▸ hi
  have j' : j < (arrOf t).size := b.sz ▸ hj
  rw [kv_at i', kv_at j'] at h
  rw [ltAt'_eq]
  refine wpS_bind (wpS_get ?_)
  show wpS (model prog w) A E s (elem' (arrOf t) i >>= fun p => elem' (arrOf t) j >>= fun q => lt' p q) Q t
  rw [elem'_eq, elem'_eq, Array.getElem?_eq_getElem i', Array.getElem?_eq_getElem j']
  refine wpS_bind (wpS_pure (wpS_bind (wpS_pure ?_)))
  rw [lt'_eq]
  refine wpS_bind (wpS_get ?_)
  rw [b.kn]
  exact wpS_bind (wpS_lift (wpAny_attempt (L _ _ _ _ (b.mem i') (b.mem j') ⟨rfl, wpS_pure h⟩)))
def Apart (κ : Keyed → Int) (z : Array Keyed) : Prop := (z.toList.map κ).Nodup
theorem apart (b : SB kd z t) (D : Apart κ z) {i j : Nat} (hj : j < z.size) (h : i < j) : kv κ (arrOf t) i ≠ kv κ (arrOf t) j := by
  have j' : j < (arrOf t).size := b.sz ▸ hj
  have i' : i < (arrOf t).size := Nat.lt_trans h j'
  have d : ((arrOf t).toList.map κ).Nodup := ((Array.perm_iff_toList_perm.mp b.pm).map κ).nodup_iff.mpr D
  rw [kv_at i', kv_at j']
  intro e
  have := List.pairwise_iff_getElem.mp d i j (by simpa using i') (by simpa using j') h
  simp at this
  exact this e
theorem up_more {xs : Array Keyed} {n : Nat} (u : Up κ xs n) (h : n = 0 ∨ kv κ xs (n - 1) ≤ kv κ xs n) : Up κ xs (n + 1) := by
  intro i j a c
  by_cases e : j < n
  · exact u i j a e
  · have : j = n := by omega
    subst this
    by_cases e2 : i = j
    · subst e2; exact Int.le_refl _
    · exact Int.le_trans (u i (j - 1) (by omega) (by omega)) (h.resolve_left (by omega))
theorem dn_more {xs : Array Keyed} {n : Nat} (u : Dn κ xs n) (h : n = 0 ∨ kv κ xs n ≤ kv κ xs (n - 1)) : Dn κ xs (n + 1) := by
  intro i j a c
  by_cases e : j < n
  · exact u i j a e
  · have : j = n := by omega
    subst this
    by_cases e2 : i = j
    · subst e2; exact Int.le_refl _
    · exact Int.le_trans (h.resolve_left (by omega)) (u i (j - 1) (by omega) (by omega))
theorem asc {a r : Nat} {Q : AscSt → SortSt → Prop} (L : Lts prog w A s kd κ z) (hr : r ≤ z.size) (ha : 1 ≤ a) (har : a ≤ r) (b : SB kd z t) (u : Up κ (arrOf t) a)
    (h : ∀ n, a ≤ n → n ≤ r → Up κ (arrOf t) n → (n = r ∨ kv κ (arrOf t) n < kv κ (arrOf t) (n - 1)) → Q (none, n) t) : wpS (model prog w) A E s (ascLoop a r) Q t := by
  unfold ascLoop
  refine wpS_forRange (fun x c t' => t' = t ∧ c = (none, x) ∧ Up κ (arrOf t) x) ?_ ?_ ⟨rfl, rfl, u⟩
  · rintro x c t' x1 x2 ⟨rfl, rfl, u'⟩
    refine wpS_bind (lt_at L b (by omega) (by omega) ?_)
    by_cases l : kv κ (arrOf t') x < kv κ (arrOf t') (x - 1)
    · simp only [decide_eq_true l, if_true]
      exact wpS_pure (h x x1 (by omega) u' (.inr l))
    · simp only [decide_eq_false l, Bool.false_eq_true, if_false]
      exact wpS_pure ⟨rfl, rfl, up_more u' (.inr (by omega))⟩
  · rintro c t' ⟨rfl, rfl, u'⟩
    rw [Nat.max_eq_right har] at u' ⊢
    exact h r har (Nat.le_refl _) u' (.inl rfl)
theorem t3 {n r : Nat} {Q : Option Nat → SortSt → Prop} (L : Lts prog w A s kd κ z) (hr : r ≤ z.size) (h1 : 1 ≤ n) (hn : n ≤ r) (b : SB kd z t) (u : Dn κ (arrOf t) n)
    (h : ∀ m t', SB kd z t' → 1 ≤ m → m ≤ r → Up κ (arrOf t') m → Q (some m) t') : wpS (model prog w) A E s (tail3 n r) Q t := by
  unfold tail3
  refine wpS_bind (wpS_reverse ?_)
  have b' := b.put (mirror_perm (arrOf t) 0 n ((n - 0) / 2))
  refine wpS_bind (asc L hr h1 hn b' ?_ fun m m1 m2 u' _ => wpS_pure (h m _ b' (by omega) m2 u'))
  intro i j a c
  have g : n ≤ (arrOf t).size := by rw [b.sz]; omega
  show kv κ (mirror (arrOf t) 0 n ((n - 0) / 2)) i ≤ kv κ (mirror (arrOf t) 0 n ((n - 0) / 2)) j
  rw [kv_mir g (by omega), kv_mir g c]
  exact u _ _ (by omega) (by omega)
theorem desc {n r : Nat} {Q : DescSt → SortSt → Prop} (L : Lts prog w A s kd κ z) (D : Apart κ z) (hr : r ≤ z.size) (h1 : 1 ≤ n) (hn : n ≤ r) (b : SB kd z t) (u : Dn κ (arrOf t) n)
    (h : ∀ m, n ≤ m → m ≤ r → Dn κ (arrOf t) m → Q (none, m, 0) t) : wpS (model prog w) A E s (descLoop n r) Q t := by
  unfold descLoop
  refine wpS_forRange (fun x c t' => t' = t ∧ c = (none, x, 0) ∧ Dn κ (arrOf t) x) ?_ ?_ ⟨rfl, rfl, u⟩
  · rintro x c t' x1 x2 ⟨rfl, rfl, u'⟩
    dsimp only
    refine wpS_bind (lt_at L b (by omega) (by omega) ?_)
    by_cases l : kv κ (arrOf t') x < kv κ (arrOf t') (x - 1)
    · simp only [decide_eq_true l, if_true]
      rw [if_neg (Nat.lt_irrefl 0)]
      exact wpS_pure ⟨rfl, rfl, dn_more u' (.inr (Int.le_of_lt l))⟩
    · simp only [decide_eq_false l, Bool.false_eq_true, if_false]
      refine wpS_bind (lt_at L b (by omega) (by omega) ?_)
      have d := apart b D (i := x - 1) (j := x) (by omega) (by omega)
      simp only [decide_eq_true (show kv κ (arrOf t') (x - 1) < kv κ (arrOf t') x by omega), if_true]
      exact wpS_pure (h x x1 (by omega) u')
  · rintro c t' ⟨rfl, rfl, u'⟩
    rw [Nat.max_eq_right hn] at u' ⊢
    exact h r hn (Nat.le_refl _) u'
theorem count {r : Nat} {Q : Option Nat → SortSt → Prop} (L : Lts prog w A s kd κ z) (D : Apart κ z) (hr : r ≤ z.size) (h1 : 1 ≤ r) (b : SB kd z t)
    (h : ∀ m t', SB kd z t' → 1 ≤ m → m ≤ r → Up κ (arrOf t') m → Q (some m) t') : wpS (model prog w) A E s (countRun' 0 r) Q t := by
  rw [countRun0_eq]
  refine wpS_bind (asc L hr (Nat.le_refl 1) h1 b (fun i j a c => by have : i = j := (by omega); subst this; exact Int.le_refl _) fun n n1 n2 u o => ?_)
  dsimp only
  by_cases e : n = r
  · rw [if_pos (by simpa using e)]
    exact wpS_pure (h n t b n1 n2 u)
  rw [if_neg (by simpa using e)]
  by_cases g : n > 1
  · rw [if_pos g]
    refine wpS_bind (lt_at L b (by omega) (by omega) ?_)
    have d := apart b D (i := 0) (j := n - 1) (by omega) (by omega)
    have l := u 0 (n - 1) (by omega) (by omega)
    simp only [decide_eq_true (show kv κ (arrOf t) 0 < kv κ (arrOf t) (n - 1) by omega), if_true]
    exact wpS_pure (h n t b n1 n2 u)
  · rw [if_neg g]
    have : n = 1 := by omega
    subst this
    unfold descPart
    refine wpS_bind (wpS_lift (wpAny_rule ⟨rfl, ?_⟩))
    refine wpS_bind (desc L D hr (by omega) (by omega) b ?_ fun m m1 m2 u' => ?_)
    · refine dn_more (fun i j a c => by have : i = j := (by omega); subst this; exact Int.le_refl _) (.inr ?_)
      have := o.resolve_left e
      omega
    · dsimp only
      rw [if_neg (Nat.lt_irrefl 0)]
      exact t3 L hr (by omega) m2 b u' h
theorem binary {n k₀ : Nat} {Q : Bool → SortSt → Prop} (L : Lts prog w A s kd κ z) (hn : n ≤ z.size) (hk : k₀ ≤ n) (h0 : 1 ≤ k₀) (b : SB kd z t) (u : Up κ (arrOf t) k₀)
    (h : ∀ t', SB kd z t' → Up κ (arrOf t') n → Q true t') : wpS (model prog w) A E s (binarySort' 0 n k₀) Q t := by
  rw [binarySort'_eq]
  simp only [Nat.zero_add]
  rw [Nat.max_eq_left h0]
  refine wpS_bind (wpS_mono (wpS_forRange (fun k c t' => c = (none, ()) ∧ SB kd z t' ∧ Up κ (arrOf t') k) (Q := fun c t' => c = (none, ()) ∧ SB kd z t' ∧ Up κ (arrOf t') n) ?_ ?_ ⟨rfl, b, u⟩) ?_)
  · rintro k c t' k1 k2 ⟨rfl, b', u'⟩
    refine wpS_bind (wpS_mono (wpS_forRange (fun x c t2 => t2 = t' ∧ ∃ l r, c = (none, l, r) ∧ l ≤ r ∧ r ≤ k ∧ r - l ≤ k - x ∧
        (∀ i, i < l → kv κ (arrOf t') i ≤ kv κ (arrOf t') k) ∧ ∀ i, r ≤ i → i < k → kv κ (arrOf t') k ≤ kv κ (arrOf t') i)
      (Q := fun c t2 => t2 = t' ∧ ∃ l r, c = (none, l, r) ∧ l ≤ k ∧ (∀ i, i < l → kv κ (arrOf t') i ≤ kv κ (arrOf t') k) ∧ ∀ i, l ≤ i → i < k → kv κ (arrOf t') k ≤ kv κ (arrOf t') i) ?_ ?_
        ⟨rfl, 0, k, rfl, Nat.zero_le _, Nat.le_refl _, Nat.le_refl _, fun i q => absurd q (Nat.not_lt_zero _), fun i q q' => absurd q' (Nat.not_lt.mpr q)⟩) ?_)
    · rintro x c t2 _ x2 ⟨rfl, l, r, rfl, lr, rk, m, lo, hi⟩
      dsimp only
      by_cases g : l ≥ r
      · rw [if_pos g]
        have : l = r := by omega
        subst this
        exact wpS_pure ⟨rfl, l, l, rfl, rk, lo, hi⟩
      rw [if_neg g]
      refine wpS_bind (lt_at L b' (by omega) (by omega) ?_)
      by_cases q : kv κ (arrOf t2) k < kv κ (arrOf t2) ((l + r) / 2)
      · simp only [decide_eq_true q, if_true]
        exact wpS_pure ⟨rfl, l, (l + r) / 2, rfl, by omega, by omega, by omega, lo, fun i a c => Int.le_trans (Int.le_of_lt q) (u' _ _ a c)⟩
      · simp only [decide_eq_false q, Bool.false_eq_true, if_false]
        exact wpS_pure ⟨rfl, (l + r) / 2 + 1, r, rfl, by omega, by omega, by omega, fun i a => Int.le_trans (u' i ((l + r) / 2) (by omega) (by omega)) (by omega), hi⟩
    · rintro c t2 ⟨rfl, l, r, rfl, lr, rk, m, lo, hi⟩
      have : l = r := by omega
      subst this
      exact ⟨rfl, l, l, rfl, rk, lo, hi⟩
    · rintro c t2 ⟨rfl, l, r, rfl, lk, lo, hi⟩
      show wpS (model prog w) A E s (moveDown' k l >>= fun _ => pure (ForInStep.yield (none, ()))) _ t2
      rw [moveDown'_eq]
      refine wpS_bind (wpS_modify (wpS_pure ⟨rfl, b'.put (bubble_perm _ _ _), ?_⟩))
      have g : k < (arrOf t2).size := by rw [b'.sz]; omega
      intro i j a c
      show kv κ (bubble (arrOf t2) k (k - l)) i ≤ kv κ (bubble (arrOf t2) k (k - l)) j
      rw [kv_bub g (by omega), kv_bub g (by omega), Nat.sub_sub_self lk]
      by_cases e1 : i = l
      · rw [if_pos e1]
        by_cases e2 : j = l
        · rw [if_pos e2]; exact Int.le_refl _
        · rw [if_neg e2, if_pos (by omega)]; exact hi _ (by omega) (by omega)
      · rw [if_neg e1]
        by_cases e3 : l < i ∧ i ≤ k
        · rw [if_pos e3, if_neg (by omega), if_pos (by omega)]; exact u' _ _ (by omega) (by omega)
        · rw [if_neg e3]
          by_cases e2 : j = l
          · rw [if_pos e2]; exact lo _ (by omega)
          · rw [if_neg e2]
            by_cases e4 : l < j ∧ j ≤ k
            · rw [if_pos e4]; exact u' _ _ (by omega) (by omega)
            · rw [if_neg e4]; exact u' _ _ a (by omega)
  · rintro c t' ⟨e, b', u'⟩
    rw [Nat.max_eq_right hk] at u'
    exact ⟨e, b', u'⟩
  · rintro c t' ⟨rfl, b', u'⟩
    exact wpS_pure (h t' b' u')
theorem runs {Q : Unit → SortSt → Prop} (L : Lts prog w A s kd κ z) (D : Apart κ z) (b : SB kd z t) (h2 : 2 ≤ z.size) (h64 : z.size < 64)
    (h : ∀ t', (arrOf t').Perm z → failedOf t' = none → Up κ (arrOf t') z.size → Q () t') : wpS (model prog w) A E s sortRuns' Q t := by
  rw [sortRuns'_eq]
  refine wpS_bind (wpS_get ?_)
  dsimp only
  have mr : minRun' z.size z.size 0 = z.size := by
    obtain ⟨f, e⟩ : ∃ f, z.size = f + 1 := ⟨z.size - 1, by omega⟩
    rw [e, minRun'_succ, if_pos (by omega), Nat.add_zero]
  simp only [b.sz, mr]
  refine wpS_bind (wpS_mono (wpS_forRange
    (fun x c t' => (x = 0 ∧ c = (none, 0) ∧ SB kd z t') ∨ (1 ≤ x ∧ c = (none, z.size) ∧ (arrOf t').Perm z ∧ failedOf t' = none ∧ pendingOf t' = #[(0, z.size, 0)] ∧ Up κ (arrOf t') z.size))
    (Q := fun c t' => c = (none, z.size) ∧ (arrOf t').Perm z ∧ failedOf t' = none ∧ pendingOf t' = #[(0, z.size, 0)] ∧ Up κ (arrOf t') z.size) ?_ ?_ (.inl ⟨rfl, rfl, b⟩)) ?_)
  · rintro x c t' _ x2 (⟨rfl, rfl, b'⟩ | ⟨x1, rfl, d⟩)
    · dsimp only
      rw [if_neg (by omega)]
      simp only [Nat.sub_zero, Nat.min_self, Nat.zero_add]
      refine wpS_bind (count L D (Nat.le_refl _) (by omega) b' fun m t2 b2 m1 m2 u2 => ?_)
      dsimp only
      by_cases g : m < z.size
      · rw [if_pos g]
        refine wpS_bind (wpS_lift (wpAny_rule ⟨rfl, ?_⟩))
        refine wpS_bind (binary L (Nat.le_refl _) m2 m1 b2 u2 fun t3 b3 u3 => ?_)
        simp only [Bool.not_true, Bool.false_eq_true, if_false]
        refine wpS_bind (wpS_get ?_)
        rw [show (pendingOf t3).back? = none by rw [b3.pn]; rfl]
        exact wpS_bind (wpS_modify (wpS_pure (.inr ⟨by omega, rfl, b3.pm, b3.fl, by show (pendingOf t3).push _ = _; rw [b3.pn]; rfl, u3⟩)))
      · rw [if_neg g]
        have : m = z.size := by omega
        subst this
        refine wpS_bind (wpS_get ?_)
        rw [show (pendingOf t2).back? = none by rw [b2.pn]; rfl]
        exact wpS_bind (wpS_modify (wpS_pure (.inr ⟨by omega, rfl, b2.pm, b2.fl, by show (pendingOf t2).push _ = _; rw [b2.pn]; rfl, u2⟩)))
    · dsimp only
      rw [if_pos (Nat.le_refl _)]
      exact wpS_pure ⟨rfl, d⟩
  · rintro c t' (⟨x, _, _⟩ | ⟨_, e, d⟩)
    · omega
    · exact ⟨e, d⟩
  · rintro c t' ⟨rfl, p1, p2, p3, p4⟩
    dsimp only
    refine wpS_bind (wpS_mono (wpS_forRange (fun _ c t2 => t2 = t' ∧ c = (none, ())) (Q := fun c t2 => t2 = t' ∧ c = (none, ())) ?_ (fun _ _ q => q) ⟨rfl, rfl⟩) ?_)
    · rintro x c t2 _ _ ⟨rfl, rfl⟩
      refine wpS_bind (wpS_get ?_)
      rw [if_pos (by rw [p3]; exact Nat.le_refl 1)]
      exact wpS_pure ⟨rfl, rfl⟩
    · rintro c t2 ⟨rfl, rfl⟩
      exact wpS_pure (h _ p1 p2 p4)
end
section
variable {prog : Program} {w : World} {A : Around} {E : Value → Shared → Prop} {s : Shared}
structure Cmp (prog : Program) (w : World) (h : Heap) (os : OsState) (kd : SortKind) (κ : Value → Int) (vs : List Value) : Prop where
  kind : ∀ (A : Around) (E : Value → Shared → Prop) (s : Shared) (Q : SortKind → Shared → Prop), s.heap = h → Q kd s → wpAny (model prog w) A (keyKind' vs.toArray) Q E s
  lt : ∀ (A : Around) (E : Value → Shared → Prop) (s : Shared) (p q : Value) (Q : Bool → Shared → Prop), s.heap = h → p ∈ vs → q ∈ vs → Q (decide (κ p < κ q)) s → wpAny (model prog w) A (keyLt' kd p q) Q E s
theorem pairs_mem {vs : List Value} {p : Keyed} (h : p ∈ (vs.toArray.zip vs.toArray).toList) : p.1 ∈ vs ∧ p.2 = p.1 := by
  rw [Array.toList_zip] at h
  simp at h
  rw [List.zip_eq_zipWith, List.zipWith_self] at h
  obtain ⟨a, ha, e⟩ := List.mem_map.mp h
  subst e
  exact ⟨ha, rfl⟩
theorem pairs_fst (vs : List Value) : (vs.toArray.zip vs.toArray).toList.map (·.1) = vs := by
  rw [Array.toList_zip]
  exact List.map_fst_zip (Nat.le_refl _)
theorem sort_by {a : Addr} {vs : List Value} {n : Nat} {kd : SortKind} {κ : Value → Int} {P : Fin → Shared → Prop} (ho : s.heap.get? a = some (seqObj "list" vs.toArray n)) (h64 : vs.length < 64) (hd : (vs.map κ).Nodup)
    (hC : 2 ≤ vs.length → Cmp prog w (((s.heap.update a (Obj.mapSeq fun _ => #[])).push (seqObj "tuple" vs.toArray 0)).push (seqObj "list" #[] 0)) s.os kd κ vs)
    (h : ∀ out : List Value, out.Perm vs → out.Pairwise (fun x y => κ x < κ y) → P (.done (.ret .none)) { s with heap := sortedHeap s.heap a vs out.toArray }) :
    wpAny (model prog w) A (Builtin.«list.sort» ⟨[.ref a], []⟩) P E s := by
  rw [list_sort_plain]
  have la : a < s.heap.objs.size := Heap.lt_size ho
  refine wpAny_bind (listItems_at ho rfl (wpAny_bind (listUpdate_at ho rfl ?_ (hsz := by rw [List.size_toArray, sizeLine_eq]; omega))))
  obtain ⟨e1, ho1⟩ : ∃ e, (s.heap.update a (Obj.mapSeq fun _ => #[])).get? a = some (seqObj "list" #[] e) := ⟨_, get?_update_seq ho fun _ => #[]⟩
  refine wpAny_bind (seqEpoch_at ho1 rfl (wpAny_bind (wpAny_newTuple (wpAny_bind (wpAny_newList (wpAny_holding ?_))) (by show vs.length ≤ _; rw [sizeLine_eq]; omega))))
  have ho3 : (((s.heap.update a (Obj.mapSeq fun _ => #[])).push (seqObj "tuple" vs.toArray 0)).push (seqObj "list" #[] 0)).get? a = some (seqObj "list" #[] e1) :=
    Heap.get?_push_of_some _ (Heap.get?_push_of_some _ ho1)
  show wpAny (model prog w) A _ P E { s with heap := ((s.heap.update a (Obj.mapSeq fun _ => #[])).push (seqObj "tuple" vs.toArray 0)).push (seqObj "list" #[] 0) }
  dsimp only
  have fin : ∀ t : SortSt, (arrOf t).Perm (vs.toArray.zip vs.toArray) → failedOf t = none → Up (fun p => κ p.1) (arrOf t) (vs.toArray.zip vs.toArray).size →
      (((arrOf t).map (·.2)).toList.Perm vs ∧ ((arrOf t).map (·.2)).toList.Pairwise fun x y => κ x < κ y) := fun t pm _ u => by
    have pl := Array.perm_iff_toList_perm.mp pm
    have e2 : ((arrOf t).map (·.2)).toList = (arrOf t).toList.map (·.1) := by
      rw [Array.toList_map]
      exact List.map_congr_left fun p hp => (pairs_mem (pl.mem_iff.mp hp)).2
    have p1 : ((arrOf t).map (·.2)).toList.Perm vs := by
      rw [e2]
      have := pl.map (·.1)
      rwa [pairs_fst] at this
    refine ⟨p1, ?_⟩
    have nd : (((arrOf t).map (·.2)).toList.map κ).Nodup := (p1.map κ).nodup_iff.mpr hd
    rw [e2] at nd ⊢
    have sz : (arrOf t).size = (vs.toArray.zip vs.toArray).size := pm.size_eq
    refine List.pairwise_iff_getElem.mpr fun i j hi hj hij => ?_
    have hi' : i < (arrOf t).size := by simpa using hi
    have hj' : j < (arrOf t).size := by simpa using hj
    have l := u i j (Nat.le_of_lt hij) (by omega)
    rw [kv_at hi', kv_at hj'] at l
    have d := List.pairwise_iff_getElem.mp nd i j (by simpa using hi) (by simpa using hj) hij
    simp at d l ⊢
    omega
  by_cases c2 : vs.toArray.size < 2
  · rw [if_pos c2, if_pos c2]
    refine wpAny_bind (wpAny_pure ?_)
    rw [StateT.run_pure]
    refine wpAny_bind (wpAny_pure ?_)
    dsimp only
    refine wpAny_bind (seqEpoch_at ho3 rfl ?_)
    obtain ⟨f1, f2⟩ := fin (SortSt.mk' general' (vs.toArray.zip vs.toArray) #[] 7 none) (Array.Perm.refl _) rfl fun i j hij hj => by
      have : i = j := by simp at hj c2; omega
      subst this; exact Int.le_refl _
    have sz2 : ((vs.toArray.zip vs.toArray).map (·.2)).size ≤ sizeLine + 1 := by simp; rw [sizeLine_eq]; omega
    refine wpAny_bind (listUpdate_at ho3 rfl ?_ (hsz := by rw [sizeLine_eq]; decide) (hsz2 := sz2))
    simp only [bne_self_eq_false, Bool.false_eq_true, if_false]
    exact wpAny_pure (h _ f1 f2)
  · rw [if_neg c2, if_neg c2]
    have C := hC (by simp at c2; omega)
    refine wpAny_bind (C.kind _ _ _ _ rfl ?_)
    have zs : (vs.toArray.zip vs.toArray).size = vs.length := by simp
    have L : Lts prog w A { s with heap := ((s.heap.update a (Obj.mapSeq fun _ => #[])).push (seqObj "tuple" vs.toArray 0)).push (seqObj "list" #[] 0) } kd (fun p => κ p.1) (vs.toArray.zip vs.toArray) :=
      fun E p q Q hp hq k => C.lt _ _ _ _ _ _ rfl (pairs_mem hp).1 (pairs_mem hq).1 k
    have D : Apart (fun p => κ p.1) (vs.toArray.zip vs.toArray) := by
      unfold Apart
      rw [show (vs.toArray.zip vs.toArray).toList.map (fun p => κ p.1) = ((vs.toArray.zip vs.toArray).toList.map (·.1)).map κ by rw [List.map_map]; rfl, pairs_fst]
      exact hd
    refine wpAny_bind (wpAny_mono (runs (z := vs.toArray.zip vs.toArray) (t := SortSt.mk' kd (vs.toArray.zip vs.toArray) #[] 7 none) (Q := fun _ t' => (arrOf t').Perm (vs.toArray.zip vs.toArray) ∧ failedOf t' = none ∧ Up (fun p => κ p.1) (arrOf t') (vs.toArray.zip vs.toArray).size)
      L D ⟨Array.Perm.refl _, rfl, rfl, rfl⟩ (by rw [zs]; simp at c2; omega) (by omega) fun t' a1 a2 a3 => ⟨a1, a2, a3⟩) ?_ fun _ _ e => e)
    rintro ⟨⟨⟩, t'⟩ s' ⟨rfl, a1, a2, a3⟩
    dsimp only
    refine wpAny_bind (seqEpoch_at ho3 rfl ?_)
    obtain ⟨f1, f2⟩ := fin t' a1 a2 a3
    have sz2 : ((arrOf t').map (·.2)).size ≤ sizeLine + 1 := by
      have := f1.length_eq
      rw [Array.length_toList] at this
      rw [this, sizeLine_eq]; omega
    refine wpAny_bind (listUpdate_at ho3 rfl ?_ (hsz := by rw [sizeLine_eq]; decide) (hsz2 := sz2))
    rw [a2]
    simp only [bne_self_eq_false, Bool.false_eq_true, if_false]
    exact wpAny_pure (h _ f1 f2)
theorem sorted_by {l : Addr} {vs : List Value} {kd : SortKind} {κ : Value → Int} {Q : Value → Shared → Prop} (hl : s.heap.IsList l vs.toArray) (h64 : vs.length < 64) (hd : (vs.map κ).Nodup)
    (hC : 2 ≤ vs.length → ∀ h', (∀ b o, s.heap.get? b = some o → h'.get? b = some o) → Cmp prog w h' s.os kd κ vs)
    (h : ∀ (out : List Value) (h' : Heap) (c : Nat), out.Perm vs → out.Pairwise (fun x y => κ x < κ y) → (∀ b o, s.heap.get? b = some o → h'.get? b = some o) →
      h'.get? (s.heap.objs.size + 1) = some (seqObj "list" out.toArray c) → Q (.ref (s.heap.objs.size + 1)) { s with heap := h' }) :
    wpAny (model prog w) A (call (.builtin "sorted") [.ref l]) Q E s := by
  refine Calls.call_function_entry kind_sorted plain_sorted entry_sorted (args_sorted1 _) ?_
  unfold Builtin.«sorted»
  refine wpAny_bind (m := checkCount "sorted" 1 1 _) (wpAny_pure (wpAny_bind (collect_list hl (wpAny_bind (wpAny_newList ?_ (by rw [sizeLine_eq]; omega))) (by rw [sizeLine_eq]; omega))))
  have z : ((s.heap.push (seqObj "list" #[] 0)).update s.heap.objs.size (Obj.mapSeq (· ++ vs.toArray))).objs.size = s.heap.objs.size + 1 := (Heap.size_update ..).trans (size_push' _ _)
  have kp : ∀ b o, s.heap.get? b = some o → (((s.heap.push (seqObj "list" #[] 0)).update s.heap.objs.size (Obj.mapSeq (· ++ vs.toArray))).push (seqObj "list" vs.toArray 0)).get? b = some o := fun b o e => by
    have lt : b < s.heap.objs.size := Heap.lt_size e
    refine Heap.get?_push_of_some _ ?_
    rw [Heap.get?_update_ne _ _ _ _ (Nat.ne_of_lt lt)]
    exact Heap.get?_push_of_some _ e
  have at1 : (((s.heap.push (seqObj "list" #[] 0)).update s.heap.objs.size (Obj.mapSeq (· ++ vs.toArray))).push (seqObj "list" vs.toArray 0)).get? (s.heap.objs.size + 1) = some (seqObj "list" vs.toArray 0) := by
    rw [← z]; exact Heap.get?_push_size _ rfl
  show wpAny (model prog w) _ _ _ _ { s with heap := ((s.heap.push (seqObj "list" #[] 0)).update s.heap.objs.size (Obj.mapSeq (· ++ vs.toArray))).push (seqObj "list" vs.toArray 0) }
  rw [z]
  generalize hh : ((s.heap.push (seqObj "list" #[] 0)).update s.heap.objs.size (Obj.mapSeq (· ++ vs.toArray))).push (seqObj "list" vs.toArray 0) = h1 at at1 kp ⊢
  have kp2 : ∀ b o, s.heap.get? b = some o → (((h1.update (s.heap.objs.size + 1) (Obj.mapSeq fun _ => #[])).push (seqObj "tuple" vs.toArray 0)).push (seqObj "list" #[] 0)).get? b = some o := fun b o e => by
    have lt : b < s.heap.objs.size := Heap.lt_size e
    refine Heap.get?_push_of_some _ (Heap.get?_push_of_some _ ?_)
    rw [Heap.get?_update_ne _ _ _ _ (Nat.ne_of_lt (Nat.lt_succ_of_lt lt))]
    exact kp b o e
  refine wpAny_bind (wpAny_holding (wpAny_call_entry slot_list_sort ⟨_, at1, rfl⟩ entry_list_sort (sort_by (s := { s with heap := h1 }) at1 h64 hd (fun c => hC c _ kp2) fun out p1 p2 => ⟨_, rfl, ?_⟩) (args_list_sort _)))
  have at2 : (((h1.update (s.heap.objs.size + 1) (Obj.mapSeq fun _ => #[])).push (seqObj "tuple" vs.toArray 0)).push (seqObj "list" #[] 0)).get? (s.heap.objs.size + 1) = some (seqObj "list" #[] _) :=
    Heap.get?_push_of_some _ (Heap.get?_push_of_some _ (get?_update_seq at1 fun _ => #[]))
  refine wpAny_pure ⟨_, rfl, h out _ _ p1 p2 (fun b o e => ?_) (get?_update_seq at2 fun _ => out.toArray)⟩
  have lt : b < s.heap.objs.size := Heap.lt_size e
  show (Heap.update _ _ _).get? b = _
  rw [Heap.get?_update_ne _ _ _ _ (Nat.ne_of_lt (Nat.lt_succ_of_lt lt))]
  exact kp2 b o e
end
end Srt
end L2
set_option Elab.async false
set_option linter.all false
set_option maxRecDepth 100000
namespace L2
namespace Srt
open PySem PyProof.Rows
def Two (h : Heap) (p : Addr) (x y : Int) : Prop := ∃ (o : Obj) (t u : Tok) (n : Nat), h.get? p = some o ∧ o.cls = .type "tuple" ∧ o.data = .seq #[.int x t, .int y u] n
section
variable {prog : Program} {w : World} {A : Around} {E : Value → Shared → Prop} {s : Shared}
theorem Two.ty {h : Heap} {p : Addr} {x y : Int} (t : Two h p x y) {s : Shared} (e : s.heap = h) : s.TypeIs (.ref p) "tuple" := by
  obtain ⟨o, _, _, _, ho, hc, _⟩ := t
  subst e
  exact ⟨o, ho, hc⟩
theorem cmp_lt {p q : Addr} {x y x' y' : Int} {Q : Value → Shared → Prop} (hu : A.units < cLine) (hp : Two s.heap p x y) (hq : Two s.heap q x' y') (h : Q (.bool (decide (x < x' ∨ (x = x' ∧ y < y')))) s) :
    wpAny (model prog w) A (richCompare .Lt (.ref p) (.ref q)) Q E s := by
  have t1 := hp.ty rfl
  have t2 := hq.ty rfl
  obtain ⟨o, t, u, n, ho, hc, hd⟩ := hp
  obtain ⟨o', t', u', n', ho', hc', hd'⟩ := hq
  refine wpAny_richCompare_same_room (op := .Lt) t1 t2 F.slot_tuple_lt (wpAny_call_entry F.slot_tuple_lt t1 F.entry_tuple_lt ?_ (F.args_tuple_lt_2 _ _)) hu
  show wpAny _ _ (isInstance (.ref q) (.type "tuple") >>= _) _ _ s
  refine wpAny_bind (wpAny_isInstance t2 AutoSeq1.sub_tuple_tuple ?_)
  simp only [Bool.not_true, Bool.false_eq_true, if_false]
  refine wpAny_bind (wpAny_tupleItemsOf ho hd (wpAny_bind (wpAny_tupleItemsOf ho' hd' ?_)))
  show wpAny _ _ (forIn [(Value.int x t, Value.int x' t'), (Value.int y u, Value.int y' u')] (none, ()) _ >>= _) _ _ s
  rw [List.forIn_cons]
  refine wpAny_bind (wpAny_bind (wpAny_bind (wpAny_eqBool_int ?_)))
  by_cases e : x = x'
  · subst e
    simp only [beq_self_eq_true, Bool.not_true, Bool.false_eq_true, if_false]
    refine wpAny_pure ?_
    simp only [List.forIn_cons]
    refine wpAny_bind (wpAny_bind (wpAny_eqBool_int ?_))
    by_cases e2 : y = y'
    · subst e2
      simp only [beq_self_eq_true, Bool.not_true, Bool.false_eq_true, if_false]
      refine wpAny_pure ?_
      simp only [List.forIn_nil]
      refine wpAny_pure (wpAny_pure ⟨_, rfl, (fun z => nomatch z), ?_⟩)
      rw [decide_eq_false (by omega)] at h
      exact h
    · simp only [beq_eq_false_iff_ne.mpr e2, Bool.not_false, if_true]
      refine wpAny_bind (wpAny_rule (wpAny_bind (lt_int (wpAny_bind (wpAny_pure (wpAny_pure (wpAny_pure (wpAny_pure ⟨_, rfl, (fun z => nomatch z), ?_⟩))))))))
      rw [show decide (y < y') = decide (x < x ∨ (x = x ∧ y < y')) by by_cases c : y < y' <;> simp [c] <;> omega]
      exact h
  · simp only [beq_eq_false_iff_ne.mpr e, Bool.not_false, if_true]
    refine wpAny_bind (wpAny_rule (wpAny_bind (lt_int (wpAny_bind (wpAny_pure (wpAny_pure (wpAny_pure (wpAny_pure ⟨_, rfl, (fun z => nomatch z), ?_⟩))))))))
    rw [show decide (x < x') = decide (x < x' ∨ (x = x' ∧ y < y')) by by_cases c : x < x' <;> simp [c] <;> omega]
    exact h
theorem cmp_gt {p q : Addr} {x y x' y' : Int} {Q : Value → Shared → Prop} (hu : A.units < cLine) (hp : Two s.heap p x y) (hq : Two s.heap q x' y') (h : Q (.bool (decide (x > x' ∨ (x = x' ∧ y > y')))) s) :
    wpAny (model prog w) A (richCompare .Gt (.ref p) (.ref q)) Q E s := by
  have t1 := hp.ty rfl
  have t2 := hq.ty rfl
  obtain ⟨o, t, u, n, ho, hc, hd⟩ := hp
  obtain ⟨o', t', u', n', ho', hc', hd'⟩ := hq
  refine wpAny_richCompare_same_room (op := .Gt) t1 t2 F.slot_tuple_gt (wpAny_call_entry F.slot_tuple_gt t1 F.entry_tuple_gt ?_ (F.args_tuple_gt_2 _ _)) hu
  show wpAny _ _ (isInstance (.ref q) (.type "tuple") >>= _) _ _ s
  refine wpAny_bind (wpAny_isInstance t2 AutoSeq1.sub_tuple_tuple ?_)
  simp only [Bool.not_true, Bool.false_eq_true, if_false]
  refine wpAny_bind (wpAny_tupleItemsOf ho hd (wpAny_bind (wpAny_tupleItemsOf ho' hd' ?_)))
  show wpAny _ _ (forIn [(Value.int x t, Value.int x' t'), (Value.int y u, Value.int y' u')] (none, ()) _ >>= _) _ _ s
  rw [List.forIn_cons]
  refine wpAny_bind (wpAny_bind (wpAny_bind (wpAny_eqBool_int ?_)))
  by_cases e : x = x'
  · subst e
    simp only [beq_self_eq_true, Bool.not_true, Bool.false_eq_true, if_false]
    refine wpAny_pure ?_
    simp only [List.forIn_cons]
    refine wpAny_bind (wpAny_bind (wpAny_eqBool_int ?_))
    by_cases e2 : y = y'
    · subst e2
      simp only [beq_self_eq_true, Bool.not_true, Bool.false_eq_true, if_false]
      refine wpAny_pure ?_
      simp only [List.forIn_nil]
      refine wpAny_pure (wpAny_pure ⟨_, rfl, (fun z => nomatch z), ?_⟩)
      rw [decide_eq_false (by omega)] at h
      exact h
    · simp only [beq_eq_false_iff_ne.mpr e2, Bool.not_false, if_true]
      refine wpAny_bind (wpAny_rule (wpAny_bind (gt_int (wpAny_bind (wpAny_pure (wpAny_pure (wpAny_pure (wpAny_pure ⟨_, rfl, (fun z => nomatch z), ?_⟩))))))))
      rw [show decide (y > y') = decide (x > x ∨ (x = x ∧ y > y')) by by_cases c : y > y' <;> simp [c] <;> omega]
      exact h
  · simp only [beq_eq_false_iff_ne.mpr e, Bool.not_false, if_true]
    refine wpAny_bind (wpAny_rule (wpAny_bind (gt_int (wpAny_bind (wpAny_pure (wpAny_pure (wpAny_pure (wpAny_pure ⟨_, rfl, (fun z => nomatch z), ?_⟩))))))))
    rw [show decide (x > x') = decide (x > x' ∨ (x = x' ∧ y > y')) by by_cases c : x > x' <;> simp [c] <;> omega]
    exact h
theorem firsts_two : ∀ (vs : List Value), (∀ v ∈ vs, ∃ p x y, v = .ref p ∧ Two s.heap p x y) → ∀ {Q : List (Option Value) → Shared → Prop}, (∀ fs ns, IntsAre fs ns → fs.length = vs.length → Q (fs.map some) s) →
    wpAny (model prog w) A (vs.mapM firstOfTuple') Q E s
  | [], _, Q, h => by rw [List.mapM_nil]; exact wpAny_pure (h [] [] .nil rfl)
  | v :: vs, hv, Q, h => by
    obtain ⟨p, x, y, rfl, hp⟩ := hv v (List.mem_cons_self ..)
    have t1 := hp.ty rfl
    obtain ⟨o, t, u, n, ho, hc, hd⟩ := hp
    rw [List.mapM_cons]
    refine wpAny_bind ?_
    show wpAny _ _ (typeOf (.ref p) >>= _) _ _ s
    refine wpAny_bind (wpAny_typeOf t1 ?_)
    rw [if_neg (by decide)]
    refine wpAny_bind (listItems_at ho hd (wpAny_pure ?_))
    show wpAny _ _ (vs.mapM firstOfTuple' >>= fun bs => pure (some (Value.int x t) :: bs)) Q E s
    exact wpAny_bind (firsts_two vs (fun v hv' => hv v (List.mem_cons_of_mem _ hv')) fun fs ns hI hl => wpAny_pure (h (.int x t :: fs) (x :: ns) (.cons x t hI) (by simp [hl])))
theorem kind_two {vs : List Value} (hv : ∀ v ∈ vs, ∃ p x y, v = .ref p ∧ Two s.heap p x y) (h2 : 2 ≤ vs.length) {Q : SortKind → Shared → Prop} (h : Q (tuples' true) s) : wpAny (model prog w) A (keyKind' vs.toArray) Q E s := by
  rw [keyKind'_eq, List.mapM_toArray, map_eq_pure_bind]
  refine wpAny_bind (wpAny_bind (firsts_two vs hv fun fs ns hI hl => wpAny_pure ?_))
  rw [if_pos (by simp)]
  refine wpAny_bind (wpAny_rule ?_)
  have e : (fs.map some).toArray.filterMap id = fs.toArray := by simp
  rw [e, oneTypeOnly'_eq, List.mapM_toArray, mapM_typeOf_ints hI]
  simp only [map_pure, pure_bind]
  have all : ((fs.map fun _ => Value.type "int").toArray.all fun x => x == Value.type "int") = true := by
    simp only [List.all_toArray, List.all_map, List.all_eq_true]
    exact fun _ _ => rfl
  have at0 : (fs.map fun _ => Value.type "int").toArray[0]? = some (Value.type "int") := by
    have : 0 < fs.length := by omega
    simp [this]
  rw [at0]
  simp only [all, if_true, pure_bind]
  exact wpAny_pure h
theorem lt_two {p q : Addr} {x y x' y' : Int} {Q : Bool → Shared → Prop} (hp : Two s.heap p x y) (hq : Two s.heap q x' y') (h : Q (decide (x < x' ∨ (x = x' ∧ y < y'))) s) :
    wpAny (model prog w) A (keyLt' (tuples' true) (.ref p) (.ref q)) Q E s := by
  obtain ⟨o, t, u, n, ho, hc, hd⟩ := hp
  obtain ⟨o', t', u', n', ho', hc', hd'⟩ := hq
  show wpAny _ _ (Builtin.List.listItems (.ref p) >>= fun xs => Builtin.List.listItems (.ref q) >>= fun ys => _) _ _ s
  refine wpAny_bind (listItems_at ho hd (wpAny_bind (listItems_at ho' hd' ?_)))
  show wpAny _ _ (forIn [((Value.int x t, Value.int x' t'), 0), ((Value.int y u, Value.int y' u'), 1)] (none, ()) _ >>= _) _ _ s
  rw [List.forIn_cons]
  refine wpAny_bind (wpAny_bind (wpAny_bind (wpAny_eqBool_int ?_)))
  by_cases e : x = x'
  · subst e
    simp only [beq_self_eq_true, Bool.not_true, Bool.false_eq_true, if_false]
    refine wpAny_pure ?_
    simp only [List.forIn_cons]
    refine wpAny_bind (wpAny_bind (wpAny_eqBool_int ?_))
    by_cases e2 : y = y'
    · subst e2
      simp only [beq_self_eq_true, Bool.not_true, Bool.false_eq_true, if_false]
      refine wpAny_pure ?_
      simp only [List.forIn_nil]
      refine wpAny_pure (wpAny_pure ?_)
      rw [decide_eq_false (by omega)] at h
      exact h
    · simp only [beq_eq_false_iff_ne.mpr e2, Bool.not_false, if_true]
      refine wpAny_bind ?_
      show wpAny _ _ (oneLt' false (.int y u) (.int y' u')) _ _ s
      rw [oneLt'_eq]
      simp only [Bool.false_eq_true, if_false]
      refine wpAny_bind (lt_int (wpAny_truthy_bool (wpAny_pure (wpAny_pure (wpAny_pure ?_)))))
      rw [show decide (y < y') = decide (x < x ∨ (x = x ∧ y < y')) by by_cases c : y < y' <;> simp [c] <;> omega]
      exact h
  · simp only [beq_eq_false_iff_ne.mpr e, Bool.not_false, if_true]
    refine wpAny_bind ?_
    show wpAny _ _ (oneLt' true (.int x t) (.int x' t')) _ _ s
    refine oneLt_int (wpAny_pure (wpAny_pure (wpAny_pure ?_)))
    rw [show decide (x < x') = decide (x < x' ∨ (x = x' ∧ y < y')) by by_cases c : x < x' <;> simp [c] <;> omega]
    exact h
theorem cmp_two {h : Heap} {os : OsState} {vs : List Value} {κ : Value → Int} (h2 : 2 ≤ vs.length) (hv : ∀ v ∈ vs, ∃ p x y, v = .ref p ∧ Two h p x y ∧ κ v = x * 64 + y ∧ 0 ≤ y ∧ y < 64) : Cmp prog w h os (tuples' true) κ vs where
  kind A E s Q e q := by
    subst e
    exact kind_two (fun v m => let ⟨p, x, y, a, b, _⟩ := hv v m; ⟨p, x, y, a, b⟩) h2 q
  lt A E s u v Q e mu mv q := by
    subst e
    obtain ⟨p, x, y, rfl, b, k, l0, l1⟩ := hv u mu
    obtain ⟨p', x', y', rfl, b', k', l0', l1'⟩ := hv v mv
    refine lt_two b b' ?_
    rw [k, k'] at q
    rw [show decide (x < x' ∨ (x = x' ∧ y < y')) = decide (x * 64 + y < x' * 64 + y') by
      by_cases c : x * 64 + y < x' * 64 + y'
      · rw [decide_eq_true c, decide_eq_true (by omega)]
      · rw [decide_eq_false c, decide_eq_false (by omega)]]
    exact q
end
end Srt
end L2
set_option Elab.async false
set_option linter.all false
set_option maxRecDepth 100000
namespace L2
namespace Srt
open PySem PyProof.Rows
section
variable {prog : Program} {w : World} {A : Around} {E : Value → Shared → Prop} {R : Result → Shared → Prop} {s : Shared} {I S ax : Addr} {items : Array Value} {h₀ : Heap} {κ : Value → Int}
def Prs (h : Heap) (κ : Value → Int) (lo : Int) (v : Value) : Prop := ∃ p x y, v = .ref p ∧ Two h p x y ∧ κ v = x * 64 + y ∧ lo ≤ y ∧ y < lo + 64
theorem Two.keep {h h' : Heap} {p : Addr} {x y : Int} (t : Two h p x y) (k : ∀ b o, h.get? b = some o → h'.get? b = some o) : Two h' p x y := by
  obtain ⟨o, t, u, n, ho, r⟩ := t
  exact ⟨o, t, u, n, k _ _ ho, r⟩
theorem Prs.keep {h h' : Heap} {lo : Int} {v : Value} (t : Prs h κ lo v) (k : ∀ b o, h.get? b = some o → h'.get? b = some o) : Prs h' κ lo v := by
  obtain ⟨p, x, y, e, t, r⟩ := t
  exact ⟨p, x, y, e, t.keep k, r⟩
theorem pr_min {lo : Int} {u v : Value} {Q : Value → Shared → Prop} (hu : A.units < cLine) (a : Prs s.heap κ lo u) (b : Prs s.heap κ lo v) (q : Q (.bool (decide (κ u < κ v))) s) : wpAny (model prog w) A (richCompare .Lt u v) Q E s := by
  obtain ⟨p, x, y, rfl, t, k, l0, l1⟩ := a
  obtain ⟨p', x', y', rfl, t', k', l0', l1'⟩ := b
  refine cmp_lt hu t t' ?_
  rw [k, k'] at q
  rw [show decide (x < x' ∨ (x = x' ∧ y < y')) = decide (x * 64 + y < x' * 64 + y') by
    by_cases c : x * 64 + y < x' * 64 + y'
    · rw [decide_eq_true c, decide_eq_true (by omega)]
    · rw [decide_eq_false c, decide_eq_false (by omega)]]
  exact q
theorem loop_min {lo : Int} (hh : A.in1.handled = none) (hu : A.in1.units < cLine) (nI : ax ≠ I) (nS : S ≠ I) (nX : S ≠ ax) (fI : h₀.get? I = none) (fS : h₀.get? S = none) (hv : ∀ v, v ∈ items → Prs h₀ κ lo v) :
    ∀ (k j : Nat) (s : Shared) (b : Value) (c : Nat), items.size - (j + 1) = k → j + 1 ≤ items.size → (s.heap.IsListIter I ax (j + 1) ∧ s.heap.IsList ax items) → b ∈ items → (∀ i v, i ≤ j → items[i]? = some v → κ b ≤ κ v) →
    s.heap.get? S = some { cls := .type "list", dict := none, data := .seq #[b, b] c, slots := #[] } → (∀ a o, h₀.get? a = some o → s.heap.get? a = some o) →
    (∀ v h' tk, v ∈ items → (∀ u, u ∈ items → κ v ≤ κ u) → (∀ a o, h₀.get? a = some o → h'.get? a = some o) → R (.ok (.ret v)) { s with heap := h', toks := tk }) →
    codeAny (model prog w) A (.builtin "min.loop" ⟨[.ref I, .none, .ref S], []⟩) R s := by
  have W := Walks.list (prog := prog) (w := w) hh I ax nI items
  have nm : (toString "min" ++ toString ".loop" : String) = "min.loop" := by decide
  have nw : S ∉ [I] := fun z => nS (List.mem_singleton.mp z)
  have old : ∀ {h h' : Heap}, (∀ a o, h₀.get? a = some o → h.get? a = some o) → (∀ a o, a ∉ [I] → h.get? a = some o → h'.get? a = some o) → ∀ a o, h₀.get? a = some o → h'.get? a = some o := fun k1 k2 a o e =>
    k2 a o (fun z => by rw [List.mem_singleton.mp z, fI] at e; cases e) (k1 a o e)
  have oldS : ∀ {h : Heap} (f : Obj → Obj), (∀ a o, h₀.get? a = some o → h.get? a = some o) → ∀ a o, h₀.get? a = some o → (h.update S f).get? a = some o := fun f k1 a o e =>
    (Heap.get?_update_other _ _ (fun z => by rw [← z, fS] at e; cases e)).trans (k1 a o e)
  intro k
  induction k with
  | zero =>
    intro j s b c hk hj st mb lb hS kp hR
    refine codeAny_builtin F.entry_min_loop ?_
    rw [Around.under_plainId F.plain_min_loop _]
    show wpAny _ A.in1 (seqItems? (.ref S) >>= _) _ _ s
    refine wpAny_bind (wpAny_seqItems hS rfl ?_)
    show wpAny _ A.in1 (tryCatch (pyNext (.ref I)) _ >>= _) _ _ s
    have e : j + 1 = items.size := by omega
    refine wpAny_bind (wpAny_tryCatch (W.done s _ _ (e ▸ st) fun h' tk k' => ?_))
    have hS' := k' S _ nw hS
    show wpAny _ A.in1 (updateSeq S (fun _ => #[]) >>= _) _ _ _
    refine wpAny_bind (wpAny_updateSeq hS' rfl (wpAny_bind (wpAny_letGo (wpAny_pure ?_))))
    refine hR b _ tk mb (fun u mu => ?_) (oldS _ (old kp k'))
    obtain ⟨i, hi, eu⟩ := Array.mem_iff_getElem.mp mu
    exact lb i u (by omega) (by rw [Array.getElem?_eq_getElem hi, eu])
  | succ k ih =>
    intro j s b c hk hj st mb lb hS kp hR
    refine codeAny_builtin F.entry_min_loop ?_
    rw [Around.under_plainId F.plain_min_loop _]
    show wpAny _ A.in1 (seqItems? (.ref S) >>= _) _ _ s
    refine wpAny_bind (wpAny_seqItems hS rfl ?_)
    show wpAny _ A.in1 (tryCatch (pyNext (.ref I)) _ >>= _) _ _ s
    refine wpAny_bind (wpAny_tryCatch (W.item (j + 1) s _ _ (by omega) st fun v h' tk hP st' k' => ?_))
    have hS' := k' S _ nw hS
    have kp' := old kp k'
    have mv : v ∈ items := Array.mem_of_getElem? hP
    show wpAny _ A.in1 (tryCatch (holding [v, v] (richCompare .Lt v b >>= _)) _ >>= _) _ _ _
    refine wpAny_bind (wpAny_tryCatch (wpAny_holding (wpAny_bind (pr_min hu ((hv v mv).keep kp') ((hv b mb).keep kp') ?_))))
    refine wpAny_bind (wpAny_holding (wpAny_truthy_bool (wpAny_bind (wpAny_letGo (wpAny_pure ?_)))))
    by_cases l : κ v < κ b
    · simp only [decide_eq_true l, if_true]
      refine wpAny_bind (wpAny_updateSeq hS' rfl (wpAny_bind (wpAny_letGo ?_)))
      rw [nm]
      refine wpAny_pure ⟨plainId_quiet F.plain_min_loop _, ih (j + 1) _ v _ (by omega) (by omega) (W.frame _ _ _ st' fun a ha o e => ?_) mv (fun i u hi eu => ?_) (Heap.get?_update_self _ hS' rfl) (oldS _ kp') hR⟩
      · refine (Heap.get?_update_other _ _ (fun z => ?_)).trans e
        subst z
        rcases List.mem_cons.mp ha with z | z
        · exact nS z
        · exact nX (List.mem_singleton.mp z)
      · by_cases c : i ≤ j
        · have := lb i u c eu
          omega
        · have : i = j + 1 := by omega
          subst this
          rw [hP] at eu
          cases eu
          exact Int.le_refl _
    · simp only [decide_eq_false l, Bool.false_eq_true, if_false]
      refine wpAny_bind (wpAny_letGo ?_)
      rw [nm]
      refine wpAny_pure ⟨plainId_quiet F.plain_min_loop _, ih (j + 1) _ b c (by omega) (by omega) st' mb (fun i u hi eu => ?_) hS' kp' hR⟩
      by_cases c : i ≤ j
      · exact lb i u c eu
      · have : i = j + 1 := by omega
        subst this
        rw [hP] at eu
        cases eu
        omega
theorem call_min {lo : Int} {l : Addr} {vs : List Value} {Q : Value → Shared → Prop} (hh1 : A.in1.handled = none) (hu : A.in1.units < cLine) (hl : s.heap.IsList l vs.toArray) (hne : 0 < vs.length) (hv : ∀ v, v ∈ vs → Prs s.heap κ lo v)
    (h : ∀ v h' tk, v ∈ vs → (∀ u, u ∈ vs → κ v ≤ κ u) → (∀ a o, s.heap.get? a = some o → h'.get? a = some o) → Q v { s with heap := h', toks := tk }) : wpAny (model prog w) A (call (.builtin "min") [.ref l]) Q E s := by
  have nm : (toString "min" ++ toString ".loop" : String) = "min.loop" := by decide
  refine call_function_tree F.kind_min F.plain_min F.entry_min (F.args_min1 _) ?_
  show wpAny _ A.in1 (Builtin.Builtins.bindParams "min" ["key", "default"] 0 ⟨[], []⟩ >>= _) _ _ s
  refine wpAny_bind (wpAny_of_eq (show Builtin.Builtins.bindParams "min" ["key", "default"] 0 ⟨[], []⟩ = pure [none, none] from rfl) (wpAny_bind (wpAny_pure ?_)))
  refine wpAny_bind (wpAny_pyIter_list hl ?_)
  refine wpAny_bind (wpAny_newObj_type ?_)
  rw [nm]
  have lt : l < s.heap.objs.size := by obtain ⟨_, e, _⟩ := hl; exact Heap.lt_size e
  have lS : (s.heap.push { cls := .type "list_iterator", data := .fields #[.ref l, .int 0 0] }).objs.size = s.heap.objs.size + 1 := Heap.size_push ..
  have kp : ∀ a o, s.heap.get? a = some o → ((s.heap.push { cls := .type "list_iterator", data := .fields #[.ref l, .int 0 0] }).push { cls := .type "list", data := .seq #[] }).get? a = some o := fun a o e =>
    Heap.get?_push_of_some _ (Heap.get?_push_of_some _ e)
  have hI : ((s.heap.push { cls := .type "list_iterator", data := .fields #[.ref l, .int 0 0] }).push { cls := .type "list", data := .seq #[] }).IsListIter s.heap.objs.size l 0 :=
    ⟨_, Heap.get?_push_of_some _ (Heap.get?_push_size _ rfl), rfl, rfl⟩
  have hL : ((s.heap.push { cls := .type "list_iterator", data := .fields #[.ref l, .int 0 0] }).push { cls := .type "list", data := .seq #[] }).IsList l vs.toArray := (hl.push _).push _
  have hS : ((s.heap.push { cls := .type "list_iterator", data := .fields #[.ref l, .int 0 0] }).push { cls := .type "list", data := .seq #[] }).get? (s.heap.objs.size + 1) = some { cls := .type "list", dict := none, data := .seq #[] 0, slots := #[] } := by
    rw [← lS]; exact Heap.get?_push_size _ rfl
  refine wpAny_pure ⟨plainId_quiet F.plain_min_loop _, ?_⟩
  dsimp only
  rw [lS]
  generalize ((s.heap.push { cls := .type "list_iterator", data := .fields #[.ref l, .int 0 0] }).push { cls := .type "list", data := .seq #[] }) = h1 at kp hI hL hS ⊢
  have fr : ∀ n, s.heap.objs.size ≤ n → s.heap.get? n = none := fun n g => by
    cases e : s.heap.get? n with
    | none => rfl
    | some o => exact absurd (Heap.lt_size e) (Nat.not_lt.mpr g)
  have W := Walks.list (prog := prog) (w := w) hh1 s.heap.objs.size l (Nat.ne_of_lt lt) vs.toArray
  refine codeAny_builtin F.entry_min_loop ?_
  rw [Around.under_plainId F.plain_min_loop _]
  show wpAny _ A.in1 (seqItems? (.ref (s.heap.objs.size + 1)) >>= _) _ _ _
  refine wpAny_bind (wpAny_seqItems hS rfl ?_)
  show wpAny _ A.in1 (tryCatch (pyNext (.ref s.heap.objs.size)) _ >>= _) _ _ _
  refine wpAny_bind (wpAny_tryCatch (W.item 0 _ _ _ (by simpa using hne) ⟨hI, hL⟩ fun v h' tk hP st' k' => ?_))
  have nw : s.heap.objs.size + 1 ∉ [s.heap.objs.size] := fun z => Nat.succ_ne_self _ (List.mem_singleton.mp z)
  have hS' := k' _ _ nw hS
  have old : ∀ a o, s.heap.get? a = some o → h'.get? a = some o := fun a o e => k' a o (fun z => Nat.lt_irrefl _ (List.mem_singleton.mp z ▸ Heap.lt_size e)) (kp a o e)
  show wpAny _ A.in1 (updateSeq (s.heap.objs.size + 1) (fun _ => #[v, v]) >>= _) _ _ _
  refine wpAny_bind (wpAny_updateSeq hS' rfl ?_)
  rw [nm]
  have mv : v ∈ vs.toArray := Array.mem_of_getElem? hP
  refine wpAny_pure ⟨plainId_quiet F.plain_min_loop _, loop_min (h₀ := s.heap) (κ := κ) (lo := lo) hh1 hu (Nat.ne_of_lt lt) (Nat.succ_ne_self _) (Nat.ne_of_gt (Nat.lt_succ_of_lt lt)) (fr _ (Nat.le_refl _)) (fr _ (Nat.le_succ _))
    (fun v m => hv v (List.mem_toArray.mp m)) _ 0 _ v _ rfl (by simp; omega) (W.frame _ _ _ st' fun a ha o e => ?_) mv (fun i u hi eu => ?_) (Heap.get?_update_self _ hS' rfl) (fun a o e => ?_) fun v h' tk m le k => ?_⟩
  · refine (Heap.get?_update_other _ _ (fun z => ?_)).trans e
    subst z
    rcases List.mem_cons.mp ha with z | z
    · exact Nat.succ_ne_self _ z
    · exact Nat.ne_of_gt (Nat.lt_succ_of_lt lt) (List.mem_singleton.mp z)
  · have : i = 0 := by omega
    subst this
    rw [hP] at eu
    cases eu
    exact Int.le_refl _
  · exact (Heap.get?_update_other _ _ (fun z => by rw [← z, fr _ (Nat.le_succ _)] at e; cases e)).trans (old a o e)
  · exact h v h' tk (List.mem_toArray.mp m) (fun u mu => le u (List.mem_toArray.mpr mu)) k
theorem pr_max {lo : Int} {u v : Value} {Q : Value → Shared → Prop} (hu : A.units < cLine) (a : Prs s.heap κ lo u) (b : Prs s.heap κ lo v) (q : Q (.bool (decide (κ u > κ v))) s) : wpAny (model prog w) A (richCompare .Gt u v) Q E s := by
  obtain ⟨p, x, y, rfl, t, k, l0, l1⟩ := a
  obtain ⟨p', x', y', rfl, t', k', l0', l1'⟩ := b
  refine cmp_gt hu t t' ?_
  rw [k, k'] at q
  rw [show decide (x > x' ∨ (x = x' ∧ y > y')) = decide (x * 64 + y > x' * 64 + y') by
    by_cases c : x * 64 + y > x' * 64 + y'
    · rw [decide_eq_true c, decide_eq_true (by omega)]
    · rw [decide_eq_false c, decide_eq_false (by omega)]]
  exact q
theorem loop_max {lo : Int} (hh : A.in1.handled = none) (hu : A.in1.units < cLine) (nI : ax ≠ I) (nS : S ≠ I) (nX : S ≠ ax) (fI : h₀.get? I = none) (fS : h₀.get? S = none) (hv : ∀ v, v ∈ items → Prs h₀ κ lo v) :
    ∀ (k j : Nat) (s : Shared) (b : Value) (c : Nat), items.size - (j + 1) = k → j + 1 ≤ items.size → (s.heap.IsListIter I ax (j + 1) ∧ s.heap.IsList ax items) → b ∈ items → (∀ i v, i ≤ j → items[i]? = some v → κ b ≥ κ v) →
    s.heap.get? S = some { cls := .type "list", dict := none, data := .seq #[b, b] c, slots := #[] } → (∀ a o, h₀.get? a = some o → s.heap.get? a = some o) →
    (∀ v h' tk, v ∈ items → (∀ u, u ∈ items → κ v ≥ κ u) → (∀ a o, h₀.get? a = some o → h'.get? a = some o) → R (.ok (.ret v)) { s with heap := h', toks := tk }) →
    codeAny (model prog w) A (.builtin "max.loop" ⟨[.ref I, .none, .ref S], []⟩) R s := by
  have W := Walks.list (prog := prog) (w := w) hh I ax nI items
  have nm : (toString "max" ++ toString ".loop" : String) = "max.loop" := by decide
  have nw : S ∉ [I] := fun z => nS (List.mem_singleton.mp z)
  have old : ∀ {h h' : Heap}, (∀ a o, h₀.get? a = some o → h.get? a = some o) → (∀ a o, a ∉ [I] → h.get? a = some o → h'.get? a = some o) → ∀ a o, h₀.get? a = some o → h'.get? a = some o := fun k1 k2 a o e =>
    k2 a o (fun z => by rw [List.mem_singleton.mp z, fI] at e; cases e) (k1 a o e)
  have oldS : ∀ {h : Heap} (f : Obj → Obj), (∀ a o, h₀.get? a = some o → h.get? a = some o) → ∀ a o, h₀.get? a = some o → (h.update S f).get? a = some o := fun f k1 a o e =>
    (Heap.get?_update_other _ _ (fun z => by rw [← z, fS] at e; cases e)).trans (k1 a o e)
  intro k
  induction k with
  | zero =>
    intro j s b c hk hj st mb lb hS kp hR
    refine codeAny_builtin F.entry_max_loop ?_
    rw [Around.under_plainId F.plain_max_loop _]
    show wpAny _ A.in1 (seqItems? (.ref S) >>= _) _ _ s
    refine wpAny_bind (wpAny_seqItems hS rfl ?_)
    show wpAny _ A.in1 (tryCatch (pyNext (.ref I)) _ >>= _) _ _ s
    have e : j + 1 = items.size := by omega
    refine wpAny_bind (wpAny_tryCatch (W.done s _ _ (e ▸ st) fun h' tk k' => ?_))
    have hS' := k' S _ nw hS
    show wpAny _ A.in1 (updateSeq S (fun _ => #[]) >>= _) _ _ _
    refine wpAny_bind (wpAny_updateSeq hS' rfl (wpAny_bind (wpAny_letGo (wpAny_pure ?_))))
    refine hR b _ tk mb (fun u mu => ?_) (oldS _ (old kp k'))
    obtain ⟨i, hi, eu⟩ := Array.mem_iff_getElem.mp mu
    exact lb i u (by omega) (by rw [Array.getElem?_eq_getElem hi, eu])
  | succ k ih =>
    intro j s b c hk hj st mb lb hS kp hR
    refine codeAny_builtin F.entry_max_loop ?_
    rw [Around.under_plainId F.plain_max_loop _]
    show wpAny _ A.in1 (seqItems? (.ref S) >>= _) _ _ s
    refine wpAny_bind (wpAny_seqItems hS rfl ?_)
    show wpAny _ A.in1 (tryCatch (pyNext (.ref I)) _ >>= _) _ _ s
    refine wpAny_bind (wpAny_tryCatch (W.item (j + 1) s _ _ (by omega) st fun v h' tk hP st' k' => ?_))
    have hS' := k' S _ nw hS
    have kp' := old kp k'
    have mv : v ∈ items := Array.mem_of_getElem? hP
    show wpAny _ A.in1 (tryCatch (holding [v, v] (richCompare .Gt v b >>= _)) _ >>= _) _ _ _
    refine wpAny_bind (wpAny_tryCatch (wpAny_holding (wpAny_bind (pr_max hu ((hv v mv).keep kp') ((hv b mb).keep kp') ?_))))
    refine wpAny_bind (wpAny_holding (wpAny_truthy_bool (wpAny_bind (wpAny_letGo (wpAny_pure ?_)))))
    by_cases l : κ v > κ b
    · simp only [decide_eq_true l, if_true]
      refine wpAny_bind (wpAny_updateSeq hS' rfl (wpAny_bind (wpAny_letGo ?_)))
      rw [nm]
      refine wpAny_pure ⟨plainId_quiet F.plain_max_loop _, ih (j + 1) _ v _ (by omega) (by omega) (W.frame _ _ _ st' fun a ha o e => ?_) mv (fun i u hi eu => ?_) (Heap.get?_update_self _ hS' rfl) (oldS _ kp') hR⟩
      · refine (Heap.get?_update_other _ _ (fun z => ?_)).trans e
        subst z
        rcases List.mem_cons.mp ha with z | z
        · exact nS z
        · exact nX (List.mem_singleton.mp z)
      · by_cases c : i ≤ j
        · have := lb i u c eu
          omega
        · have : i = j + 1 := by omega
          subst this
          rw [hP] at eu
          cases eu
          exact Int.le_refl _
    · simp only [decide_eq_false l, Bool.false_eq_true, if_false]
      refine wpAny_bind (wpAny_letGo ?_)
      rw [nm]
      refine wpAny_pure ⟨plainId_quiet F.plain_max_loop _, ih (j + 1) _ b c (by omega) (by omega) st' mb (fun i u hi eu => ?_) hS' kp' hR⟩
      by_cases c : i ≤ j
      · exact lb i u c eu
      · have : i = j + 1 := by omega
        subst this
        rw [hP] at eu
        cases eu
        omega
theorem call_max {lo : Int} {l : Addr} {vs : List Value} {Q : Value → Shared → Prop} (hh1 : A.in1.handled = none) (hu : A.in1.units < cLine) (hl : s.heap.IsList l vs.toArray) (hne : 0 < vs.length) (hv : ∀ v, v ∈ vs → Prs s.heap κ lo v)
    (h : ∀ v h' tk, v ∈ vs → (∀ u, u ∈ vs → κ v ≥ κ u) → (∀ a o, s.heap.get? a = some o → h'.get? a = some o) → Q v { s with heap := h', toks := tk }) : wpAny (model prog w) A (call (.builtin "max") [.ref l]) Q E s := by
  have nm : (toString "max" ++ toString ".loop" : String) = "max.loop" := by decide
  refine call_function_tree F.kind_max F.plain_max F.entry_max (F.args_max1 _) ?_
  show wpAny _ A.in1 (Builtin.Builtins.bindParams "max" ["key", "default"] 0 ⟨[], []⟩ >>= _) _ _ s
  refine wpAny_bind (wpAny_of_eq (show Builtin.Builtins.bindParams "max" ["key", "default"] 0 ⟨[], []⟩ = pure [none, none] from rfl) (wpAny_bind (wpAny_pure ?_)))
  refine wpAny_bind (wpAny_pyIter_list hl ?_)
  refine wpAny_bind (wpAny_newObj_type ?_)
  rw [nm]
  have lt : l < s.heap.objs.size := by obtain ⟨_, e, _⟩ := hl; exact Heap.lt_size e
  have lS : (s.heap.push { cls := .type "list_iterator", data := .fields #[.ref l, .int 0 0] }).objs.size = s.heap.objs.size + 1 := Heap.size_push ..
  have kp : ∀ a o, s.heap.get? a = some o → ((s.heap.push { cls := .type "list_iterator", data := .fields #[.ref l, .int 0 0] }).push { cls := .type "list", data := .seq #[] }).get? a = some o := fun a o e =>
    Heap.get?_push_of_some _ (Heap.get?_push_of_some _ e)
  have hI : ((s.heap.push { cls := .type "list_iterator", data := .fields #[.ref l, .int 0 0] }).push { cls := .type "list", data := .seq #[] }).IsListIter s.heap.objs.size l 0 :=
    ⟨_, Heap.get?_push_of_some _ (Heap.get?_push_size _ rfl), rfl, rfl⟩
  have hL : ((s.heap.push { cls := .type "list_iterator", data := .fields #[.ref l, .int 0 0] }).push { cls := .type "list", data := .seq #[] }).IsList l vs.toArray := (hl.push _).push _
  have hS : ((s.heap.push { cls := .type "list_iterator", data := .fields #[.ref l, .int 0 0] }).push { cls := .type "list", data := .seq #[] }).get? (s.heap.objs.size + 1) = some { cls := .type "list", dict := none, data := .seq #[] 0, slots := #[] } := by
    rw [← lS]; exact Heap.get?_push_size _ rfl
  refine wpAny_pure ⟨plainId_quiet F.plain_max_loop _, ?_⟩
  dsimp only
  rw [lS]
  generalize ((s.heap.push { cls := .type "list_iterator", data := .fields #[.ref l, .int 0 0] }).push { cls := .type "list", data := .seq #[] }) = h1 at kp hI hL hS ⊢
  have fr : ∀ n, s.heap.objs.size ≤ n → s.heap.get? n = none := fun n g => by
    cases e : s.heap.get? n with
    | none => rfl
    | some o => exact absurd (Heap.lt_size e) (Nat.not_lt.mpr g)
  have W := Walks.list (prog := prog) (w := w) hh1 s.heap.objs.size l (Nat.ne_of_lt lt) vs.toArray
  refine codeAny_builtin F.entry_max_loop ?_
  rw [Around.under_plainId F.plain_max_loop _]
  show wpAny _ A.in1 (seqItems? (.ref (s.heap.objs.size + 1)) >>= _) _ _ _
  refine wpAny_bind (wpAny_seqItems hS rfl ?_)
  show wpAny _ A.in1 (tryCatch (pyNext (.ref s.heap.objs.size)) _ >>= _) _ _ _
  refine wpAny_bind (wpAny_tryCatch (W.item 0 _ _ _ (by simpa using hne) ⟨hI, hL⟩ fun v h' tk hP st' k' => ?_))
  have nw : s.heap.objs.size + 1 ∉ [s.heap.objs.size] := fun z => Nat.succ_ne_self _ (List.mem_singleton.mp z)
  have hS' := k' _ _ nw hS
  have old : ∀ a o, s.heap.get? a = some o → h'.get? a = some o := fun a o e => k' a o (fun z => Nat.lt_irrefl _ (List.mem_singleton.mp z ▸ Heap.lt_size e)) (kp a o e)
  show wpAny _ A.in1 (updateSeq (s.heap.objs.size + 1) (fun _ => #[v, v]) >>= _) _ _ _
  refine wpAny_bind (wpAny_updateSeq hS' rfl ?_)
  rw [nm]
  have mv : v ∈ vs.toArray := Array.mem_of_getElem? hP
  refine wpAny_pure ⟨plainId_quiet F.plain_max_loop _, loop_max (h₀ := s.heap) (κ := κ) (lo := lo) hh1 hu (Nat.ne_of_lt lt) (Nat.succ_ne_self _) (Nat.ne_of_gt (Nat.lt_succ_of_lt lt)) (fr _ (Nat.le_refl _)) (fr _ (Nat.le_succ _))
    (fun v m => hv v (List.mem_toArray.mp m)) _ 0 _ v _ rfl (by simp; omega) (W.frame _ _ _ st' fun a ha o e => ?_) mv (fun i u hi eu => ?_) (Heap.get?_update_self _ hS' rfl) (fun a o e => ?_) fun v h' tk m le k => ?_⟩
  · refine (Heap.get?_update_other _ _ (fun z => ?_)).trans e
    subst z
    rcases List.mem_cons.mp ha with z | z
    · exact Nat.succ_ne_self _ z
    · exact Nat.ne_of_gt (Nat.lt_succ_of_lt lt) (List.mem_singleton.mp z)
  · have : i = 0 := by omega
    subst this
    rw [hP] at eu
    cases eu
    exact Int.le_refl _
  · exact (Heap.get?_update_other _ _ (fun z => by rw [← z, fr _ (Nat.le_succ _)] at e; cases e)).trans (old a o e)
  · exact h v h' tk (List.mem_toArray.mp m) (fun u mu => le u (List.mem_toArray.mpr mu)) k
end
end Srt
end L2
set_option Elab.async false
set_option linter.all false
set_option maxRecDepth 100000
namespace L2
open PySem PyProof.Rows
section
variable {X : Cx} {pins : List (Addr × Obj)} {σ : St} {H : Hp} {s : Shared}
abbrev Pr := Addr × Int × Int
def PrL (K : PySem.W.Frag) (H : Hp) (ps : List Pr) : Prop := ∀ e ∈ ps, SqT K H e.1 [.int e.2.1, .int e.2.2]
abbrev cod (e : Pr) : Int := e.2.1 * 64 + e.2.2
theorem Inv.two (I : Inv X pins σ H s) {p : Addr} {x y : Int} (h : SqT X.K H p [.int x, .int y]) : Srt.Two s.heap p x y := by
  obtain ⟨its, r, ⟨o, ho, hc, n, hd⟩, _⟩ := I.tuple h
  match its, r with
  | [a, b], .cons r1 (.cons r2 .nil) =>
    obtain ⟨t, rfl⟩ := r1
    obtain ⟨u, rfl⟩ := r2
    exact ⟨o, t, u, n, ho, hc, hd⟩
theorem two_inj {h : Heap} {p : Addr} {x y x' y' : Int} (a : Srt.Two h p x y) (b : Srt.Two h p x' y') : x = x' ∧ y = y' := by
  obtain ⟨o, t, u, n, ho, hc, hd⟩ := a
  obtain ⟨o', t', u', n', ho', hc', hd'⟩ := b
  rw [ho] at ho'; cases ho'
  rw [hd] at hd'
  injection hd' with z _
  have z2 := congrArg Array.toList z
  simp at z2
  exact ⟨z2.1.1, z2.2.1⟩
def prOf (ps : List Pr) : Value → Pr
  | .ref a => (ps.find? fun e => e.1 == a).getD (0, 0, 0)
  | _ => (0, 0, 0)
theorem prOf_at (I : Inv X pins σ H s) {ps : List Pr} (hp : PrL X.K H ps) {e : Pr} (m : e ∈ ps) : prOf ps (.ref e.1) = e := by
  show (ps.find? fun z => z.1 == e.1).getD (0, 0, 0) = e
  cases f : ps.find? fun z => z.1 == e.1 with
  | none => exact absurd (List.find?_eq_none.mp f e m) (by simp)
  | some z =>
    have m' := List.mem_of_find?_eq_some f
    have e1 : z.1 = e.1 := by simpa using List.find?_some f
    have t1 := I.two (hp z m')
    have t2 := I.two (hp e m)
    rw [e1] at t1
    obtain ⟨a, b⟩ := two_inj t1 t2
    show z = e
    obtain ⟨z1, z2, z3⟩ := z
    obtain ⟨y1, y2, y3⟩ := e
    simp at e1 a b
    subst e1; subst a; subst b; rfl
theorem refs_of {ps : List Pr} {its : List Value} (r : Vals (ps.map fun e => V.ref e.1) its) : its = ps.map fun e => Value.ref e.1 := by
  induction ps generalizing its with
  | nil => cases r; rfl
  | cons e ps ih =>
    cases r with
    | cons r1 r2 => rw [ih r2]; cases (show _ = Value.ref e.1 from r1); rfl
theorem vals_prs : ∀ ps : List Pr, Vals (ps.map fun e => V.ref e.1) (ps.map fun e => Value.ref e.1)
  | [] => .nil
  | e :: ps => .cons rfl (vals_prs ps)
def gSortP (K : PySem.W.Frag) : List V → Hp → VK → Prop
  | [.ref p], H, Q => ∃ ps : List Pr, SqL K H p (ps.map fun e => .ref e.1) ∧ PrL K H ps ∧ ps.length < 64 ∧ (∀ e ∈ ps, 0 ≤ e.2.2 ∧ e.2.2 < 64) ∧ (ps.map cod).Nodup ∧
      ∀ out : List Pr, out.Perm ps → out.Pairwise (fun a b => cod a < cod b) → ∀ l, H l = none → Q (.ref l) (upd H l (.lst (out.map fun e => .ref e.1)))
  | _, _, _ => False
theorem fc_sortP (K : PySem.W.Frag) (hK : X.K = K := by rfl) : CallR X (.builtin "sorted") (gSortP K) := by
  subst hK
  intro pins s σ H xs us Q I r h
  unfold gSortP at h
  split at h
  · rename_i p
    obtain ⟨ps, hq, hp, h64, hb, nd, q⟩ := h
    obtain ⟨u, rfl, rx⟩ := vals1 r
    cases (show u = Value.ref p from rx)
    obtain ⟨its, r', pl, hz⟩ := I.list hq
    have ei := refs_of r'
    subst ei
    have inv : ∀ e ∈ ps, prOf ps (.ref e.1) = e := fun e m => prOf_at I hp m
    have em : (ps.map fun e => Value.ref e.1).map (prOf ps) = ps := by
      rw [List.map_map]
      exact (List.map_congr_left fun e m => inv e m).trans (List.map_id _)
    refine Srt.sorted_by (kd := tuples' true) (κ := fun v => cod (prOf ps v)) pl.isList (by simpa using h64) ?_ (fun h2 h' kp => Srt.cmp_two (by simpa using h2) fun v m => ?_) fun out h' c pm sr kp e => ?_
    · rw [show (ps.map fun e => Value.ref e.1).map (fun v => cod (prOf ps v)) = ((ps.map fun e => Value.ref e.1).map (prOf ps)).map cod by simp only [List.map_map]; rfl, em]
      exact nd
    · obtain ⟨e, me, rfl⟩ := List.mem_map.mp m
      refine ⟨e.1, e.2.1, e.2.2, rfl, (I.two (hp e me)).keep kp, ?_, (hb e me).1, (hb e me).2⟩
      show cod (prOf ps (.ref e.1)) = _
      rw [inv e me]
    · have pm' : (out.map (prOf ps)).Perm ps := by
        have := pm.map (prOf ps)
        rwa [em] at this
      have eo : out = (out.map (prOf ps)).map fun e => Value.ref e.1 := by
        rw [List.map_map]
        refine ((List.map_congr_left fun v m => ?_).trans (List.map_id _)).symm
        obtain ⟨e, m', rfl⟩ := List.mem_map.mp (pm.mem_iff.mp m)
        show Value.ref (prOf ps (.ref e.1)).1 = _
        rw [inv e m']; rfl
      have so : (out.map (prOf ps)).Pairwise fun a b => cod a < cod b := List.pairwise_map.mpr sr
      refine ⟨.ref (s.heap.objs.size + 1), _, I.laid (t' := s.toks) (a := s.heap.objs.size + 1) kp (Nat.le_succ _) (show ObjOk X.prog X.w _ h' _ (.lst ((out.map (prOf ps)).map fun e => .ref e.1)) from ⟨?_, out, c, ?_, e⟩), rfl, q _ pm' so _ (I.hok.fresh (Nat.le_succ _))⟩
      · rw [List.length_map, pm'.length_eq, sizeLine_eq]; omega
      · have := vals_prs (out.map (prOf ps))
        rwa [← eo] at this
  · exact h.elim
def gMinP (K : PySem.W.Frag) (g : Int → Int → Prop) : List V → Hp → VK → Prop
  | [.ref p], H, Q => ∃ (ps : List Pr) (lo : Int), SqL K H p (ps.map fun e => .ref e.1) ∧ PrL K H ps ∧ ps ≠ [] ∧ (∀ e ∈ ps, lo ≤ e.2.2 ∧ e.2.2 < lo + 64) ∧ ∀ e ∈ ps, (∀ z ∈ ps, g (cod e) (cod z)) → Q (.ref e.1) H
  | _, _, _ => False
theorem fc_minP (K : PySem.W.Frag) (hc : X.calm = true) (hu : X.A.units + 100 < cLine) (hK : X.K = K := by rfl) : CallR X (.builtin "min") (gMinP K (· ≤ ·)) := by
  subst hK
  intro pins s σ H xs us Q I r h
  unfold gMinP at h
  split at h
  · rename_i p
    obtain ⟨ps, lo, hq, hp, ne, hb, q⟩ := h
    obtain ⟨u, rfl, rx⟩ := vals1 r
    cases (show u = Value.ref p from rx)
    obtain ⟨its, r', pl, hz⟩ := I.list hq
    have ei := refs_of r'
    subst ei
    have inv : ∀ e ∈ ps, prOf ps (.ref e.1) = e := fun e m => prOf_at I hp m
    refine Srt.call_min (lo := lo) (κ := fun v => cod (prOf ps v)) (I.ok.hd hc) (by show X.A.units + 1 < _; omega) pl.isList (by simpa using List.length_pos_iff.mpr ne) (fun v m => ?_) fun v h' tk m le kp => ?_
    · obtain ⟨e, me, rfl⟩ := List.mem_map.mp m
      refine ⟨e.1, e.2.1, e.2.2, rfl, I.two (hp e me), ?_, (hb e me).1, (hb e me).2⟩
      show cod (prOf ps (.ref e.1)) = _
      rw [inv e me]
    · obtain ⟨e, me, rfl⟩ := List.mem_map.mp m
      refine ⟨.ref e.1, H, I.kept kp, rfl, q e me fun z mz => ?_⟩
      have := le (.ref z.1) (List.mem_map.mpr ⟨z, mz, rfl⟩)
      rw [inv e me, inv z mz] at this
      exact this
  · exact h.elim
theorem fc_maxP (K : PySem.W.Frag) (hc : X.calm = true) (hu : X.A.units + 100 < cLine) (hK : X.K = K := by rfl) : CallR X (.builtin "max") (gMinP K (· ≥ ·)) := by
  subst hK
  intro pins s σ H xs us Q I r h
  unfold gMinP at h
  split at h
  · rename_i p
    obtain ⟨ps, lo, hq, hp, ne, hb, q⟩ := h
    obtain ⟨u, rfl, rx⟩ := vals1 r
    cases (show u = Value.ref p from rx)
    obtain ⟨its, r', pl, hz⟩ := I.list hq
    have ei := refs_of r'
    subst ei
    have inv : ∀ e ∈ ps, prOf ps (.ref e.1) = e := fun e m => prOf_at I hp m
    refine Srt.call_max (lo := lo) (κ := fun v => cod (prOf ps v)) (I.ok.hd hc) (by show X.A.units + 1 < _; omega) pl.isList (by simpa using List.length_pos_iff.mpr ne) (fun v m => ?_) fun v h' tk m le kp => ?_
    · obtain ⟨e, me, rfl⟩ := List.mem_map.mp m
      refine ⟨e.1, e.2.1, e.2.2, rfl, I.two (hp e me), ?_, (hb e me).1, (hb e me).2⟩
      show cod (prOf ps (.ref e.1)) = _
      rw [inv e me]
    · obtain ⟨e, me, rfl⟩ := List.mem_map.mp m
      refine ⟨.ref e.1, H, I.kept kp, rfl, q e me fun z mz => ?_⟩
      have := le (.ref z.1) (List.mem_map.mpr ⟨z, mz, rfl⟩)
      rw [inv e me, inv z mz] at this
      exact this
  · exact h.elim
def gGtP (K : PySem.W.Frag) : R2
  | .ref p, .ref q, H, Q => ∃ x y x' y', SqT K H p [.int x, .int y] ∧ SqT K H q [.int x', .int y'] ∧ Q (.bl (decide (x > x' ∨ (x = x' ∧ y > y')))) H
  | _, _, _, _ => False
theorem fo_gtP (K : PySem.W.Frag) (hu : X.A.units + 100 < cLine) (hK : X.K = K := by rfl) : OpR X (compareOp .Gt) (gGtP K) := by
  subst hK
  intro pins s σ H x y v u Q I rx ry h
  unfold gGtP at h
  split at h
  · rename_i p q
    obtain ⟨x, y, x', y', hp, hq, k⟩ := h
    cases rx; cases ry
    exact Srt.cmp_gt (by omega) (I.two hp) (I.two hq) ⟨.bl _, H, I, rfl, k⟩
  · exact h.elim
def Ite (K : PySem.W.Frag) (a : Addr) : It :=
  ⟨fun i H => ∃ xs x, SqL K H a xs ∧ xs[i]? = some x, fun i H x H' => ∃ p y, H p = none ∧ x = .ref p ∧ H' = upd H p (.tup [.int i, y]) ∧ ∀ xs, SqL K H a xs → xs[i]? = some y, fun i H => ∃ xs, SqL K H a xs ∧ xs.length ≤ i⟩
theorem Inv.turned2 {h' : Heap} {t' : Nat} {e it : Addr} {oe oi : Obj} (I : Inv X pins σ H s) (ge : s.heap.get? e = some oe) (gi : s.heap.get? it = some oi) (ne : e ≠ it) (he : ∃ o, h'.get? e = some o ∧ o.isFreed = false) (hi : ∃ o, h'.get? it = some o ∧ o.isFreed = false)
    (k : ∀ b o, b ≠ e → b ≠ it → s.heap.get? b = some o → h'.get? b = some o) (fe : FpOk X pins H e) (fi : FpOk X pins H it) : ∃ h2 : Heap, h2.objs.size = s.heap.objs.size ∧ Inv X pins σ H { s with heap := h2, toks := t' } ∧ ∀ b o, h2.get? b = some o → h'.get? b = some o := by
  obtain ⟨o1, g1, z1⟩ := he
  obtain ⟨o2, g2, z2⟩ := hi
  refine ⟨(s.heap.update it fun _ => o2).update e fun _ => o1, by rw [Heap.size_update, Heap.size_update], ?_, ?_⟩
  · have I1 : Inv X pins σ H { s with heap := s.heap.update it fun _ => o2, toks := t' } := I.turned (fun b o hb q => (Heap.get?_update_other _ _ (Ne.symm hb)).trans q) fi.1 fi.2.1 fi.2.2.2.1 fi.2.2.2.2.1 fi.2.2.2.2.2
    exact I1.turned (t' := t') (fun b o hb q => (Heap.get?_update_other _ _ (Ne.symm hb)).trans q) fe.1 fe.2.1 fe.2.2.2.1 fe.2.2.2.2.1 fe.2.2.2.2.2
  · intro b o q
    by_cases b1 : b = e
    · subst b1
      have ge' : (s.heap.update it fun _ => o2).get? b = some oe := (Heap.get?_update_other _ _ (Ne.symm ne)).trans ge
      rw [Heap.get?_update_self _ ge' z1] at q
      cases q; exact g1
    · rw [Heap.get?_update_other _ _ (Ne.symm b1)] at q
      by_cases b2 : b = it
      · subst b2
        rw [Heap.get?_update_self _ gi z2] at q
        cases q; exact g2
      · rw [Heap.get?_update_other _ _ (Ne.symm b2)] at q
        exact k b o b1 b2 q
theorem turn_enum {P : Program} {w : World} {K : PySem.W.Frag} {elts : List Expr} {cx : _} {pos : Pos} (a e it : Addr) (ne : e ≠ it) :
    Turn P w K (.Tuple elts cx pos) (Ite K a) [e, it] e (fun i h => ∃ old, IsEnum h e it (i : Nat) old ∧ h.IsListIter it a i) where
  mem := by simp
  obj := fun i h st b hb => by
    obtain ⟨old, h1, o, h2, c, d⟩ := st
    rcases List.mem_cons.mp hb with rfl | hb
    · exact ⟨_, h1, fun v z => by
        have z' : Data.fields _ = Data.cell v := z
        cases z'⟩
    · have z := List.mem_singleton.mp hb
      subst z
      exact ⟨o, h2, fun v z => by rw [d] at z; cases z⟩
  keep := fun i h h' st k => by
    obtain ⟨old, h1, h2⟩ := st
    exact ⟨old, k e (by simp) _ h1, h2.at fun o q => k it (by simp) o q⟩
  item := by
    intro X hP hw hK hc i pins s σ H E I hf st hg
    subst hP hw hK
    obtain ⟨xs, x, hq, hx⟩ := hg
    obtain ⟨its, rv, p, hz⟩ := I.list hq
    obtain ⟨u, hu, ru⟩ := rv.get hx
    have fe := hf e (by simp)
    have fi := hf it (by simp)
    obtain ⟨old, h1, h2⟩ := st
    obtain ⟨oi, gi, ci, di⟩ := id h2
    refine wpAny_pyNext_enum_item h1 h2 p.isList (x := u) (by simpa using hu) ne fun h' e1 i1 t1 z1 k1 => ?_
    obtain ⟨oi', gi', ci', di'⟩ := id i1
    obtain ⟨h3, z3, I3, k3⟩ := I.turned2 (t' := s.toks + 1) (h' := h') h1 gi ne ⟨_, e1, rfl⟩ ⟨_, gi', Obj.isFreed_of_fields di'⟩ k1 fe fi
    have hn := I.hok.fresh (Nat.le_refl s.heap.objs.size)
    have I4 : Inv X pins σ (upd H s.heap.objs.size (.tup [.int i, x])) { s with heap := h', toks := s.toks + 1 } :=
      I3.laid (t' := s.toks + 1) k3 (Nat.le_of_eq z3) (show ObjOk X.prog X.w _ h' _ (.tup [.int i, x]) from ⟨by show 2 ≤ sizeLine; rw [sizeLine_eq]; decide, [.int i s.toks, u], .cons ⟨_, rfl⟩ (.cons ru .nil), ⟨_, t1, rfl, 0, rfl⟩⟩)
    have le : e < s.heap.objs.size := Heap.lt_size h1
    have li : it < s.heap.objs.size := Heap.lt_size gi
    have nH : ∀ b, b < s.heap.objs.size → upd H s.heap.objs.size (.tup [.int i, x]) b = H b := fun b l => upd_ne (Nat.ne_of_lt l)
    refine ⟨_, rfl, wpAny_letOwnedTupleGo_enum (s := { s with heap := h', toks := s.toks + 1 }) e1 fun h5 e5 s5 => ?_⟩
    have I5 : Inv X pins σ (upd H s.heap.objs.size (.tup [.int i, x])) { s with heap := h5, toks := s.toks + 1 } :=
      I4.turned (t' := s.toks + 1) (fun b o hb q => (s5.2 b hb).trans q) ((nH e le).trans fe.1) fe.2.1 fe.2.2.2.1 fe.2.2.2.2.1 fe.2.2.2.2.2
    refine ⟨.ref s.heap.objs.size, _, I5, rfl, ⟨_, x, hn, rfl, rfl, fun ys hy => by rw [I.list_inj hy hq]; exact hx⟩, ⟨u, e5, i1.at fun o q => (s5.2 it (Ne.symm ne)).trans q⟩, fun b hb => ?_⟩
    rcases List.mem_cons.mp hb with rfl | hb
    · exact (nH _ le).trans fe.1
    · rw [List.mem_singleton.mp hb]; exact (nH _ li).trans fi.1
  done := by
    intro X hP hw hK hc i pins s σ H E I hf st hg
    subst hP hw hK
    obtain ⟨xs, hq, hx⟩ := hg
    obtain ⟨its, rv, p, hz⟩ := I.list hq
    have fi := hf it (by simp)
    have hl := rv.length
    obtain ⟨old, h1, h2⟩ := st
    exact wpAny_pyNext_enum_end (I.ok.hd hc) h1 h2 p.isList (by simp; omega) fun h' eb => ⟨rfl, I.turned (t' := s.toks) (fun b o hb q => eb b o hb q) fi.1 fi.2.1 fi.2.2.2.1 fi.2.2.2.2.1 fi.2.2.2.2.2⟩
  self := fun _ _ _ _ _ ⟨_, st, _⟩ h => wpAny_pyIter_enum st h
def iEnum (K : PySem.W.Frag) (ta : TA) : TI := fun σ H R => ta σ H fun vs H1 => ∃ a, vs = [.ref a] ∧ (∃ xs, SqL K H1 a xs) ∧ R (Ite K a) H1
theorem pi_enum {arg : Expr} {ta : TA} {p pos : Pos} {elts : List Expr} {cx : _} {tp : Pos} (K : PySem.W.Frag) (hg : Gl X "enumerate") (hm : X.mg "enumerate" = none) (ha : PA X [arg] ta) (hs : starEach [arg] X.env = [(false, eval arg X.env)] := by rfl) (hK : X.K = K := by rfl) :
    PI X (.Tuple elts cx tp) (.Call (.Name "enumerate" p) [arg] [] pos) (iEnum K ta) := by
  subst hK
  intro pins s σ H R I h
  refine Call_ (ld_blt I hg hm PyProof.Rows.boot_enumerate (PyProof.Rows.callWith_type1 (thn (ha pos pins s σ H _ I h) fun us s1 ⟨vs, H1, I1, r1, q1⟩ => ?_) hs rfl))
  obtain ⟨a, e, ⟨xs, hq⟩, q⟩ := q1
  subst e
  obtain ⟨u, rfl, ru⟩ := vals1 r1
  cases (show u = Value.ref a from ru)
  obtain ⟨its, rv, pl, hz⟩ := I1.list hq
  refine call_enumerate_list pl.isList fun h' e1 i1 z1 k1 => wpAny_pyIter_enum (s := { s1 with heap := h' }) e1 ?_
  refine ⟨_, [s1.heap.objs.size + 1, s1.heap.objs.size], _, _, H1, rfl, I1.kept (t' := s1.toks) k1, turn_enum a _ _ (Nat.succ_ne_self _), ⟨_, e1, i1⟩, fun b hb => ?_, q⟩
  rcases List.mem_cons.mp hb with rfl | hb
  · exact I1.fpOk (Nat.le_succ _) (I1.hok.fresh (Nat.le_succ _))
  · rw [List.mem_singleton.mp hb]; exact I1.fpOk (Nat.le_refl _) (I1.hok.fresh (Nat.le_refl _))
def gNeD (K : PySem.W.Frag) : R2 := fun x y H Q => gEqQ K true x y H Q ∨ ∃ p k u, x = .ref p ∧ y = .ref p ∧ H p = some (.dK [(k, u)]) ∧ Q (.bl false) H
theorem op_neD (K : PySem.W.Frag) (hu : X.A.units + 100 < cLine) : OpR X (compareOp .NotEq) (fun x y H Q => ∃ p k u, x = .ref p ∧ y = .ref p ∧ H p = some (.dK [(k, u)]) ∧ Q (.bl false) H) := by
  intro pins s σ H x y v u Q I rx ry h
  obtain ⟨p, k, z, rfl, rfl, hp, q⟩ := h
  cases rx; cases ry
  obtain ⟨_, ha, vs, kv, d⟩ := dk_of I.hok hp
  cases kv with
  | cons r t =>
    cases t
    rename_i kq
    obtain ⟨k', v⟩ := kq
    have h1 : valueAt [(k', v)] k' = some v := by simp [valueAt]
    have hh : PySem.W.KeqHits X.A.in1 s [(k', v)] [(k', v)] (true && true) := PySem.W.KeqHits.hit h1 (SeqAt.EqAt.same v) .nil
    refine PySem.W.keq_ne ha ha d d (by omega) (fun _ => hh) ?_
    rw [beq_self_eq_true]
    exact ⟨.bl false, H, I, rfl, q⟩
theorem fo_neD (K : PySem.W.Frag) (hu : X.A.units + 100 < cLine) (hK : X.K = K := by rfl) : OpR X (compareOp .NotEq) (gNeD K) := ((fo_neQ K hu hK).or (op_neD K hu)).imp fun _ _ _ _ h => h
end
end L2
set_option Elab.async false
set_option maxHeartbeats 4000000
namespace K5
def rk (κ : Nat → Int) (n i : Nat) : Nat := (List.range n).countP fun j => decide (κ j < κ i)
theorem rk_split {κ : Nat → Int} {pre post : List Nat} {n i : Nat} (hp : (pre ++ i :: post).Perm (List.range n)) (hs : (pre ++ i :: post).Pairwise fun a b => κ a < κ b) : rk κ n i = pre.length := by
  unfold rk
  rw [← hp.countP_eq, List.countP_append, List.countP_cons_of_neg (by simp)]
  obtain ⟨h1, h2, h3⟩ := List.pairwise_append.mp hs
  have e1 : pre.countP (fun j => decide (κ j < κ i)) = pre.length := List.countP_eq_length.mpr fun a ha => by
    have := h3 a ha i (List.mem_cons_self ..)
    simpa using this
  have e2 : post.countP (fun j => decide (κ j < κ i)) = 0 := List.countP_eq_zero.mpr fun a ha => by
    have := (List.pairwise_cons.mp h2).1 a ha
    simp; omega
  rw [e1, e2]; rfl
theorem served {κ : Nat → Int} {pi : List Nat} {n k i : Nat} (hp : pi.Perm (List.range n)) (hs : pi.Pairwise fun a b => κ a < κ b) (hi : i < n) : i ∈ pi.take k ↔ rk κ n i < k := by
  obtain ⟨pre, post, rfl⟩ := List.append_of_mem (hp.mem_iff.mpr (List.mem_range.mpr hi))
  have nd : (pre ++ i :: post).Nodup := hp.nodup_iff.mpr List.nodup_range
  rw [rk_split hp hs]
  constructor
  · intro h
    apply Classical.byContradiction
    intro g
    rw [List.take_append_of_le_length (by omega)] at h
    exact (List.nodup_append.mp nd).2.2 i (List.mem_of_mem_take h) i (List.mem_cons_self ..) rfl
  · intro h
    rw [List.take_append, List.mem_append]
    right
    obtain ⟨m, e⟩ : ∃ m, k - pre.length = m + 1 := ⟨k - pre.length - 1, by omega⟩
    rw [e]
    exact List.mem_cons_self ..
theorem rk_mono {κ : Nat → Int} {n i j : Nat} (h : κ i ≤ κ j) : rk κ n i ≤ rk κ n j :=
  List.countP_mono_left fun a _ q => by simp at q ⊢; omega
theorem ahead {κ : Nat → Int} {n k i j : Nat} (hi : rk κ n i < k) (hj : ¬ rk κ n j < k) : κ i < κ j := by
  apply Classical.byContradiction
  intro g
  have := rk_mono (n := n) (show κ j ≤ κ i by omega)
  omega
theorem sorted_one (κ : Nat → Int) (n : Nat) (inj : ∀ i j, i < n → j < n → κ i = κ j → i = j) : ∃ pi : List Nat, pi.Perm (List.range n) ∧ pi.Pairwise fun a b => κ a < κ b := by
  refine ⟨(List.range n).mergeSort fun a b => decide (κ a ≤ κ b), List.mergeSort_perm _ _, ?_⟩
  have hp := List.mergeSort_perm (List.range n) fun a b => decide (κ a ≤ κ b)
  have s := List.pairwise_mergeSort (le := fun a b => decide (κ a ≤ κ b)) (fun a b c h1 h2 => by simp at *; omega) (fun a b => by simp; omega) (List.range n)
  have nd : ((List.range n).mergeSort fun a b => decide (κ a ≤ κ b)).Nodup := hp.nodup_iff.mpr List.nodup_range
  refine (List.Pairwise.and_mem.mp (s.and nd)).imp fun {a b} q => ?_
  obtain ⟨ma, mb, l, ne⟩ := q
  simp at l
  rcases Int.lt_or_eq_of_le l with h | h
  · exact h
  · exact absurd (inj a b (List.mem_range.mp (hp.mem_iff.mp ma)) (List.mem_range.mp (hp.mem_iff.mp mb)) h) ne
theorem sum_map_add {α : Type} (f g : α → Int) : ∀ l : List α, (l.map fun i => f i + g i).sum = (l.map f).sum + (l.map g).sum
  | [] => rfl
  | a :: l => by simp only [List.map_cons, List.sum_cons, sum_map_add f g l]; omega
theorem sum_ind {p : Nat → Bool} : ∀ l : List Nat, (l.map fun i => if p i then (1 : Int) else 0).sum = l.countP p
  | [] => rfl
  | a :: l => by
    rw [List.map_cons, List.sum_cons, sum_ind l, List.countP_cons]
    cases p a <;> simp <;> omega
theorem many (κ : Nat → Int) (n k : Nat) (inj : ∀ i j, i < n → j < n → κ i = κ j → i = j) (hk : k ≤ n) : (List.range n).countP (fun i => decide (rk κ n i < k)) = k := by
  obtain ⟨pi, hp, hs⟩ := sorted_one κ n inj
  rw [← hp.countP_eq]
  have nd : pi.Nodup := hp.nodup_iff.mpr List.nodup_range
  have e : ∀ i ∈ pi, (decide (rk κ n i < k) = true ↔ i ∈ pi.take k) := fun i hi => by
    rw [decide_eq_true_eq, served hp hs (List.mem_range.mp (hp.mem_iff.mp hi))]
  conv => lhs; rw [← List.take_append_drop k pi]
  rw [List.countP_append]
  have e1 : (pi.take k).countP (fun i => decide (rk κ n i < k)) = (pi.take k).length := List.countP_eq_length.mpr fun a ha => (e a (List.mem_of_mem_take ha)).mpr ha
  have e2 : (pi.drop k).countP (fun i => decide (rk κ n i < k)) = 0 := List.countP_eq_zero.mpr fun a ha q => by
    have q' := (e a (List.mem_of_mem_drop ha)).mp q
    rw [← List.take_append_drop k pi] at nd
    exact (List.nodup_append.mp nd).2.2 a q' a ha rfl
  have l : pi.length = n := by rw [hp.length_eq, List.length_range]
  rw [e1, e2, List.length_take]; omega
def pt (a W w : Int) : Int := a * w / W
def rs (a W w : Int) : Int := a * w % W
def wn (a : Int) (ws : List Int) : Int := a - (ws.map (pt a ws.sum)).sum
def cod (a : Int) (ws : List Int) (i : Nat) : Int := -(rs a ws.sum (ws.getD i 0)) * 64 + i
def share (a : Int) (ws : List Int) : List Int := (List.range ws.length).map fun i => pt a ws.sum (ws.getD i 0) + if rk (cod a ws) ws.length i < (wn a ws).toNat then 1 else 0
theorem map_range_getD (f : Int → Int) : ∀ ws : List Int, (List.range ws.length).map (fun i => f (ws.getD i 0)) = ws.map f := fun ws => by
  apply List.ext_getElem
  · simp
  · intro i h1 h2
    simp at h1
    simp [h1]
theorem rest_sum (a W : Int) : ∀ ws : List Int, (ws.map (rs a W)).sum = a * ws.sum - W * (ws.map (pt a W)).sum
  | [] => by simp
  | w :: ws => by
    rw [List.map_cons, List.sum_cons, rest_sum a W ws, List.map_cons, List.sum_cons, List.sum_cons, Int.mul_add, Int.mul_add]
    have := Int.mul_ediv_add_emod (a * w) W
    unfold rs pt
    omega
theorem rest_le (a W : Int) (hW : 0 < W) : ∀ ws : List Int, 0 ≤ (ws.map (rs a W)).sum ∧ (ws.map (rs a W)).sum ≤ (W - 1) * ws.length
  | [] => by simp
  | w :: ws => by
    obtain ⟨h1, h2⟩ := rest_le a W hW ws
    rw [List.map_cons, List.sum_cons, List.length_cons]
    have p0 := Int.emod_nonneg (a * w) (Int.ne_of_gt hW)
    have p1 := Int.emod_lt_of_pos (a * w) hW
    have e : (W - 1) * ((ws.length + 1 : Nat) : Int) = (W - 1) * ws.length + (W - 1) := by rw [Int.natCast_add, Int.mul_add]; simp
    rw [e]
    unfold rs at *
    omega
theorem wn_in (a : Int) (ws : List Int) (hW : 0 < ws.sum) : 0 ≤ wn a ws ∧ wn a ws ≤ ws.length := by
  have s := rest_sum a ws.sum ws
  obtain ⟨l, u⟩ := rest_le a ws.sum hW ws
  have e : (ws.map (rs a ws.sum)).sum = ws.sum * wn a ws := by
    rw [s]; unfold wn; rw [Int.mul_sub, Int.mul_comm a]
  rw [e] at l u
  constructor
  · exact Int.nonneg_of_mul_nonneg_right l hW
  · apply Classical.byContradiction
    intro g
    have g1 : (ws.length : Int) + 1 ≤ wn a ws := by omega
    have g2 := Int.mul_le_mul_of_nonneg_left g1 (Int.le_of_lt hW)
    have g3 : ws.sum * ((ws.length : Int) + 1) = ws.sum * ws.length + ws.sum := by rw [Int.mul_add]; simp
    have g4 : (ws.sum - 1) * (ws.length : Int) = ws.sum * ws.length - ws.length := by rw [Int.sub_mul]; simp
    omega
theorem cod_inj {a : Int} {ws : List Int} (h : ws.length ≤ 60) (i j : Nat) (hi : i < ws.length) (hj : j < ws.length) (e : cod a ws i = cod a ws j) : i = j := by
  unfold cod at e; omega
theorem share_sum (a : Int) (ws : List Int) (hW : 0 < ws.sum) (h : ws.length ≤ 60) : (share a ws).sum = a := by
  obtain ⟨l, u⟩ := wn_in a ws hW
  have m := many (cod a ws) ws.length (wn a ws).toNat (cod_inj h) (by omega)
  unfold share
  rw [sum_map_add (fun i => pt a ws.sum (ws.getD i 0)), map_range_getD]
  have i := sum_ind (p := fun i => decide (rk (cod a ws) ws.length i < (wn a ws).toNat)) (List.range ws.length)
  simp only [decide_eq_true_eq] at i
  rw [i, m]
  unfold wn at *
  omega
theorem share_len (a : Int) (ws : List Int) : (share a ws).length = ws.length := by unfold share; simp
end K5
set_option Elab.async false
set_option linter.all false
set_option maxRecDepth 100000
set_option maxHeartbeats 4000000
namespace K5
open PySem L2
structure Adr where
  f__wall : Addr
  fd__wall : FuncData
  f_is_whole : Addr
  fd_is_whole : FuncData
  f_is_among : Addr
  fd_is_among : FuncData
  f_rounded : Addr
  fd_rounded : FuncData
  f_are_weights : Addr
  fd_are_weights : FuncData
  f_shared : Addr
  fd_shared : FuncData
  f__law_at : Addr
  fd__law_at : FuncData
  f__law_mixed : Addr
  fd__law_mixed : FuncData
  f__law_whole : Addr
  fd__law_whole : FuncData
  f__law_number : Addr
  fd__law_number : FuncData
  f__law_weights : Addr
  fd__law_weights : FuncData
  f__law_spoilt : Addr
  fd__law_spoilt : FuncData
  f__law_is_good : Addr
  fd__law_is_good : FuncData
  f__law_told : Addr
  fd__law_told : FuncData
  f__law_is_shared : Addr
  fd__law_is_shared : FuncData
  f__law_is_rounded : Addr
  fd__law_is_rounded : FuncData
  f_law : Addr
  fd_law : FuncData
  c_HouseError : Addr
  c_BadCount : Addr
  c_BadAmount : Addr
  c_BadShare : Addr
structure Txt (K : PySem.W.Frag) (mg : Str → Option Value) (a : Adr) : Prop where
  F__wall : Fun K "_wall" "_wall" s__wall a.f__wall a.fd__wall
  m__wall : mg "_wall" = some (.ref a.f__wall)
  F_is_whole : Fun K "is_whole" "is_whole" s_is_whole a.f_is_whole a.fd_is_whole
  m_is_whole : mg "is_whole" = some (.ref a.f_is_whole)
  F_is_among : Fun K "is_among" "is_among" s_is_among a.f_is_among a.fd_is_among
  m_is_among : mg "is_among" = some (.ref a.f_is_among)
  F_rounded : Fun K "rounded" "rounded" s_rounded a.f_rounded a.fd_rounded
  m_rounded : mg "rounded" = some (.ref a.f_rounded)
  F_are_weights : Fun K "are_weights" "are_weights" s_are_weights a.f_are_weights a.fd_are_weights
  m_are_weights : mg "are_weights" = some (.ref a.f_are_weights)
  F_shared : Fun K "shared" "shared" s_shared a.f_shared a.fd_shared
  m_shared : mg "shared" = some (.ref a.f_shared)
  F__law_at : Fun K "_law_at" "_law_at" s__law_at a.f__law_at a.fd__law_at
  m__law_at : mg "_law_at" = some (.ref a.f__law_at)
  F__law_mixed : Fun K "_law_mixed" "_law_mixed" s__law_mixed a.f__law_mixed a.fd__law_mixed
  m__law_mixed : mg "_law_mixed" = some (.ref a.f__law_mixed)
  F__law_whole : Fun K "_law_whole" "_law_whole" s__law_whole a.f__law_whole a.fd__law_whole
  m__law_whole : mg "_law_whole" = some (.ref a.f__law_whole)
  F__law_number : Fun K "_law_number" "_law_number" s__law_number a.f__law_number a.fd__law_number
  m__law_number : mg "_law_number" = some (.ref a.f__law_number)
  F__law_weights : Fun K "_law_weights" "_law_weights" s__law_weights a.f__law_weights a.fd__law_weights
  m__law_weights : mg "_law_weights" = some (.ref a.f__law_weights)
  F__law_spoilt : Fun K "_law_spoilt" "_law_spoilt" s__law_spoilt a.f__law_spoilt a.fd__law_spoilt
  m__law_spoilt : mg "_law_spoilt" = some (.ref a.f__law_spoilt)
  F__law_is_good : Fun K "_law_is_good" "_law_is_good" s__law_is_good a.f__law_is_good a.fd__law_is_good
  m__law_is_good : mg "_law_is_good" = some (.ref a.f__law_is_good)
  F__law_told : Fun K "_law_told" "_law_told" s__law_told a.f__law_told a.fd__law_told
  m__law_told : mg "_law_told" = some (.ref a.f__law_told)
  F__law_is_shared : Fun K "_law_is_shared" "_law_is_shared" s__law_is_shared a.f__law_is_shared a.fd__law_is_shared
  m__law_is_shared : mg "_law_is_shared" = some (.ref a.f__law_is_shared)
  F__law_is_rounded : Fun K "_law_is_rounded" "_law_is_rounded" s__law_is_rounded a.f__law_is_rounded a.fd__law_is_rounded
  m__law_is_rounded : mg "_law_is_rounded" = some (.ref a.f__law_is_rounded)
  F_law : Fun K "law" "law" s_law a.f_law a.fd_law
  m_law : mg "law" = some (.ref a.f_law)
  m_HouseError : mg "HouseError" = some (.ref a.c_HouseError)
  m_BadCount : mg "BadCount" = some (.ref a.c_BadCount)
  m_BadAmount : mg "BadAmount" = some (.ref a.c_BadAmount)
  m_BadShare : mg "BadShare" = some (.ref a.c_BadShare)
  e_BadShare : PySem.W.excIn K a.c_BadShare [.type "ValueError", .type "Exception", .type "BaseException", .type "object"] "ValueError.__new__" = true
  x_BadShare : ExcCls K a.c_BadShare
  t_BadShare_HouseError : PySem.W.exmOne K (.ref a.c_BadShare) (.ref a.c_HouseError) = some true
  s_BadShare_BadAmount : PySem.W.kitOne K (.ref a.c_BadShare) (.ref a.c_BadAmount) = some false
  s_BadShare_BadCount : PySem.W.kitOne K (.ref a.c_BadShare) (.ref a.c_BadCount) = some false
  s_BadShare_BadShare : PySem.W.kitOne K (.ref a.c_BadShare) (.ref a.c_BadShare) = some true
  s_BadShare_ValueError : PySem.W.kitOne K (.ref a.c_BadShare) (.type "ValueError") = some true
  z_ValueError : mg "ValueError" = none
  z_abs : mg "abs" = none
  z_all : mg "all" = none
  z_bool : mg "bool" = none
  z_enumerate : mg "enumerate" = none
  z_int : mg "int" = none
  z_isinstance : mg "isinstance" = none
  z_len : mg "len" = none
  z_list : mg "list" = none
  z_max : mg "max" = none
  z_min : mg "min" = none
  z_range : mg "range" = none
  z_sorted : mg "sorted" = none
  z_str : mg "str" = none
  z_sum : mg "sum" = none
  z_tuple : mg "tuple" = none
theorem bb_ValueError : bootBuiltins "ValueError" = some (.type "ValueError") := by decide +kernel
theorem bb_abs : bootBuiltins "abs" = some (.builtin "abs") := by decide +kernel
theorem bb_all : bootBuiltins "all" = some (.builtin "all") := by decide +kernel
theorem bb_bool : bootBuiltins "bool" = some (.type "bool") := by decide +kernel
theorem bb_int : bootBuiltins "int" = some (.type "int") := by decide +kernel
theorem bb_isinstance : bootBuiltins "isinstance" = some (.builtin "isinstance") := by decide +kernel
theorem bb_len : bootBuiltins "len" = some (.builtin "len") := by decide +kernel
theorem bb_list : bootBuiltins "list" = some (.type "list") := by decide +kernel
theorem bb_max : bootBuiltins "max" = some (.builtin "max") := by decide +kernel
theorem bb_min : bootBuiltins "min" = some (.builtin "min") := by decide +kernel
theorem bb_sorted : bootBuiltins "sorted" = some (.builtin "sorted") := by decide +kernel
theorem bb_str : bootBuiltins "str" = some (.type "str") := by decide +kernel
theorem bb_sum : bootBuiltins "sum" = some (.builtin "sum") := by decide +kernel
theorem bb_tuple : bootBuiltins "tuple" = some (.type "tuple") := by decide +kernel
theorem sc_is_whole : FnScope ["thing"] ["thing"] (defScope s_is_whole) := ⟨rfl, rfl, rfl, by decide +kernel, rfl, by decide +kernel, by decide +kernel⟩
theorem bn_is_whole {K : PySem.W.Frag} {f : Addr} {fd : FuncData} (F : Fun K "is_whole" "is_whole" s_is_whole f fd) : Binds K fd ["thing"] [] := F.binds (ps := ["thing"]) fun _ _ _ _ _ _ us hl => by obtain ⟨_, rfl⟩ := ex1 hl; rfl
theorem sc_is_among : FnScope ["thing", "least", "most"] ["thing", "least", "most"] (defScope s_is_among) := ⟨rfl, rfl, rfl, by decide +kernel, rfl, by decide +kernel, by decide +kernel⟩
theorem bn_is_among {K : PySem.W.Frag} {f : Addr} {fd : FuncData} (F : Fun K "is_among" "is_among" s_is_among f fd) : Binds K fd ["thing", "least", "most"] [] := F.binds (ps := ["thing", "least", "most"]) fun _ _ _ _ _ _ us hl => by obtain ⟨_, _, _, rfl⟩ := ex3 hl; rfl
theorem sc_rounded : FnScope ["number", "by", "down", "twice_rest"] ["number", "by"] (defScope s_rounded) := ⟨rfl, rfl, rfl, by decide +kernel, rfl, by decide +kernel, by decide +kernel⟩
theorem bn_rounded {K : PySem.W.Frag} {f : Addr} {fd : FuncData} (F : Fun K "rounded" "rounded" s_rounded f fd) : Binds K fd ["number", "by"] [] := F.binds (ps := ["number", "by"]) fun _ _ _ _ _ _ us hl => by obtain ⟨_, _, rfl⟩ := ex2 hl; rfl
theorem sc_are_weights : FnScope ["thing"] ["thing"] (defScope s_are_weights) := ⟨rfl, rfl, rfl, by decide +kernel, rfl, by decide +kernel, by decide +kernel⟩
theorem bn_are_weights {K : PySem.W.Frag} {f : Addr} {fd : FuncData} (F : Fun K "are_weights" "are_weights" s_are_weights f fd) : Binds K fd ["thing"] [] := F.binds (ps := ["thing"]) fun _ _ _ _ _ _ us hl => by obtain ⟨_, rfl⟩ := ex1 hl; rfl
theorem sc_shared : FnScope ["amount", "weights", "whole", "parts", "rests", "wanted", "served", "rest", "place"] ["amount", "weights"] (defScope s_shared) := ⟨rfl, rfl, rfl, by decide +kernel, rfl, by decide +kernel, by decide +kernel⟩
theorem bn_shared {K : PySem.W.Frag} {f : Addr} {fd : FuncData} (F : Fun K "shared" "shared" s_shared f fd) : Binds K fd ["amount", "weights"] [] := F.binds (ps := ["amount", "weights"]) fun _ _ _ _ _ _ us hl => by obtain ⟨_, _, rfl⟩ := ex2 hl; rfl
theorem sc__law_at : FnScope ["_law_script", "_law_k"] ["_law_script", "_law_k"] (defScope s__law_at) := ⟨rfl, rfl, rfl, by decide +kernel, rfl, by decide +kernel, by decide +kernel⟩
theorem bn__law_at {K : PySem.W.Frag} {f : Addr} {fd : FuncData} (F : Fun K "_law_at" "_law_at" s__law_at f fd) : Binds K fd ["_law_script", "_law_k"] [] := F.binds (ps := ["_law_script", "_law_k"]) fun _ _ _ _ _ _ us hl => by obtain ⟨_, _, rfl⟩ := ex2 hl; rfl
theorem sc__law_mixed : FnScope ["_law_script", "_law_k"] ["_law_script", "_law_k"] (defScope s__law_mixed) := ⟨rfl, rfl, rfl, by decide +kernel, rfl, by decide +kernel, by decide +kernel⟩
theorem bn__law_mixed {K : PySem.W.Frag} {f : Addr} {fd : FuncData} (F : Fun K "_law_mixed" "_law_mixed" s__law_mixed f fd) : Binds K fd ["_law_script", "_law_k"] [] := F.binds (ps := ["_law_script", "_law_k"]) fun _ _ _ _ _ _ us hl => by obtain ⟨_, _, rfl⟩ := ex2 hl; rfl
theorem sc__law_whole : FnScope ["_law_found"] ["_law_found"] (defScope s__law_whole) := ⟨rfl, rfl, rfl, by decide +kernel, rfl, by decide +kernel, by decide +kernel⟩
theorem bn__law_whole {K : PySem.W.Frag} {f : Addr} {fd : FuncData} (F : Fun K "_law_whole" "_law_whole" s__law_whole f fd) : Binds K fd ["_law_found"] [] := F.binds (ps := ["_law_found"]) fun _ _ _ _ _ _ us hl => by obtain ⟨_, rfl⟩ := ex1 hl; rfl
theorem sc__law_number : FnScope ["_law_script", "_law_cell"] ["_law_script"] (defScope s__law_number) := ⟨rfl, rfl, rfl, by decide +kernel, rfl, by decide +kernel, by decide +kernel⟩
theorem bn__law_number {K : PySem.W.Frag} {f : Addr} {fd : FuncData} (F : Fun K "_law_number" "_law_number" s__law_number f fd) : Binds K fd ["_law_script"] [] := F.binds (ps := ["_law_script"]) fun _ _ _ _ _ _ us hl => by obtain ⟨_, rfl⟩ := ex1 hl; rfl
theorem sc__law_weights : FnScope ["_law_script", "_law_cell", "_law_many", "_law_most", "_law_found", "_law_k", "_law_draw"] ["_law_script"] (defScope s__law_weights) := ⟨rfl, rfl, rfl, by decide +kernel, rfl, by decide +kernel, by decide +kernel⟩
theorem bn__law_weights {K : PySem.W.Frag} {f : Addr} {fd : FuncData} (F : Fun K "_law_weights" "_law_weights" s__law_weights f fd) : Binds K fd ["_law_script"] [] := F.binds (ps := ["_law_script"]) fun _ _ _ _ _ _ us hl => by obtain ⟨_, rfl⟩ := ex1 hl; rfl
theorem sc__law_spoilt : FnScope ["_law_weights_here", "_law_cell", "_law_at_here", "_law_odd", "_law_way"] ["_law_weights_here", "_law_cell"] (defScope s__law_spoilt) := ⟨rfl, rfl, rfl, by decide +kernel, rfl, by decide +kernel, by decide +kernel⟩
theorem bn__law_spoilt {K : PySem.W.Frag} {f : Addr} {fd : FuncData} (F : Fun K "_law_spoilt" "_law_spoilt" s__law_spoilt f fd) : Binds K fd ["_law_weights_here", "_law_cell"] [] := F.binds (ps := ["_law_weights_here", "_law_cell"]) fun _ _ _ _ _ _ us hl => by obtain ⟨_, _, rfl⟩ := ex2 hl; rfl
theorem sc__law_is_good : FnScope ["_law_weights_here", "_law_one"] ["_law_weights_here"] (defScope s__law_is_good) := ⟨rfl, rfl, rfl, by decide +kernel, rfl, by decide +kernel, by decide +kernel⟩
theorem bn__law_is_good {K : PySem.W.Frag} {f : Addr} {fd : FuncData} (F : Fun K "_law_is_good" "_law_is_good" s__law_is_good f fd) : Binds K fd ["_law_weights_here"] [] := F.binds (ps := ["_law_weights_here"]) fun _ _ _ _ _ _ us hl => by obtain ⟨_, rfl⟩ := ex1 hl; rfl
theorem sc__law_told : FnScope ["_law_number_here", "_law_weights_here", "e", "_law_good"] ["_law_number_here", "_law_weights_here"] (defScope s__law_told) := ⟨rfl, rfl, rfl, by decide +kernel, rfl, by decide +kernel, by decide +kernel⟩
theorem bn__law_told {K : PySem.W.Frag} {f : Addr} {fd : FuncData} (F : Fun K "_law_told" "_law_told" s__law_told f fd) : Binds K fd ["_law_number_here", "_law_weights_here"] [] := F.binds (ps := ["_law_number_here", "_law_weights_here"]) fun _ _ _ _ _ _ us hl => by obtain ⟨_, _, rfl⟩ := ex2 hl; rfl
theorem sc__law_is_shared : FnScope ["_law_found", "_law_number_here", "_law_weights_here", "_law_whole_here", "_law_more", "_law_less", "_law_k", "_law_rest"] ["_law_found", "_law_number_here", "_law_weights_here"] (defScope s__law_is_shared) := ⟨rfl, rfl, rfl, by decide +kernel, rfl, by decide +kernel, by decide +kernel⟩
theorem bn__law_is_shared {K : PySem.W.Frag} {f : Addr} {fd : FuncData} (F : Fun K "_law_is_shared" "_law_is_shared" s__law_is_shared f fd) : Binds K fd ["_law_found", "_law_number_here", "_law_weights_here"] [] := F.binds (ps := ["_law_found", "_law_number_here", "_law_weights_here"]) fun _ _ _ _ _ _ us hl => by obtain ⟨_, _, _, rfl⟩ := ex3 hl; rfl
theorem sc__law_is_rounded : FnScope ["_law_number_here", "_law_by", "_law_found", "_law_off"] ["_law_number_here", "_law_by"] (defScope s__law_is_rounded) := ⟨rfl, rfl, rfl, by decide +kernel, rfl, by decide +kernel, by decide +kernel⟩
theorem bn__law_is_rounded {K : PySem.W.Frag} {f : Addr} {fd : FuncData} (F : Fun K "_law_is_rounded" "_law_is_rounded" s__law_is_rounded f fd) : Binds K fd ["_law_number_here", "_law_by"] [] := F.binds (ps := ["_law_number_here", "_law_by"]) fun _ _ _ _ _ _ us hl => by obtain ⟨_, _, rfl⟩ := ex2 hl; rfl
theorem sc_law : FnScope ["_law_script", "_law_number_here", "_law_by", "_law_weights_here", "_law_is_list", "_law_handed", "_law_found", "_law_kept"] ["_law_script"] (defScope s_law) := ⟨rfl, rfl, rfl, by decide +kernel, rfl, by decide +kernel, by decide +kernel⟩
end K5
set_option Elab.async false
set_option linter.all false
set_option maxRecDepth 100000
set_option maxHeartbeats 4000000
namespace K5
open PySem L2
seal L2.PE L2.PT L2.PW L2.PA L2.PS L2.PSs L2.PI L2.PG L2.PGs L2.PO
section
variable {pS : Addr} {ns : List Int} {P : Program} {w : World} {K : PySem.W.Frag} {mg : Str → Option Value} {base : Heap} {a : Adr}
def sp_is_whole : Sp := sp1 fun x H Q _ => NoT H ∧ asK H x fun _ => Q (.bl (isI x)) H
theorem ok_is_whole (T : Txt K mg a) : FnOk P w K mg base (XE P w) 1 a.f_is_whole a.fd_is_whole ["thing"] sp_is_whole := by
  refine T.F_is_whole.okG sc_is_whole (fun vs H Q E h => sp1.len h) (fun cdv A outer s H vs Q E hr h => ?_)
  obtain ⟨x0, rfl, h⟩ := sp1.inv h
  have ND := sc_is_whole.nd
  have PX : Passes' (XE P w) (cxOf (XE P w) P w K mg base ["thing"] "is_whole" (defScope s_is_whole) a.f_is_whole cdv A outer s H (gcE H E)) (fun _ => (gcE H E)) := passB
  have RX : Raises (cxOf (XE P w) P w K mg base ["thing"] "is_whole" (defScope s_is_whole) a.f_is_whole cdv A outer s H (gcE H E)) (fun _ => (gcE H E)) := raisesB
  have HU : (cxOf (XE P w) P w K mg base ["thing"] "is_whole" (defScope s_is_whole) a.f_is_whole cdv A outer s H (gcE H E)).A.units + 100 < cLine := units100 hr
  obtain ⟨hN, h1⟩ := h
  obtain ⟨t, ht, hb, k⟩ := asK.inv h1
  refine ⟨hN, _, (pss_one (ps_ret (fe_and (pe_callB (fc_isiK K) rfl T.z_isinstance bb_isinstance (FA.pa (fa_cons (fv 0) (fa_cons (pe_bltn (v := .ty "int") rfl T.z_int bb_int rfl) fa_nil)))) (pe_one (fe_not (pe_callB (fc_isiK K) rfl T.z_isinstance bb_isinstance (FA.pa (fa_cons (fv 0) (fa_cons (pe_bltn (v := .ty "bool") rfl T.z_bool bb_bool rfl) fa_nil))))))))), ?_⟩
  simp only [rdAll, rdI, V.int.injEq, V.ref.injEq, eqQ_int, eqQ_bl, eqQ_str, eqQ_ref, eqQ_nn, eqQ_ni, eqQ_in, eqQ_is, eqQ_si, L2.start, List.map_cons, List.map_nil, List.cons_append, List.nil_append, List.append_nil, List.length_cons, List.length_nil, List.replicate, List.getElem?_cons_zero, List.getElem?_cons_succ, List.set_cons_zero, List.set_cons_succ, Nat.reduceSub, Nat.reduceAdd, Int.reduceLT, Int.reduceLE, Int.reducePow, Int.reduceNeg, Nat.reducePow, List.cons.injEq, exists_eq_left', exists_eq_left, eq_self, if_false, if_true, ↓reduceIte, ite_not, forall_const, Option.join, Option.bind_some, id_eq]
  simp only [ht]
  rw [← kind_int ht] at k
  rcases hb with rfl | rfl | rfl | rfl | rfl | rfl | rfl
  all_goals first
    | exact iteT k
    | exact iteF k
theorem ok__law_whole (T : Txt K mg a) : FnOk P w K mg base (XE P w) 1 a.f__law_whole a.fd__law_whole ["_law_found"] sp_is_whole := by
  refine T.F__law_whole.okG sc__law_whole (fun vs H Q E h => sp1.len h) (fun cdv A outer s H vs Q E hr h => ?_)
  obtain ⟨x0, rfl, h⟩ := sp1.inv h
  have ND := sc__law_whole.nd
  have PX : Passes' (XE P w) (cxOf (XE P w) P w K mg base ["_law_found"] "_law_whole" (defScope s__law_whole) a.f__law_whole cdv A outer s H (gcE H E)) (fun _ => (gcE H E)) := passB
  have RX : Raises (cxOf (XE P w) P w K mg base ["_law_found"] "_law_whole" (defScope s__law_whole) a.f__law_whole cdv A outer s H (gcE H E)) (fun _ => (gcE H E)) := raisesB
  have HU : (cxOf (XE P w) P w K mg base ["_law_found"] "_law_whole" (defScope s__law_whole) a.f__law_whole cdv A outer s H (gcE H E)).A.units + 100 < cLine := units100 hr
  obtain ⟨hN, h1⟩ := h
  obtain ⟨t, ht, hb, k⟩ := asK.inv h1
  refine ⟨hN, _, (pss_one (ps_ret (fe_and (pe_callB (fc_isiK K) rfl T.z_isinstance bb_isinstance (FA.pa (fa_cons (fv 0) (fa_cons (pe_bltn (v := .ty "int") rfl T.z_int bb_int rfl) fa_nil)))) (pe_one (fe_not (pe_callB (fc_isiK K) rfl T.z_isinstance bb_isinstance (FA.pa (fa_cons (fv 0) (fa_cons (pe_bltn (v := .ty "bool") rfl T.z_bool bb_bool rfl) fa_nil))))))))), ?_⟩
  simp only [rdAll, rdI, V.int.injEq, V.ref.injEq, eqQ_int, eqQ_bl, eqQ_str, eqQ_ref, eqQ_nn, eqQ_ni, eqQ_in, eqQ_is, eqQ_si, L2.start, List.map_cons, List.map_nil, List.cons_append, List.nil_append, List.append_nil, List.length_cons, List.length_nil, List.replicate, List.getElem?_cons_zero, List.getElem?_cons_succ, List.set_cons_zero, List.set_cons_succ, Nat.reduceSub, Nat.reduceAdd, Int.reduceLT, Int.reduceLE, Int.reducePow, Int.reduceNeg, Nat.reducePow, List.cons.injEq, exists_eq_left', exists_eq_left, eq_self, if_false, if_true, ↓reduceIte, ite_not, forall_const, Option.join, Option.bind_some, id_eq]
  simp only [ht]
  rw [← kind_int ht] at k
  rcases hb with rfl | rfl | rfl | rfl | rfl | rfl | rfl
  all_goals first
    | exact iteT k
    | exact iteF k
def amg (x : V) (lo hi : Int) : Bool := match x with
  | .int i => decide (lo ≤ i) && decide (i ≤ hi)
  | _ => false
theorem amg_not {x : V} {lo hi : Int} (h : isI x = false) : amg x lo hi = false := by
  unfold amg
  split
  · cases h
  · rfl
def sp_is_among : Sp := sp3 fun x y z H Q _ => NoT H ∧ asI y fun lo => asI z fun hi => asK H x fun _ => Q (.bl (amg x lo hi)) H
theorem ok_is_among (T : Txt K mg a) : FnOk P w K mg base (XE P w) 2 a.f_is_among a.fd_is_among ["thing", "least", "most"] sp_is_among := by
  refine T.F_is_among.okG sc_is_among (fun vs H Q E h => sp3.len h) (fun cdv A outer s H vs Q E hr h => ?_)
  obtain ⟨x0, x1, x2, rfl, h⟩ := sp3.inv h
  have ND := sc_is_among.nd
  have PX : Passes' (XE P w) (cxOf (XE P w) P w K mg base ["thing", "least", "most"] "is_among" (defScope s_is_among) a.f_is_among cdv A outer s H (gcE H E)) (fun _ => (gcE H E)) := passB
  have RX : Raises (cxOf (XE P w) P w K mg base ["thing", "least", "most"] "is_among" (defScope s_is_among) a.f_is_among cdv A outer s H (gcE H E)) (fun _ => (gcE H E)) := raisesB
  have HU : (cxOf (XE P w) P w K mg base ["thing", "least", "most"] "is_among" (defScope s_is_among) a.f_is_among cdv A outer s H (gcE H E)).A.units + 100 < cLine := units100 hr
  obtain ⟨hN, h1⟩ := h
  obtain ⟨lo, rfl, h2⟩ := asI.inv h1
  obtain ⟨hi, rfl, h3⟩ := asI.inv h2
  obtain ⟨t, ht, hb, k⟩ := asK.inv h3
  have G_is_whole := ok_is_whole (P := P) (w := w) (base := base) T
  have b_is_whole := bn_is_whole T.F_is_whole
  refine ⟨hN, _, (pss_one (ps_ret (fe_and (pe_callX G_is_whole (hr.mono (by decide)) rfl T.m_is_whole T.F_is_whole.kp b_is_whole .nil PX (FA.pa (fa_cons (fv 0) fa_nil))) (pe_one (fe_chain fo_le fo_le (fv 1) (fv 0) (fv 2)))))), ?_⟩
  ((try dsimp only [sp_is_whole]); try simp only [rdAll, rdI, V.int.injEq, V.ref.injEq, eqQ_int, eqQ_bl, eqQ_str, eqQ_ref, eqQ_nn, eqQ_ni, eqQ_in, eqQ_is, eqQ_si, L2.start, List.map_cons, List.map_nil, List.cons_append, List.nil_append, List.append_nil, List.length_cons, List.length_nil, List.replicate, List.getElem?_cons_zero, List.getElem?_cons_succ, List.set_cons_zero, List.set_cons_succ, Nat.reduceSub, Nat.reduceAdd, Int.reduceLT, Int.reduceLE, Int.reducePow, Int.reduceNeg, Nat.reducePow, List.cons.injEq, exists_eq_left', exists_eq_left, eq_self, if_false, if_true, ↓reduceIte, ite_not, forall_const, Option.join, Option.bind_some, id_eq])
  refine ⟨hN, asK.of ht ?_⟩
  cases e : isI x0 with
  | false =>
    rw [amg_not e] at k
    exact iteF k
  | true =>
    cases x0 with
    | int i =>
      refine iteT ?_
      ((try dsimp only [sp_is_whole]); try simp only [rdAll, rdI, V.int.injEq, V.ref.injEq, eqQ_int, eqQ_bl, eqQ_str, eqQ_ref, eqQ_nn, eqQ_ni, eqQ_in, eqQ_is, eqQ_si, L2.start, List.map_cons, List.map_nil, List.cons_append, List.nil_append, List.append_nil, List.length_cons, List.length_nil, List.replicate, List.getElem?_cons_zero, List.getElem?_cons_succ, List.set_cons_zero, List.set_cons_succ, Nat.reduceSub, Nat.reduceAdd, Int.reduceLT, Int.reduceLE, Int.reducePow, Int.reduceNeg, Nat.reducePow, List.cons.injEq, exists_eq_left', exists_eq_left, eq_self, if_false, if_true, ↓reduceIte, ite_not, forall_const, Option.join, Option.bind_some, id_eq])
      split
      · rename_i h1
        have e : amg (.int i) lo hi = decide (i ≤ hi) := by simp [amg, h1]
        rw [e] at k; exact k
      · rename_i h1
        have e : amg (.int i) lo hi = false := by simp [amg, h1]
        rw [e] at k; exact k
    | _ => cases e
def rnd (n b : Int) : Int := if 2 * (n - n / b * b) > b ∨ (2 * (n - n / b * b) = b ∧ n / b % 2 = 1) then n / b + 1 else n / b
theorem log_lt {b : Int} (h0 : 0 < b) (h : b < 10 ^ 60) : b.natAbs.log2 < 1000 := by
  have h1 : b.natAbs ≠ 0 := by omega
  refine (Nat.log2_lt h1).mpr (Nat.lt_of_lt_of_le (show b.natAbs < 10 ^ 60 by omega) (by decide))
def sp_rounded : Sp := sp2 fun x y H Q _ => NoT H ∧ asI x fun n => asI y fun b => (0 < b ∧ b < 10 ^ 60 ∧ ((-18446744073709551616 < n / b ∧ n / b < 18446744073709551616) ∨ b < 18446744073709551616)) ∧ Q (.int (rnd n b)) H
theorem ok_rounded (T : Txt K mg a) : FnOk P w K mg base (XE P w) 1 a.f_rounded a.fd_rounded ["number", "by"] sp_rounded := by
  refine T.F_rounded.okG sc_rounded (fun vs H Q E h => sp2.len h) (fun cdv A outer s H vs Q E hr h => ?_)
  obtain ⟨x0, x1, rfl, h⟩ := sp2.inv h
  have ND := sc_rounded.nd
  have PX : Passes' (XE P w) (cxOf (XE P w) P w K mg base ["number", "by", "down", "twice_rest"] "rounded" (defScope s_rounded) a.f_rounded cdv A outer s H (gcE H E)) (fun _ => (gcE H E)) := passB
  have RX : Raises (cxOf (XE P w) P w K mg base ["number", "by", "down", "twice_rest"] "rounded" (defScope s_rounded) a.f_rounded cdv A outer s H (gcE H E)) (fun _ => (gcE H E)) := raisesB
  have HU : (cxOf (XE P w) P w K mg base ["number", "by", "down", "twice_rest"] "rounded" (defScope s_rounded) a.f_rounded cdv A outer s H (gcE H E)).A.units + 100 < cLine := units100 hr
  obtain ⟨hN, h1⟩ := h
  obtain ⟨n, rfl, h2⟩ := asI.inv h1
  obtain ⟨b, rfl, ⟨b0, b1, b2⟩, k⟩ := asI.inv h2
  refine ⟨hN, _, (pss_cons (ps_set (i := 2) ND rfl (Or.inl rfl) (pe_op fo_fdivB (fv 0) (fv 1)))
      (pss_cons (ps_set (i := 3) ND rfl (Or.inl rfl) (pe_op fo_mul pe_int (pe_op fo_sub (fv 0) (pe_op fo_mul (fv 2) (fv 1)))))
      (pss_cons (ps_if (L2.PW.pt (pw_or (ft_cmp fo_gt (fv 3) (fv 1) (nomark _)) (pw_or1 (L2.PW.pt (pw_and (ft_cmp (fo_eqQ K HU) (fv 3) (fv 1) (nomark _)) (pw_and1 (ft_cmp (fo_eqQ K HU) (pe_op fo_mod (fv 2) pe_int) pe_int (nomark _)))))))) (pss_one (ps_ret (pe_op fo_add (fv 2) pe_int))) pss_nil)
      (pss_one (ps_ret (fv 2)))))), ?_⟩
  ((try dsimp only [sp_is_whole, sp_is_among]); try simp only [rdAll, rdI, V.int.injEq, V.ref.injEq, eqQ_int, eqQ_bl, eqQ_str, eqQ_ref, eqQ_nn, eqQ_ni, eqQ_in, eqQ_is, eqQ_si, L2.start, List.map_cons, List.map_nil, List.cons_append, List.nil_append, List.append_nil, List.length_cons, List.length_nil, List.replicate, List.getElem?_cons_zero, List.getElem?_cons_succ, List.set_cons_zero, List.set_cons_succ, Nat.reduceSub, Nat.reduceAdd, Int.reduceLT, Int.reduceLE, Int.reducePow, Int.reduceNeg, Nat.reducePow, List.cons.injEq, exists_eq_left', exists_eq_left, eq_self, if_false, if_true, ↓reduceIte, ite_not, forall_const, Option.join, Option.bind_some, id_eq])
  unfold rnd at k
  refine ⟨⟨b0, log_lt b0 b1⟩, ?_, ?_⟩
  · rcases b2 with b2 | b2
    · exact .inl b2
    · exact .inr ⟨by omega, b2⟩
  split
  · rename_i c
    rw [if_pos (.inl c)] at k; exact k
  · rename_i c
    split
    · rename_i c2
      split
      · rename_i c3
        rw [if_pos (.inr ⟨c2, c3⟩)] at k; exact k
      · rename_i c3
        rw [if_neg (fun z => z.elim c fun z => c3 z.2)] at k; exact k
    · rename_i c2
      rw [if_neg (fun z => z.elim c fun z => c2 z.1)] at k; exact k
def wOk (xs : List V) : Bool := decide (1 ≤ xs.length) && decide (xs.length ≤ 60) && xs.all (fun x => amg x 0 1000000000) && decide (0 < (xs.map fun x => match x with | .int i => i | _ => 0).sum)
def sp_weights : Sp := sp1 fun x H Q _ => NoT H ∧ ((∃ p xs, x = .ref p ∧ H p = some (.lst xs) ∧ xs.length ≤ 4000 ∧ (∀ y ∈ xs, ∃ t, kindV H y = some t) ∧ Q (.bl (wOk xs)) H) ∨ (∃ t, kindV H x = some t ∧ isiT t "list" = false ∧ Q (.bl false) H))
theorem kind_same {H H2 : Hp} {y : V} {t : String} (s : Same H H2) (h : kindV H y = some t) : kindV H2 y = some t := by
  unfold kindV at h ⊢
  cases y with
  | ref p =>
    cases e : H p with
    | none => simp [e] at h
    | some o => simp only [s _ _ e]; simp only [e] at h; exact h
  | _ => exact h
theorem amg_int {xs : List V} (h : xs.all (fun x => amg x 0 1000000000) = true) : ∃ ws : List Int, xs = ws.map V.int ∧ ∀ w ∈ ws, 0 ≤ w ∧ w ≤ 1000000000 := by
  induction xs with
  | nil => exact ⟨[], rfl, by simp⟩
  | cons x xs ih =>
    rw [List.all_cons, Bool.and_eq_true] at h
    obtain ⟨ws, e, b⟩ := ih h.2
    have h1 := h.1
    unfold amg at h1
    split at h1
    · rename_i i
      simp at h1
      refine ⟨i :: ws, by rw [e]; rfl, fun w m => ?_⟩
      rcases List.mem_cons.mp m with rfl | m
      · exact h1
      · exact b w m
    · cases h1
theorem sum_int (ws : List Int) : ((ws.map V.int).map fun x => match x with | .int i => i | _ => 0).sum = ws.sum := by
  rw [List.map_map]
  congr 1
  exact List.map_id' ws
theorem ok_are_weights (T : Txt K mg a) : FnOk P w K mg base (XE P w) 3 a.f_are_weights a.fd_are_weights ["thing"] sp_weights := by
  refine T.F_are_weights.okG sc_are_weights (fun vs H Q E h => sp1.len h) (fun cdv A outer s H vs Q E hr h => ?_)
  obtain ⟨x0, rfl, h⟩ := sp1.inv h
  have ND := sc_are_weights.nd
  have PX : Passes' (XE P w) (cxOf (XE P w) P w K mg base ["thing"] "are_weights" (defScope s_are_weights) a.f_are_weights cdv A outer s H (gcE H E)) (fun _ => (gcE H E)) := passB
  have RX : Raises (cxOf (XE P w) P w K mg base ["thing"] "are_weights" (defScope s_are_weights) a.f_are_weights cdv A outer s H (gcE H E)) (fun _ => (gcE H E)) := raisesB
  have HU : (cxOf (XE P w) P w K mg base ["thing"] "are_weights" (defScope s_are_weights) a.f_are_weights cdv A outer s H (gcE H E)).A.units + 100 < cLine := units100 hr
  obtain ⟨hN, h1⟩ := h
  have G_is_among := ok_is_among (P := P) (w := w) (base := base) T
  have b_is_among := bn_is_among T.F_is_among
  refine ⟨hN, _, (pss_cons (ps_if (L2.PW.pt (pw_or (pt_not (ft_val (pe_callB (fc_isiK K) rfl T.z_isinstance bb_isinstance (FA.pa (fa_cons (fv 0) (fa_cons (pe_bltn (v := .ty "list") rfl T.z_list bb_list rfl) fa_nil)))))) (pw_or1 (pt_not (ft_chain fo_le fo_le pe_int (pe_callB (fc_lenK K) rfl T.z_len bb_len (FA.pa (fa_cons (fv 0) fa_nil))) pe_int))))) (pss_one (ps_ret pe_bl)) pss_nil)
      (pss_one (ps_ret (fe_and (pe_callB (fc_allK K rfl) rfl T.z_all bb_all (FA.pa (fa_cons (pe_comp rfl (cl := _) (fr := []) (ks := []) (by exact ⟨rfl, by decide +kernel, rfl, by decide +kernel, rfl, keys_of rfl, rfl, kinds_of rfl, kinds_of (k := fun y => List.lookup y _) rfl, only_of rfl⟩) rfl (by decide) (fi_listK K (fv 0)) (fun _ _ _ _ _ => pts_nil) (fun _ _ _ _ _ => (pe_callX G_is_among (hr.mono (by decide)) rfl T.m_is_among T.F_is_among.kp b_is_among .nil passF (FA.pa (fa_cons (fv 0) (fa_cons pe_int (fa_cons (pe_op fo_pow pe_int pe_int) fa_nil))))))) fa_nil))) (pe_one (pe_cmpR fo_gt (pe_callB (fc_sumA K rfl) rfl T.z_sum bb_sum (FA.pa (fa_cons (fv 0) fa_nil))) pe_int (nomark _))))))), ?_⟩
  ((try dsimp only [sp_is_whole, sp_is_among, sp_rounded]); try simp only [rdAll, rdI, V.int.injEq, V.ref.injEq, eqQ_int, eqQ_bl, eqQ_str, eqQ_ref, eqQ_nn, eqQ_ni, eqQ_in, eqQ_is, eqQ_si, L2.start, List.map_cons, List.map_nil, List.cons_append, List.nil_append, List.append_nil, List.length_cons, List.length_nil, List.replicate, List.getElem?_cons_zero, List.getElem?_cons_succ, List.set_cons_zero, List.set_cons_succ, Nat.reduceSub, Nat.reduceAdd, Int.reduceLT, Int.reduceLE, Int.reducePow, Int.reduceNeg, Nat.reducePow, List.cons.injEq, exists_eq_left', exists_eq_left, eq_self, if_false, if_true, ↓reduceIte, ite_not, forall_const, Option.join, Option.bind_some, id_eq])
  rcases h1 with ⟨p, xs, rfl, hp, hz, hk, k⟩ | ⟨t, ht, hl, k⟩
  · have ht : kindV H (.ref p) = some "list" := by simp [kindV, hp]
    simp only [ht]
    rw [if_neg (by decide)]
    refine ⟨xs, .inl (.inl (.inl hp)), ?_⟩
    have sz : xs.length ≤ sizeLine := Nat.le_trans hz (by rw [sizeLine_eq]; decide)
    ((try dsimp only [sp_is_whole, sp_is_among, sp_rounded]); try simp only [rdAll, rdI, V.int.injEq, V.ref.injEq, eqQ_int, eqQ_bl, eqQ_str, eqQ_ref, eqQ_nn, eqQ_ni, eqQ_in, eqQ_is, eqQ_si, L2.start, List.map_cons, List.map_nil, List.cons_append, List.nil_append, List.append_nil, List.length_cons, List.length_nil, List.replicate, List.getElem?_cons_zero, List.getElem?_cons_succ, List.set_cons_zero, List.set_cons_succ, Nat.reduceSub, Nat.reduceAdd, Int.reduceLT, Int.reduceLE, Int.reducePow, Int.reduceNeg, Nat.reducePow, List.cons.injEq, exists_eq_left', exists_eq_left, eq_self, if_false, if_true, ↓reduceIte, ite_not, forall_const, Option.join, Option.bind_some, id_eq])
    have no : (decide (1 ≤ xs.length) && decide (xs.length ≤ 60)) = false → Q (.bl false) H := fun z => by unfold wOk at k; rw [z] at k; exact k
    split
    · rename_i c1
      split
      · rename_i c2
        refine comp_lst p xs (fun H2 => Same H H2 ∧ NoT H2) (fun D ys hD => ⟨same_upd _ hD, noT_upd hN rfl⟩) (fun H2 c => .inl (.inl (c.1 _ _ hp))) (fun _ => true) (fun x => .bl (amg x 0 1000000000)) (fun R r => r) (.inl (.inl hp)) sz (fun x _ H2 R _ r => r) (fun x hx _ H2 R c r => ?_) (fun D hD => ?_)
        · ((try dsimp only [sp_is_whole, sp_is_among, sp_rounded]); try simp only [rdAll, rdI, V.int.injEq, V.ref.injEq, eqQ_int, eqQ_bl, eqQ_str, eqQ_ref, eqQ_nn, eqQ_ni, eqQ_in, eqQ_is, eqQ_si, L2.start, List.map_cons, List.map_nil, List.cons_append, List.nil_append, List.append_nil, List.length_cons, List.length_nil, List.replicate, List.getElem?_cons_zero, List.getElem?_cons_succ, List.set_cons_zero, List.set_cons_succ, Nat.reduceSub, Nat.reduceAdd, Int.reduceLT, Int.reduceLE, Int.reducePow, Int.reduceNeg, Nat.reducePow, List.cons.injEq, exists_eq_left', exists_eq_left, eq_self, if_false, if_true, ↓reduceIte, ite_not, forall_const, Option.join, Option.bind_some, id_eq])
          obtain ⟨t, ht⟩ := hk x hx
          exact ⟨by decide, c.2, asK.of (kind_same c.1 ht) r⟩
        · rw [List.filter_eq_self.mpr (fun _ _ => rfl)]
          refine ⟨xs.map fun x => amg x 0 1000000000, .inl (.inl (by rw [upd_same, List.map_map]; rfl)), ?_⟩
          have sm := same_upd (.lst (xs.map fun x => V.bl (amg x 0 1000000000))) hD
          have el : (decide (1 ≤ xs.length) && decide (xs.length ≤ 60)) = true := by simp; omega
          ((try dsimp only [sp_is_whole, sp_is_among, sp_rounded]); try simp only [rdAll, rdI, V.int.injEq, V.ref.injEq, eqQ_int, eqQ_bl, eqQ_str, eqQ_ref, eqQ_nn, eqQ_ni, eqQ_in, eqQ_is, eqQ_si, L2.start, List.map_cons, List.map_nil, List.cons_append, List.nil_append, List.append_nil, List.length_cons, List.length_nil, List.replicate, List.getElem?_cons_zero, List.getElem?_cons_succ, List.set_cons_zero, List.set_cons_succ, Nat.reduceSub, Nat.reduceAdd, Int.reduceLT, Int.reduceLE, Int.reducePow, Int.reduceNeg, Nat.reducePow, List.cons.injEq, exists_eq_left', exists_eq_left, eq_self, if_false, if_true, ↓reduceIte, ite_not, forall_const, Option.join, Option.bind_some, id_eq])
          unfold wOk at k
          rw [el, Bool.true_and] at k
          rw [show ((xs.map fun x => amg x 0 1000000000).all id) = xs.all (fun x => amg x 0 1000000000) by rw [List.all_map]; rfl]
          split
          · rename_i c3
            rw [c3, Bool.true_and] at k
            obtain ⟨ws, rfl, _⟩ := amg_int c3
            rw [sum_int] at k
            exact ⟨ws, .inl (.inl (.inl (sm _ _ hp))), H, Gc.none sm, k⟩
          · rename_i c3
            rw [Bool.eq_false_iff.mpr c3, Bool.false_and] at k
            exact ⟨H, Gc.none sm, k⟩
      · rename_i c2
        exact no (by simp; omega)
    · rename_i c1
      exact no (by simp; omega)
  · simp only [ht, hl]
    exact k
end
end K5
set_option Elab.async false
set_option linter.all false
set_option maxRecDepth 100000
set_option maxHeartbeats 4000000
namespace K5
open PySem L2
seal L2.PE L2.PT L2.PW L2.PA L2.PS L2.PSs L2.PI L2.PG L2.PGs L2.PO
section
variable {pS : Addr} {ns : List Int} {P : Program} {w : World} {K : PySem.W.Frag} {mg : Str → Option Value} {base : Heap} {a : Adr}
theorem comp_prs {K : PySem.W.Frag} {b : Addr} {rs : List Int} {σ : St} {H H1 : Hp} {Q : VK} {ta : TA} (hl : ∀ R : List V → Hp → Prop, R [.ref b] H1 → ta σ H R) (hb : H1 b = some (.lst (rs.map V.int))) (hz : rs.length ≤ 60)
    (q : ∀ D H' (ps : List Pr), H1 D = none → (∀ c o, H1 c = some o → H' c = some o) → H' D = some (.lst (ps.map fun e => .ref e.1)) → (∀ e ∈ ps, H' e.1 = some (.tup [.int e.2.1, .int e.2.2])) →
      ps.map (·.2) = rs.zipIdx.map (fun z => (-z.1, (z.2 : Int))) → Q (.ref D) H') :
    tCompT (iEnum K ta) 2 (gTup K 2 (gCons (gName 0) (gCons (gName 1) gNil))) [] (fun _ H Q => Q true H) (tTup (tCons (tUn gNeg (fVar 1)) (tCons (fVar 0) tNil))) σ H Q := by
  refine hl _ ⟨b, rfl, ⟨_, .inl (.inl hb)⟩, fun D hD => ⟨fun i m ys H2 => i ≤ rs.length ∧ m = rs.length - i ∧ H2 D = some (.lst ys) ∧ (∀ c o, H1 c = some o → H2 c = some o) ∧
    ∃ ps : List Pr, ys = ps.map (fun e => .ref e.1) ∧ ps.length = i ∧ (∀ e ∈ ps, H2 e.1 = some (.tup [.int e.2.1, .int e.2.2])) ∧ ps.map (·.2) = (rs.zipIdx.take i).map (fun z => (-z.1, (z.2 : Int))), ⟨_, Nat.zero_le _, rfl, upd_same, fun c o e => (upd_ne (fun z => by rw [z, hD] at e; cases e)).trans e, [], rfl, rfl, (fun _ m => nomatch m), rfl⟩, ?_⟩⟩
  rintro i m ys H2 ⟨hi, rfl, hD2, kp, ps, rfl, hp, ht, hv⟩
  refine ⟨hD2, ?_⟩
  have hb2 := kp _ _ hb
  by_cases lt : i < rs.length
  · refine .inr ⟨⟨_, .int rs[i], .inl (.inl hb2), by simp [lt]⟩, fun x H3 hy zs hzs => ?_⟩
    obtain ⟨p, y, p0, rfl, rfl, hy⟩ := hy
    have ey : y = .int rs[i] := by
      have := hy _ (.inl (.inl hb2))
      simp [lt] at this
      exact this.symm
    subst ey
    refine ⟨p, _, rfl, .inl (.inl upd_same), rfl, ?_⟩
    match zs, hzs with
    | [z0, z1], _ =>
      refine ⟨_, _, rfl, _, _, rfl, rfl, ⟨[some (.int i), some (.int rs[i])], rfl, rfl⟩, ?_⟩
      dsimp only
      rw [if_pos rfl]
      ((try dsimp only [sp_is_whole, sp_is_among, sp_rounded, sp_weights]); try simp only [rdAll, rdI, V.int.injEq, V.ref.injEq, eqQ_int, eqQ_bl, eqQ_str, eqQ_ref, eqQ_nn, eqQ_ni, eqQ_in, eqQ_is, eqQ_si, L2.start, List.map_cons, List.map_nil, List.cons_append, List.nil_append, List.append_nil, List.length_cons, List.length_nil, List.replicate, List.getElem?_cons_zero, List.getElem?_cons_succ, List.set_cons_zero, List.set_cons_succ, Nat.reduceSub, Nat.reduceAdd, Int.reduceLT, Int.reduceLE, Int.reducePow, Int.reduceNeg, Nat.reducePow, List.cons.injEq, exists_eq_left', exists_eq_left, eq_self, if_false, if_true, ↓reduceIte, ite_not, forall_const, Option.join, Option.bind_some, id_eq])
      refine ⟨by rw [sizeLine_eq]; decide, fun p2 hp2 => ?_⟩
      have n1 : D ≠ p := fun z => by rw [← z, hD2] at p0; cases p0
      have n2 : p2 ≠ p := fun z => by rw [z, upd_same] at hp2; cases hp2
      rw [upd_ne n2] at hp2
      have n3 : D ≠ p2 := fun z => by rw [← z, hD2] at hp2; cases hp2
      have at2 : ∀ c o, H2 c = some o → upd (upd H2 p (.tup [.int i, .int rs[i]])) p2 (.tup [.int (-rs[i]), .int i]) c = some o := fun c o e => by
        rw [upd_ne (fun z => by rw [z, hp2] at e; cases e), upd_ne (fun z => by rw [z, p0] at e; cases e)]; exact e
      refine ⟨at2 _ _ hD2, by rw [List.length_map, sizeLine_eq]; omega, rs.length - (i + 1), by omega, by omega, rfl, upd_same, fun c o e => ?_, ps ++ [((p2, -rs[i], (i : Int)) : Pr)], by simp, by simp [hp], fun e m => ?_, ?_⟩
      · rw [upd_ne (fun z => by rw [z, hD] at e; cases e)]
        exact at2 c o (kp c o e)
      · rcases List.mem_append.mp m with m | m
        · have h := ht e m
          rw [upd_ne (fun z => by rw [z, hD2] at h; cases h)]
          exact at2 _ _ h
        · rw [List.mem_singleton.mp m, upd_ne (Ne.symm n3)]
          exact upd_same
      · rw [List.map_append, hv, List.take_succ, List.map_append]
        congr 1
        simp [lt]
  · have e : i = rs.length := by omega
    subst e
    refine .inl ⟨⟨_, .inl (.inl hb2), by simp⟩, q D H2 ps hD kp hD2 ht ?_⟩
    rw [hv, List.take_of_length_le (by simp)]
def prI : V → Int
  | .int i => i
  | _ => 0
theorem map_int (g : Int → Int) (ws : List Int) : ((ws.map V.int).filter fun _ => true).map (fun x => V.int (g (prI x))) = (ws.map g).map V.int := by
  rw [List.filter_eq_self.mpr (fun _ _ => rfl), List.map_map, List.map_map]
  rfl
theorem wOk_inv {xs : List V} (h : wOk xs = true) : ∃ ws : List Int, xs = ws.map V.int ∧ (∀ w ∈ ws, 0 ≤ w ∧ w ≤ 1000000000) ∧ 1 ≤ ws.length ∧ ws.length ≤ 60 ∧ 0 < ws.sum := by
  unfold wOk at h
  simp only [Bool.and_eq_true, decide_eq_true_eq] at h
  obtain ⟨⟨⟨h1, h2⟩, h3⟩, h4⟩ := h
  obtain ⟨ws, rfl, b⟩ := amg_int h3
  rw [sum_int] at h4
  rw [List.length_map] at h1 h2
  exact ⟨ws, rfl, b, h1, h2, h4⟩
theorem sum_le : ∀ {ws : List Int}, (∀ w ∈ ws, 0 ≤ w ∧ w ≤ 1000000000) → ws.sum ≤ 1000000000 * ws.length
  | [], _ => by simp
  | w :: ws, h => by
    have := sum_le (ws := ws) fun z m => h z (List.mem_cons_of_mem _ m)
    have := (h w (List.mem_cons_self ..)).2
    rw [List.sum_cons, List.length_cons]; omega
theorem cut_take (xs : List V) {i : Int} (h : 0 ≤ i) : cutV xs none (some i) = xs.take i.toNat := by
  unfold cutV
  have e : i = ((i.toNat : Nat) : Int) := by omega
  rw [e, HT.sIx_none, HT.sIx_nat, List.drop_zero, Nat.sub_zero]
  by_cases hl : i.toNat ≤ xs.length
  · rw [Nat.min_eq_left hl]; rfl
  · rw [Nat.min_eq_right (by omega), List.take_of_length_le (by omega), List.take_of_length_le (by simp; omega)]
def pl (e : Pr) : Nat := e.2.2.toNat
structure PsOk (am : Int) (ws : List Int) (ps : List Pr) : Prop where
  val : ∀ e ∈ ps, e.2 = (-rs am ws.sum (ws.getD (pl e) 0), (pl e : Int)) ∧ pl e < ws.length
  pls : ps.map pl = List.range ws.length
theorem psOk_of {am : Int} {ws : List Int} {ps : List Pr} (h : ps.map (·.2) = (ws.map (rs am ws.sum)).zipIdx.map (fun z => (-z.1, (z.2 : Int)))) : PsOk am ws ps := by
  have len : ps.length = ws.length := by have := congrArg List.length h; simpa using this
  have at_ : ∀ i (h1 : i < ps.length) (h2 : i < ws.length), ps[i].2 = (-rs am ws.sum ws[i], (i : Int)) := fun i h1 h2 => by
    have := congrArg (fun l => l[i]?) h
    simp [h1, h2] at this
    rw [this]
  constructor
  · intro e m
    obtain ⟨i, hi, rfl⟩ := List.getElem_of_mem m
    have h2 : i < ws.length := by omega
    have e1 := at_ i hi h2
    have e2 : pl ps[i] = i := by unfold pl; rw [e1]; simp
    rw [e2, e1]
    exact ⟨by simp [h2], h2⟩
  · apply List.ext_getElem
    · simp [len]
    · intro i h1 h2
      have h1' : i < ps.length := by simpa using h1
      simp
      unfold pl; rw [at_ i h1' (by omega)]; simp
theorem PsOk.cod {am : Int} {ws : List Int} {ps : List Pr} (h : PsOk am ws ps) {e : Pr} (m : e ∈ ps) : L2.cod e = K5.cod am ws (pl e) := by
  have := (h.val e m).1
  show e.2.1 * 64 + e.2.2 = _
  rw [this]; rfl
theorem PsOk.nodup {am : Int} {ws : List Int} {ps : List Pr} (h : PsOk am ws ps) (h60 : ws.length ≤ 60) : (ps.map L2.cod).Nodup := by
  have e : ps.map L2.cod = (List.range ws.length).map (K5.cod am ws) := by
    rw [← h.pls, List.map_map]
    exact List.map_congr_left fun e m => h.cod m
  rw [e]
  exact List.pairwise_map.mpr ((List.Pairwise.and_mem.mp List.nodup_range).imp fun ⟨ma, mb, ne⟩ z => ne (cod_inj h60 _ _ (List.mem_range.mp ma) (List.mem_range.mp mb) z))
def F (am : Int) (ws : List Int) (sv : List Nat) : List Int := (List.range ws.length).map fun j => pt am ws.sum (ws.getD j 0) + if j ∈ sv then 1 else 0
theorem F_nil (am : Int) (ws : List Int) : F am ws [] = ws.map (pt am ws.sum) := by
  unfold F
  simp only [List.not_mem_nil, if_false, Int.add_zero]
  exact map_range_getD _ ws
theorem F_len (am : Int) (ws : List Int) (sv : List Nat) : (F am ws sv).length = ws.length := by unfold F; simp
theorem F_at {am : Int} {ws : List Int} {sv : List Nat} {j : Nat} (h : j < ws.length) (h2 : j ∉ sv) : (F am ws sv)[j]? = some (pt am ws.sum (ws.getD j 0)) := by
  unfold F; simp [h, h2]
theorem F_set {am : Int} {ws : List Int} {sv : List Nat} {j : Nat} (h : j < ws.length) (h2 : j ∉ sv) : (F am ws sv).set j (pt am ws.sum (ws.getD j 0) + 1) = F am ws (sv ++ [j]) := by
  apply List.ext_getElem
  · simp [F_len]
  · intro i h1 h3
    have hi : i < ws.length := by simpa [F_len] using h1
    rw [List.getElem_set]
    unfold F
    by_cases e : j = i
    · subst e; simp
    · simp [e, Ne.symm e]
def sp_shared (c : Addr) : Sp := sp2 fun x y H Q E => NoT H ∧ asI x fun am => (-(10 : Int) ^ 31 < am ∧ am < 10 ^ 31) ∧ ((∃ p xs, y = .ref p ∧ H p = some (.lst xs) ∧ xs.length ≤ 4000 ∧ (∀ z ∈ xs, ∃ t, kindV H z = some t) ∧
    (if wOk xs = true then ∀ ws, xs = ws.map V.int → ∀ q, H q = none → Q (.ref q) (upd H q (.lst ((share am ws).map V.int))) else E (.ref c) none H)) ∨ (∃ t, kindV H y = some t ∧ isiT t "list" = false ∧ E (.ref c) none H))
theorem ok_shared (T : Txt K mg a) : FnOk P w K mg base (XE P w) 4 a.f_shared a.fd_shared ["amount", "weights"] (sp_shared a.c_BadShare) := by
  refine T.F_shared.okG sc_shared (fun vs H Q E h => sp2.len h) (fun cdv A outer s H vs Q E hr h => ?_)
  obtain ⟨x0, x1, rfl, h⟩ := sp2.inv h
  have ND := sc_shared.nd
  have PX : Passes' (XE P w) (cxOf (XE P w) P w K mg base ["amount", "weights", "whole", "parts", "rests", "wanted", "served", "rest", "place"] "shared" (defScope s_shared) a.f_shared cdv A outer s H (gcE H E)) (fun _ => (gcE H E)) := passB
  have RX : Raises (cxOf (XE P w) P w K mg base ["amount", "weights", "whole", "parts", "rests", "wanted", "served", "rest", "place"] "shared" (defScope s_shared) a.f_shared cdv A outer s H (gcE H E)) (fun _ => (gcE H E)) := raisesB
  have HU : (cxOf (XE P w) P w K mg base ["amount", "weights", "whole", "parts", "rests", "wanted", "served", "rest", "place"] "shared" (defScope s_shared) a.f_shared cdv A outer s H (gcE H E)).A.units + 100 < cLine := units100 hr
  have PW : PassesOwn (model P w) (cxOf (XE P w) P w K mg base ["amount", "weights", "whole", "parts", "rests", "wanted", "served", "rest", "place"] "shared" (defScope s_shared) a.f_shared cdv A outer s H (gcE H E)).A (cxOf (XE P w) P w K mg base ["amount", "weights", "whole", "parts", "rests", "wanted", "served", "rest", "place"] "shared" (defScope s_shared) a.f_shared cdv A outer s H (gcE H E)).env (cxOf (XE P w) P w K mg base ["amount", "weights", "whole", "parts", "rests", "wanted", "served", "rest", "place"] "shared" (defScope s_shared) a.f_shared cdv A outer s H (gcE H E)).xe := by passes_own
  obtain ⟨hN, h1⟩ := h
  obtain ⟨am, rfl, ⟨am0, am1⟩, h2⟩ := asI.inv h1
  have one : 1 ≤ sizeLine := by rw [sizeLine_eq]; decide
  have G_are_weights := ok_are_weights (P := P) (w := w) (base := base) T
  have b_are_weights := bn_are_weights T.F_are_weights
  refine ⟨hN, _, (pss_cons (ps_if (pt_not (ft_val (pe_callX G_are_weights (hr.mono (by decide)) rfl T.m_are_weights T.F_are_weights.kp b_are_weights .nil PX (FA.pa (fa_cons (fv 1) fa_nil))))) (pss_one (ps_raise T.e_BadShare PySem.F.excBase_ValueError rfl rfl T.m_BadShare RX (FA.pa (fa_cons (pe_strT [116, 104, 101, 115, 101, 32, 97, 114, 101, 32, 110, 111, 32, 119, 101, 105, 103, 104, 116, 115]) fa_nil)))) pss_nil)
      (pss_cons (ps_set (i := 2) ND rfl (Or.inr rfl) (pe_callB (fc_sumA K rfl) rfl T.z_sum bb_sum (FA.pa (fa_cons (fv 1) fa_nil))))
      (pss_cons (ps_setC (i0 := 3) ND rfl (Or.inl rfl) rfl (cl := _) (fr := ["whole", "amount"]) (ks := [2, 0]) (by exact ⟨rfl, by decide +kernel, rfl, by decide +kernel, rfl, keys_of rfl, rfl, kinds_of rfl, kinds_of (k := fun y => List.lookup y _) rfl, only_of rfl⟩) rfl (by decide) (fi_listK K (fv 1)) (fun _ _ _ _ _ => pts_nil) (fun _ _ _ _ _ => (pe_op fo_fdivB (pe_op fo_mul (fv 2) (fv 0)) (fv 1))))
      (pss_cons (ps_setC (i0 := 4) ND rfl (Or.inl rfl) rfl (cl := _) (fr := ["whole", "amount"]) (ks := [2, 0]) (by exact ⟨rfl, by decide +kernel, rfl, by decide +kernel, rfl, keys_of rfl, rfl, kinds_of rfl, kinds_of (k := fun y => List.lookup y _) rfl, only_of rfl⟩) rfl (by decide) (fi_listK K (fv 1)) (fun _ _ _ _ _ => pts_nil) (fun _ _ _ _ _ => (pe_op fo_mod (pe_op fo_mul (fv 2) (fv 0)) (fv 1))))
      (pss_cons (ps_set (i := 5) ND rfl (Or.inl rfl) (pe_op fo_sub (fv 0) (pe_callB (fc_sumA K rfl) rfl T.z_sum bb_sum (FA.pa (fa_cons (fv 3) fa_nil)))))
      (pss_cons (ps_set (i := 6) ND rfl (Or.inl rfl) (pe_slice (fs_listK K) (pe_callB (fc_sortP K) rfl T.z_sorted bb_sorted (FA.pa (fa_cons (pe_compT rfl (cl := _) (x := "place") (xs := ["place", "rest"]) (fr := []) (ks := []) (by exact ⟨rfl, by decide +kernel, rfl, by decide +kernel, rfl, keys_of rfl, rfl, kinds_of rfl, kinds_of (k := fun y => List.lookup y _) rfl, only_of rfl⟩) rfl (pi_enum K rfl T.z_enumerate (FA.pa (fa_cons (fv 4) fa_nil))) (fun _ _ _ _ _ => (fg_tupK K (n := 2) rfl (pgs_cons (pg_name (i := 0) (nd_of (l := ["place", "rest"]) (by decide)) rfl (Or.inl rfl)) (pgs_cons (pg_name (i := 1) (nd_of (l := ["place", "rest"]) (by decide)) rfl (Or.inl rfl)) pgs_nil)))) (fun _ _ _ _ _ => pts_nil) (fun _ _ _ _ _ => (pe_tup (FA.pa (fa_cons (pe_un fu_neg (fv 1)) (fa_cons (fv 0) fa_nil)))))) fa_nil))) po_none (po_some (fv 5))))
      (pss_cons (ps_for PW rfl (fi_listK K (fv 6)) (fg_tupK K (n := 2) rfl (pgs_cons (pg_name (i := 7) ND rfl (Or.inl rfl)) (pgs_cons (pg_name (i := 8) ND rfl (Or.inl rfl)) pgs_nil))) (pss_one (ps_asg (pe_op fo_add (pe_ix (fx_seqK K) (fv 3) (fv 8) (fun _ _ => rfl)) pe_int) (pg_sub (fv 3) (fv 8) set_list))))
      (pss_one (ps_ret (fv 3)))))))))), ?_⟩
  ((try dsimp only [sp_is_whole, sp_is_among, sp_rounded, sp_weights]); try simp only [rdAll, rdI, V.int.injEq, V.ref.injEq, eqQ_int, eqQ_bl, eqQ_str, eqQ_ref, eqQ_nn, eqQ_ni, eqQ_in, eqQ_is, eqQ_si, L2.start, List.map_cons, List.map_nil, List.cons_append, List.nil_append, List.append_nil, List.length_cons, List.length_nil, List.replicate, List.getElem?_cons_zero, List.getElem?_cons_succ, List.set_cons_zero, List.set_cons_succ, Nat.reduceSub, Nat.reduceAdd, Int.reduceLT, Int.reduceLE, Int.reducePow, Int.reduceNeg, Nat.reducePow, List.cons.injEq, exists_eq_left', exists_eq_left, eq_self, if_false, if_true, ↓reduceIte, ite_not, forall_const, Option.join, Option.bind_some, id_eq])
  rcases h2 with ⟨p, xs, rfl, hp, hz, hk, k⟩ | ⟨t, ht, hl, k⟩
  · refine ⟨hN, .inl ⟨p, xs, rfl, hp, hz, hk, ?_⟩⟩
    split
    · rename_i c
      rw [if_neg (by rw [c]; decide)] at k
      exact ⟨one, k⟩
    · rename_i c
      have c : wOk xs = true := by simpa using c
      rw [if_pos c] at k
      obtain ⟨ws, rfl, wb, w1, w60, wS⟩ := wOk_inv c
      replace k := k ws rfl
      have wL := sum_le wb
      have sz : (ws.map V.int).length ≤ sizeLine := by rw [List.length_map, sizeLine_eq]; omega
      refine ⟨ws, .inl (.inl (.inl hp)), ?_⟩
      refine comp_lst p (ws.map V.int) (fun H2 => Same H H2) (fun D ys hD => same_upd _ hD) (fun H2 c => .inl (.inl (c _ _ hp))) (fun _ => true) (fun x => .int (pt am ws.sum (prI x))) (fun R r => r) (.inl (.inl hp)) sz (fun x _ H2 R _ r => r) (fun x hx _ H2 R c r => ?_) (fun D1 hD1 => ?_)
      · obtain ⟨w, mw, rfl⟩ := List.mem_map.mp hx
        have := wb w mw
        ((try dsimp only [sp_is_whole, sp_is_among, sp_rounded, sp_weights]); try simp only [rdAll, rdI, V.int.injEq, V.ref.injEq, eqQ_int, eqQ_bl, eqQ_str, eqQ_ref, eqQ_nn, eqQ_ni, eqQ_in, eqQ_is, eqQ_si, L2.start, List.map_cons, List.map_nil, List.cons_append, List.nil_append, List.append_nil, List.length_cons, List.length_nil, List.replicate, List.getElem?_cons_zero, List.getElem?_cons_succ, List.set_cons_zero, List.set_cons_succ, Nat.reduceSub, Nat.reduceAdd, Int.reduceLT, Int.reduceLE, Int.reducePow, Int.reduceNeg, Nat.reducePow, List.cons.injEq, exists_eq_left', exists_eq_left, eq_self, if_false, if_true, ↓reduceIte, ite_not, forall_const, Option.join, Option.bind_some, id_eq])
        exact ⟨.inr ⟨by omega, by omega⟩, ⟨wS, log_lt wS (by omega)⟩, r⟩
      rw [map_int (pt am ws.sum)]
      have s1 := same_upd (.lst ((ws.map (pt am ws.sum)).map V.int)) hD1
      have e1 : upd H D1 (.lst ((ws.map (pt am ws.sum)).map V.int)) D1 = some (.lst ((ws.map (pt am ws.sum)).map V.int)) := upd_same
      generalize upd H D1 (.lst ((ws.map (pt am ws.sum)).map V.int)) = H1 at s1 e1
      refine comp_lst p (ws.map V.int) (fun H2 => Same H1 H2) (fun D ys hD => same_upd _ hD) (fun H2 c => .inl (.inl (c _ _ (s1 _ _ hp)))) (fun _ => true) (fun x => .int (rs am ws.sum (prI x))) (fun R r => r) (.inl (.inl (s1 _ _ hp))) sz (fun x _ H2 R _ r => r) (fun x hx _ H2 R c r => ?_) (fun D2 hD2 => ?_)
      · obtain ⟨w, mw, rfl⟩ := List.mem_map.mp hx
        have := wb w mw
        ((try dsimp only [sp_is_whole, sp_is_among, sp_rounded, sp_weights]); try simp only [rdAll, rdI, V.int.injEq, V.ref.injEq, eqQ_int, eqQ_bl, eqQ_str, eqQ_ref, eqQ_nn, eqQ_ni, eqQ_in, eqQ_is, eqQ_si, L2.start, List.map_cons, List.map_nil, List.cons_append, List.nil_append, List.append_nil, List.length_cons, List.length_nil, List.replicate, List.getElem?_cons_zero, List.getElem?_cons_succ, List.set_cons_zero, List.set_cons_succ, Nat.reduceSub, Nat.reduceAdd, Int.reduceLT, Int.reduceLE, Int.reducePow, Int.reduceNeg, Nat.reducePow, List.cons.injEq, exists_eq_left', exists_eq_left, eq_self, if_false, if_true, ↓reduceIte, ite_not, forall_const, Option.join, Option.bind_some, id_eq])
        exact ⟨.inr ⟨by omega, by omega⟩, wS, r⟩
      rw [map_int (rs am ws.sum)]
      have s2 := same_upd (.lst ((ws.map (rs am ws.sum)).map V.int)) hD2
      have e2 : upd H1 D2 (.lst ((ws.map (rs am ws.sum)).map V.int)) D2 = some (.lst ((ws.map (rs am ws.sum)).map V.int)) := upd_same
      generalize upd H1 D2 (.lst ((ws.map (rs am ws.sum)).map V.int)) = H2 at s2 e2
      refine ⟨_, .inl (.inl (.inl (s2 _ _ e1))), ?_⟩
      ((try dsimp only [sp_is_whole, sp_is_among, sp_rounded, sp_weights]); try simp only [rdAll, rdI, V.int.injEq, V.ref.injEq, eqQ_int, eqQ_bl, eqQ_str, eqQ_ref, eqQ_nn, eqQ_ni, eqQ_in, eqQ_is, eqQ_si, L2.start, List.map_cons, List.map_nil, List.cons_append, List.nil_append, List.append_nil, List.length_cons, List.length_nil, List.replicate, List.getElem?_cons_zero, List.getElem?_cons_succ, List.set_cons_zero, List.set_cons_succ, Nat.reduceSub, Nat.reduceAdd, Int.reduceLT, Int.reduceLE, Int.reducePow, Int.reduceNeg, Nat.reducePow, List.cons.injEq, exists_eq_left', exists_eq_left, eq_self, if_false, if_true, ↓reduceIte, ite_not, forall_const, Option.join, Option.bind_some, id_eq])
      refine comp_prs (rs := ws.map (rs am ws.sum)) (fun R r => r) e2 (by rw [List.length_map]; exact w60) (fun D3 H3 ps hD3 s3 e3 tp vp => ?_)
      have po := psOk_of vp
      have same : Same H H3 := fun c o e => s3 _ _ (s2 _ _ (s1 _ _ e))
      have eD1 := s3 _ _ (s2 _ _ e1)
      have lps : ps.length = ws.length := by have := congrArg List.length po.pls; simpa using this
      obtain ⟨n0, n1⟩ := wn_in am ws wS
      refine ⟨ps, .inl (.inl e3), fun e m => .inl (.inl (tp e m)), by omega, fun e m => ?_, po.nodup w60, fun out pm sr L hL => ?_⟩
      · have := po.val e m
        rw [this.1]; constructor
        · show (0 : Int) ≤ (pl e : Nat); omega
        · show ((pl e : Nat) : Int) < 64; omega
      have lo : out.length = ws.length := by rw [pm.length_eq, lps]
      have pp : (out.map pl).Perm (List.range ws.length) := by rw [← po.pls]; exact pm.map pl
      have ps' : (out.map pl).Pairwise fun i j => K5.cod am ws i < K5.cod am ws j := List.pairwise_map.mpr ((List.Pairwise.and_mem.mp sr).imp fun ⟨ma, mb, z⟩ => by
        rw [po.cod (pm.mem_iff.mp ma), po.cod (pm.mem_iff.mp mb)] at z; exact z)
      have nd : (out.map pl).Nodup := pp.nodup_iff.mpr List.nodup_range
      have s4 := same_upd (.lst (out.map fun e => V.ref e.1)) hL
      have e4 : upd H3 L (.lst (out.map fun e => V.ref e.1)) L = some (.lst (out.map fun e => V.ref e.1)) := upd_same
      generalize upd H3 L (.lst (out.map fun e => V.ref e.1)) = H4 at s4 e4
      dsimp only
      refine ⟨L, _, rfl, .inl (.inl e4), fun L2 hL2 => ?_⟩
      have nL : L2 ≠ D1 := fun z => by rw [z, s4 _ _ eD1] at hL2; cases hL2
      rw [cut_take _ (show 0 ≤ am - (ws.map (pt am ws.sum)).sum from n0)]
      rw [← List.map_take]
      have s5 := same_upd (.lst ((out.take (am - (ws.map (pt am ws.sum)).sum).toNat).map fun e => V.ref e.1)) hL2
      have e5 : upd H4 L2 (.lst ((out.take (am - (ws.map (pt am ws.sum)).sum).toNat).map fun e => V.ref e.1)) L2 = some (.lst ((out.take (am - (ws.map (pt am ws.sum)).sum).toNat).map fun e => V.ref e.1)) := upd_same
      generalize upd H4 L2 (.lst ((out.take (am - (ws.map (pt am ws.sum)).sum).toNat).map fun e => V.ref e.1)) = H5 at s5 e5
      have fin : F am ws ((out.map pl).take (wn am ws).toNat) = share am ws := by
        unfold F share
        refine List.map_congr_left fun j mj => ?_
        simp only [served pp ps' (List.mem_range.mp mj)]
      rw [← List.map_take] at fin
      have sub : ∀ e ∈ out.take (wn am ws).toNat, e ∈ ps := fun e m => pm.mem_iff.mp (List.mem_of_mem_take m)
      have nd2 : ((out.take (wn am ws).toNat).map pl).Nodup := by rw [List.map_take]; exact nd.sublist (List.take_sublist _ _)
      have t5 : ∀ e ∈ out.take (wn am ws).toNat, H5 e.1 = some (.tup [.int e.2.1, .int e.2.2]) := fun e m => s5 _ _ (s4 _ _ (tp e (sub e m)))
      have eD5 : H5 D1 = some (.lst ((F am ws []).map V.int)) := by rw [F_nil]; exact s5 _ _ (s4 _ _ eD1)
      have same5 : Same H H5 := fun c o e => s5 _ _ (s4 _ _ (same _ _ e))
      change H5 L2 = some (.lst ((out.take (wn am ws).toNat).map fun e => V.ref e.1)) at e5
      generalize out.take (wn am ws).toNat = S at fin sub nd2 t5 e5
      clear pp ps' nd s4 e4 s5 lo
      refine for_lstC (xs := S.map fun e => V.ref e.1) (.inl (.inl e5)) ⟨fun i m σ' H' => i ≤ S.length ∧ m = S.length - i ∧ (∃ y7 y8, σ' = [some (V.int am), some (V.ref p), some (V.int ws.sum), some (V.ref D1), some (V.ref D2), some (V.int (am - (ws.map (pt am ws.sum)).sum)), some (V.ref L2), y7, y8]) ∧
        H' D1 = some (.lst ((F am ws ((S.take i).map pl)).map V.int)) ∧ ∀ b, b ≠ D1 → H' b = H5 b, ⟨_, Nat.zero_le _, rfl, ⟨_, _, rfl⟩, eD5, fun _ _ => rfl⟩, ?_⟩
      rintro i m σ' H' ⟨hi, rfl, ⟨y7, y8, rfl⟩, hF, hO⟩
      by_cases lt : i < S.length
      · have mS : S[i] ∈ S := List.getElem_mem lt
        have hv := po.val _ (sub _ mS)
        have tS := t5 _ mS
        have nS : S[i].1 ≠ D1 := fun z => by rw [z, eD5] at tS; cases tS
        rw [hv.1] at tS
        have hl2 : H' L2 = some (.lst (S.map fun e => V.ref e.1)) := (hO _ nL).trans e5
        have tk : S.take (i + 1) = S.take i ++ [S[i]] := by rw [List.take_succ, List.getElem?_eq_getElem lt]; rfl
        have nm : pl S[i] ∉ (S.take i).map pl := fun z => by
          have q : (S.take (i + 1)).map pl = (S.take i).map pl ++ [pl S[i]] := by rw [tk, List.map_append]; rfl
          have q2 : ((S.take (i + 1)).map pl).Nodup := by rw [List.map_take]; exact nd2.sublist (List.take_sublist _ _)
          rw [q] at q2
          exact (List.nodup_append.mp q2).2.2 _ z _ (List.mem_singleton.mpr rfl) rfl
        refine .inr ⟨⟨_, .ref S[i].1, .inl (.inl hl2), by simp [lt]⟩, fun σ2 H2' => (∃ y7 y8, σ2 = [some (V.int am), some (V.ref p), some (V.int ws.sum), some (V.ref D1), some (V.ref D2), some (V.int (am - (ws.map (pt am ws.sum)).sum)), some (V.ref L2), y7, y8]) ∧
          H2' D1 = some (.lst ((F am ws ((S.take (i + 1)).map pl)).map V.int)) ∧ ∀ b, b ≠ D1 → H2' b = H5 b, fun σ2 H2' q => ⟨S.length - (i + 1), by omega, by omega, rfl, q⟩, fun x H2' hy => ?_⟩
        obtain ⟨rfl, hy⟩ := hy
        have ex : x = .ref S[i].1 := by
          have := hy _ (.inl (.inl hl2))
          simp [lt] at this
          exact this.symm
        subst ex
        refine ⟨_, _, rfl, .inl (.inl ((hO _ nS).trans tS)), rfl, _, _, rfl, _, _, rfl, rfl, ?_⟩
        ((try dsimp only [sp_is_whole, sp_is_among, sp_rounded, sp_weights]); try simp only [rdAll, rdI, V.int.injEq, V.ref.injEq, eqQ_int, eqQ_bl, eqQ_str, eqQ_ref, eqQ_nn, eqQ_ni, eqQ_in, eqQ_is, eqQ_si, L2.start, List.map_cons, List.map_nil, List.cons_append, List.nil_append, List.append_nil, List.length_cons, List.length_nil, List.replicate, List.getElem?_cons_zero, List.getElem?_cons_succ, List.set_cons_zero, List.set_cons_succ, Nat.reduceSub, Nat.reduceAdd, Int.reduceLT, Int.reduceLE, Int.reducePow, Int.reduceNeg, Nat.reducePow, List.cons.injEq, exists_eq_left', exists_eq_left, eq_self, if_false, if_true, ↓reduceIte, ite_not, forall_const, Option.join, Option.bind_some, id_eq])
        have lF : ((F am ws ((S.take i).map pl)).map V.int).length = ws.length := by rw [List.length_map, F_len]
        refine ⟨_, _, .inl (.inl (.inl hF)), atI_nat (by rw [List.getElem?_map, F_at hv.2 nm]; rfl), ?_⟩
        show rSetL (.ref D1) (.int (pl S[i] : Nat)) (.int (pt am ws.sum (ws.getD (pl S[i]) 0) + 1)) _ _
        refine ⟨D1, _, _, pl S[i], rfl, rfl, hF, ?_, ⟨_, _, rfl⟩, ?_, fun b hb => ?_⟩
        · rw [lF]; unfold ixN
          rw [if_pos (by omega), if_pos (by have := hv.2; omega)]; rfl
        · rw [upd_same, tk, List.map_append, ← List.map_set, F_set hv.2 nm]; rfl
        · rw [upd_ne hb]; exact hO b hb
      · have e : i = S.length := by omega
        subst e
        rw [List.take_of_length_le (Nat.le_refl _), fin] at hF
        refine .inl ⟨⟨_, .inl (.inl ((hO _ nL).trans e5)), by simp⟩, ?_⟩
        ((try dsimp only [sp_is_whole, sp_is_among, sp_rounded, sp_weights]); try simp only [rdAll, rdI, V.int.injEq, V.ref.injEq, eqQ_int, eqQ_bl, eqQ_str, eqQ_ref, eqQ_nn, eqQ_ni, eqQ_in, eqQ_is, eqQ_si, L2.start, List.map_cons, List.map_nil, List.cons_append, List.nil_append, List.append_nil, List.length_cons, List.length_nil, List.replicate, List.getElem?_cons_zero, List.getElem?_cons_succ, List.set_cons_zero, List.set_cons_succ, Nat.reduceSub, Nat.reduceAdd, Int.reduceLT, Int.reduceLE, Int.reducePow, Int.reduceNeg, Nat.reducePow, List.cons.injEq, exists_eq_left', exists_eq_left, eq_self, if_false, if_true, ↓reduceIte, ite_not, forall_const, Option.join, Option.bind_some, id_eq])
        have sm : Same H H' := fun c o q => (hO c (fun z => by rw [z, hD1] at q; cases q)).trans (same5 _ _ q)
        exact ⟨_, Gc.one sm hD1 hF rfl, k D1 hD1⟩
  · exact ⟨hN, .inr ⟨t, ht, hl, one, k⟩⟩
end
end K5
set_option Elab.async false
set_option linter.all false
set_option maxRecDepth 100000
set_option maxHeartbeats 4000000
namespace K5
open PySem L2
seal L2.PE L2.PT L2.PW L2.PA L2.PS L2.PSs L2.PI L2.PG L2.PGs L2.PO
section
variable {pS : Addr} {ns : List Int} {P : Program} {w : World} {K : PySem.W.Frag} {mg : Str → Option Value} {base : Heap} {a : Adr}
def sp_at (K : PySem.W.Frag) (p0 : Addr) (ns : List Int) : Sp := sp2 fun x y H Q _ => asR x fun p => asI y fun k => NoT H ∧ p0 = p ∧ SqL K H p0 (ns.map V.int) ∧ 0 ≤ k ∧ Q (.int (ns.getD k.toNat 0)) H
theorem ok__law_at (T : Txt K mg a) : FnOk P w K mg base (XE P w) 1 a.f__law_at a.fd__law_at ["_law_script", "_law_k"] (sp_at K pS ns) := by
  refine T.F__law_at.okG sc__law_at (fun vs H Q E h => sp2.len h) (fun cdv A outer s H vs Q E hr h => ?_)
  obtain ⟨x0, x1, rfl, h⟩ := sp2.inv h
  have ND := sc__law_at.nd
  have PX : Passes' (XE P w) (cxOf (XE P w) P w K mg base ["_law_script", "_law_k"] "_law_at" (defScope s__law_at) a.f__law_at cdv A outer s H (gcE H E)) (fun _ => (gcE H E)) := passB
  have RX : Raises (cxOf (XE P w) P w K mg base ["_law_script", "_law_k"] "_law_at" (defScope s__law_at) a.f__law_at cdv A outer s H (gcE H E)) (fun _ => (gcE H E)) := raisesB
  have HU : (cxOf (XE P w) P w K mg base ["_law_script", "_law_k"] "_law_at" (defScope s__law_at) a.f__law_at cdv A outer s H (gcE H E)).A.units + 100 < cLine := units100 hr
  obtain ⟨p, rfl, h1⟩ := asR.inv h
  obtain ⟨k, rfl, hN, rfl, hS, k0, q⟩ := asI.inv h1
  refine ⟨hN, _, (pss_cons (ps_if (ft_cmp fo_lt (fv 1) (pe_callB (fc_lenK K) rfl T.z_len bb_len (FA.pa (fa_cons (fv 0) fa_nil))) (nomark _)) (pss_one (ps_ret (pe_ix (fx_seqK K) (fv 0) (fv 1) (fun _ _ => rfl)))) pss_nil)
      (pss_one (ps_ret pe_int))), ?_⟩
  ((try dsimp only [sp_is_whole, sp_is_among, sp_rounded, sp_weights, sp_shared]); try simp only [rdAll, rdI, V.int.injEq, V.ref.injEq, eqQ_int, eqQ_bl, eqQ_str, eqQ_ref, eqQ_nn, eqQ_ni, eqQ_in, eqQ_is, eqQ_si, L2.start, List.map_cons, List.map_nil, List.cons_append, List.nil_append, List.append_nil, List.length_cons, List.length_nil, List.replicate, List.getElem?_cons_zero, List.getElem?_cons_succ, List.set_cons_zero, List.set_cons_succ, Nat.reduceSub, Nat.reduceAdd, Int.reduceLT, Int.reduceLE, Int.reducePow, Int.reduceNeg, Nat.reducePow, List.cons.injEq, exists_eq_left', exists_eq_left, eq_self, if_false, if_true, ↓reduceIte, ite_not, forall_const, Option.join, Option.bind_some, id_eq])
  refine ⟨ns.map V.int, .inl hS, ?_⟩
  rw [List.length_map]
  split
  · rename_i h2
    exact ⟨_, _, .inl hS, at_get k0 h2, q⟩
  · rename_i h2
    have g : ns.getD k.toNat 0 = 0 := by
      have l : ns.length ≤ k.toNat := by omega
      simp [List.getD, l]
    rw [g] at q
    exact q
def MX (ns : List Int) (k : Int) : Int := (ns.getD k.toNat 0 * 48271 + 7919 * k) % 2147483647
theorem MX_nn (ns : List Int) (k : Int) : 0 ≤ MX ns k := Int.emod_nonneg _ (by decide)
def sp_mixed (K : PySem.W.Frag) (p0 : Addr) (ns : List Int) : Sp := sp2 fun x y H Q _ => asR x fun p => asI y fun k => NoT H ∧ p0 = p ∧ SqL K H p0 (ns.map V.int) ∧ 0 ≤ k ∧ Q (.int (MX ns k)) H
theorem ok__law_mixed (T : Txt K mg a) : FnOk P w K mg base (XE P w) 2 a.f__law_mixed a.fd__law_mixed ["_law_script", "_law_k"] (sp_mixed K pS ns) := by
  refine T.F__law_mixed.okG sc__law_mixed (fun vs H Q E h => sp2.len h) (fun cdv A outer s H vs Q E hr h => ?_)
  obtain ⟨x0, x1, rfl, h⟩ := sp2.inv h
  have ND := sc__law_mixed.nd
  have PX : Passes' (XE P w) (cxOf (XE P w) P w K mg base ["_law_script", "_law_k"] "_law_mixed" (defScope s__law_mixed) a.f__law_mixed cdv A outer s H (gcE H E)) (fun _ => (gcE H E)) := passB
  have RX : Raises (cxOf (XE P w) P w K mg base ["_law_script", "_law_k"] "_law_mixed" (defScope s__law_mixed) a.f__law_mixed cdv A outer s H (gcE H E)) (fun _ => (gcE H E)) := raisesB
  have HU : (cxOf (XE P w) P w K mg base ["_law_script", "_law_k"] "_law_mixed" (defScope s__law_mixed) a.f__law_mixed cdv A outer s H (gcE H E)).A.units + 100 < cLine := units100 hr
  obtain ⟨p, rfl, h1⟩ := asR.inv h
  obtain ⟨k, rfl, hN, rfl, hS, k0, q⟩ := asI.inv h1
  have G__law_at := ok__law_at (P := P) (w := w) (base := base) T (pS := pS) (ns := ns)
  have b__law_at := bn__law_at T.F__law_at
  refine ⟨hN, _, (pss_one (ps_ret (pe_op fo_mod (pe_op fo_add (pe_op fo_mul (pe_callX G__law_at (hr.mono (by decide)) rfl T.m__law_at T.F__law_at.kp b__law_at .nil PX (FA.pa (fa_cons (fv 0) (fa_cons (fv 1) fa_nil)))) pe_int) (pe_op fo_mul pe_int (fv 1))) pe_int))), ?_⟩
  ((try dsimp only [sp_is_whole, sp_is_among, sp_rounded, sp_weights, sp_shared, sp_at]); try simp only [rdAll, rdI, V.int.injEq, V.ref.injEq, eqQ_int, eqQ_bl, eqQ_str, eqQ_ref, eqQ_nn, eqQ_ni, eqQ_in, eqQ_is, eqQ_si, L2.start, List.map_cons, List.map_nil, List.cons_append, List.nil_append, List.append_nil, List.length_cons, List.length_nil, List.replicate, List.getElem?_cons_zero, List.getElem?_cons_succ, List.set_cons_zero, List.set_cons_succ, Nat.reduceSub, Nat.reduceAdd, Int.reduceLT, Int.reduceLE, Int.reducePow, Int.reduceNeg, Nat.reducePow, List.cons.injEq, exists_eq_left', exists_eq_left, eq_self, if_false, if_true, ↓reduceIte, ite_not, forall_const, Option.join, Option.bind_some, id_eq])
  exact ⟨hN, hS, k0, q⟩
def sp_number (K : PySem.W.Frag) (p0 : Addr) (ns : List Int) : Sp := sp1 fun x H Q _ => asR x fun p => NoT H ∧ p0 = p ∧ SqL K H p0 (ns.map V.int) ∧ ∀ n : Int, -10 ^ 30 ≤ n ∧ n ≤ 10 ^ 30 → Q (.int n) H
theorem ok__law_number (T : Txt K mg a) : FnOk P w K mg base (XE P w) 2 a.f__law_number a.fd__law_number ["_law_script"] (sp_number K pS ns) := by
  refine T.F__law_number.okG sc__law_number (fun vs H Q E h => sp1.len h) (fun cdv A outer s H vs Q E hr h => ?_)
  obtain ⟨x0, rfl, h⟩ := sp1.inv h
  have ND := sc__law_number.nd
  have PX : Passes' (XE P w) (cxOf (XE P w) P w K mg base ["_law_script", "_law_cell"] "_law_number" (defScope s__law_number) a.f__law_number cdv A outer s H (gcE H E)) (fun _ => (gcE H E)) := passB
  have RX : Raises (cxOf (XE P w) P w K mg base ["_law_script", "_law_cell"] "_law_number" (defScope s__law_number) a.f__law_number cdv A outer s H (gcE H E)) (fun _ => (gcE H E)) := raisesB
  have HU : (cxOf (XE P w) P w K mg base ["_law_script", "_law_cell"] "_law_number" (defScope s__law_number) a.f__law_number cdv A outer s H (gcE H E)).A.units + 100 < cLine := units100 hr
  obtain ⟨p, rfl, hN, rfl, hS, k⟩ := asR.inv h
  have G__law_at := ok__law_at (P := P) (w := w) (base := base) T (pS := pS) (ns := ns)
  have b__law_at := bn__law_at T.F__law_at
  refine ⟨hN, _, (pss_cons (ps_set (i := 1) ND rfl (Or.inl rfl) (pe_callX G__law_at (hr.mono (by decide)) rfl T.m__law_at T.F__law_at.kp b__law_at .nil PX (FA.pa (fa_cons (fv 0) (fa_cons pe_int fa_nil)))))
      (pss_cons (ps_if (ft_cmp (fo_eqQ K HU) (pe_op fo_mod (pe_callX G__law_at (hr.mono (by decide)) rfl T.m__law_at T.F__law_at.kp b__law_at .nil PX (FA.pa (fa_cons (fv 0) (fa_cons pe_int fa_nil)))) pe_int) pe_int (nomark _)) (pss_one (ps_ret (pe_op fo_sub (pe_op fo_mod (fv 1) pe_int) pe_int))) pss_nil)
      (pss_one (ps_ret (pe_op fo_sub (pe_op fo_mod (fv 1) (pe_op fo_add (pe_op fo_mul pe_int (pe_op fo_pow pe_int pe_int)) pe_int)) (pe_op fo_pow pe_int pe_int)))))), ?_⟩
  ((try dsimp only [sp_is_whole, sp_is_among, sp_rounded, sp_weights, sp_shared, sp_at, sp_mixed]); try simp only [rdAll, rdI, V.int.injEq, V.ref.injEq, eqQ_int, eqQ_bl, eqQ_str, eqQ_ref, eqQ_nn, eqQ_ni, eqQ_in, eqQ_is, eqQ_si, L2.start, List.map_cons, List.map_nil, List.cons_append, List.nil_append, List.append_nil, List.length_cons, List.length_nil, List.replicate, List.getElem?_cons_zero, List.getElem?_cons_succ, List.set_cons_zero, List.set_cons_succ, Nat.reduceSub, Nat.reduceAdd, Int.reduceLT, Int.reduceLE, Int.reducePow, Int.reduceNeg, Nat.reducePow, List.cons.injEq, exists_eq_left', exists_eq_left, eq_self, if_false, if_true, ↓reduceIte, ite_not, forall_const, Option.join, Option.bind_some, id_eq])
  refine ⟨hN, hS, hN, hS, ?_⟩
  split
  · exact k _ ⟨by omega, by omega⟩
  · refine ⟨by decide, by decide, by decide, k _ ?_⟩
    have e : (10 : Int) ^ Int.toNat 30 = 10 ^ 30 := rfl
    rw [e]
    omega
def WSok (ws : List Int) : Prop := 1 ≤ ws.length ∧ ws.length ≤ 60 ∧ ∀ w ∈ ws, 0 ≤ w ∧ w ≤ 1000000000
def sp_lweights (K : PySem.W.Frag) (p0 : Addr) (ns : List Int) : Sp := sp1 fun x H Q _ => asR x fun p => NoT H ∧ p0 = p ∧ SqL K H p0 (ns.map V.int) ∧ ∀ ws : List Int, WSok ws → ∀ q, H q = none → Q (.ref q) (upd H q (.lst (ws.map V.int)))
theorem ok__law_weights (T : Txt K mg a) : FnOk P w K mg base (XE P w) 3 a.f__law_weights a.fd__law_weights ["_law_script"] (sp_lweights K pS ns) := by
  refine T.F__law_weights.okG sc__law_weights (fun vs H Q E h => sp1.len h) (fun cdv A outer s H vs Q E hr h => ?_)
  obtain ⟨x0, rfl, h⟩ := sp1.inv h
  have ND := sc__law_weights.nd
  have PX : Passes' (XE P w) (cxOf (XE P w) P w K mg base ["_law_script", "_law_cell", "_law_many", "_law_most", "_law_found", "_law_k", "_law_draw"] "_law_weights" (defScope s__law_weights) a.f__law_weights cdv A outer s H (gcE H E)) (fun _ => (gcE H E)) := passB
  have RX : Raises (cxOf (XE P w) P w K mg base ["_law_script", "_law_cell", "_law_many", "_law_most", "_law_found", "_law_k", "_law_draw"] "_law_weights" (defScope s__law_weights) a.f__law_weights cdv A outer s H (gcE H E)) (fun _ => (gcE H E)) := raisesB
  have HU : (cxOf (XE P w) P w K mg base ["_law_script", "_law_cell", "_law_many", "_law_most", "_law_found", "_law_k", "_law_draw"] "_law_weights" (defScope s__law_weights) a.f__law_weights cdv A outer s H (gcE H E)).A.units + 100 < cLine := units100 hr
  have PW : PassesOwn (model P w) (cxOf (XE P w) P w K mg base ["_law_script", "_law_cell", "_law_many", "_law_most", "_law_found", "_law_k", "_law_draw"] "_law_weights" (defScope s__law_weights) a.f__law_weights cdv A outer s H (gcE H E)).A (cxOf (XE P w) P w K mg base ["_law_script", "_law_cell", "_law_many", "_law_most", "_law_found", "_law_k", "_law_draw"] "_law_weights" (defScope s__law_weights) a.f__law_weights cdv A outer s H (gcE H E)).env (cxOf (XE P w) P w K mg base ["_law_script", "_law_cell", "_law_many", "_law_most", "_law_found", "_law_k", "_law_draw"] "_law_weights" (defScope s__law_weights) a.f__law_weights cdv A outer s H (gcE H E)).xe := by passes_own
  obtain ⟨p, rfl, hN, rfl, hS, k⟩ := asR.inv h
  have G__law_mixed := ok__law_mixed (P := P) (w := w) (base := base) T (pS := pS) (ns := ns)
  have b__law_mixed := bn__law_mixed T.F__law_mixed
  have G__law_at := ok__law_at (P := P) (w := w) (base := base) T (pS := pS) (ns := ns)
  have b__law_at := bn__law_at T.F__law_at
  refine ⟨hN, _, (pss_cons (ps_set (i := 1) ND rfl (Or.inl rfl) (pe_callX G__law_mixed (hr.mono (by decide)) rfl T.m__law_mixed T.F__law_mixed.kp b__law_mixed .nil PX (FA.pa (fa_cons (fv 0) (fa_cons pe_int fa_nil)))))
      (pss_cons (ps_set (i := 2) ND rfl (Or.inl rfl) (fe_pickL (FA.pa (fa_cons (pe_op fo_add pe_int (pe_op fo_mod (fv 1) pe_int)) (fa_cons (pe_op fo_add pe_int (pe_op fo_mod (pe_op fo_fdiv (fv 1) pe_int) pe_int)) fa_nil))) (pe_op fo_mod (pe_op fo_fdiv (fv 1) pe_int) pe_int) (fun _ _ => rfl)))
      (pss_cons (ps_set (i := 3) ND rfl (Or.inl rfl) (fe_pickL (FA.pa (fa_cons pe_int (fa_cons pe_int (fa_cons (pe_op fo_add (pe_op fo_pow pe_int pe_int) pe_int) fa_nil)))) (pe_op fo_mod (pe_callX G__law_mixed (hr.mono (by decide)) rfl T.m__law_mixed T.F__law_mixed.kp b__law_mixed .nil PX (FA.pa (fa_cons (fv 0) (fa_cons pe_int fa_nil)))) pe_int) (fun _ _ => rfl)))
      (pss_cons (ps_set (i := 4) ND rfl (Or.inl rfl) (pe_lst (FA.pa fa_nil)))
      (pss_cons (ps_for PW rfl (pi_range1 rfl T.z_range (FA.pa (fa_cons (fv 2) fa_nil))) (pg_name (i := 5) ND rfl (Or.inl rfl)) (pss_cons (ps_set (i := 6) ND rfl (Or.inl rfl) (pe_callX G__law_at (hr.mono (by decide)) rfl T.m__law_at T.F__law_at.kp b__law_at .nil PX (FA.pa (fa_cons (fv 0) (fa_cons (pe_op fo_add pe_int (fv 5)) fa_nil)))))
      (pss_cons (ps_if (ft_cmp (fo_eqQ K HU) (pe_op fo_mod (pe_callX G__law_at (hr.mono (by decide)) rfl T.m__law_at T.F__law_at.kp b__law_at .nil PX (FA.pa (fa_cons (fv 0) (fa_cons pe_int fa_nil)))) pe_int) pe_int (nomark _)) (pss_one (ps_set (i := 6) ND rfl (Or.inl rfl) (pe_callX G__law_mixed (hr.mono (by decide)) rfl T.m__law_mixed T.F__law_mixed.kp b__law_mixed .nil PX (FA.pa (fa_cons (fv 0) (fa_cons (pe_op fo_add pe_int (fv 5)) fa_nil)))))) pss_nil)
      (pss_cons (ps_if (ft_cmp fo_gt (fv 5) pe_int (nomark _)) (pss_one (ps_set (i := 6) ND rfl (Or.inl rfl) (pe_op fo_mod (pe_op fo_mul (pe_op fo_add (pe_callX G__law_at (hr.mono (by decide)) rfl T.m__law_at T.F__law_at.kp b__law_at .nil PX (FA.pa (fa_cons (fv 0) (fa_cons (pe_op fo_add pe_int (pe_op fo_mod (fv 5) pe_int)) fa_nil)))) (pe_op fo_mul pe_int (fv 5))) pe_int) pe_int))) pss_nil)
      (pss_cons (ps_if (ft_cmp (fo_eqQ K HU) (pe_op fo_mod (pe_op fo_fdiv (pe_callX G__law_mixed (hr.mono (by decide)) rfl T.m__law_mixed T.F__law_mixed.kp b__law_mixed .nil PX (FA.pa (fa_cons (fv 0) (fa_cons pe_int fa_nil)))) pe_int) pe_int) pe_int (nomark _)) (pss_one (ps_set (i := 6) ND rfl (Or.inl rfl) (pe_callX G__law_at (hr.mono (by decide)) rfl T.m__law_at T.F__law_at.kp b__law_at .nil PX (FA.pa (fa_cons (fv 0) (fa_cons pe_int fa_nil)))))) pss_nil)
      (pss_one (ps_expr (pe_bmK K PySem.F.plainAttrs_list PySem.F.slot_list_append PySem.F.type_list_append mt_append (fv 4) (FA.pa (fa_cons (pe_op fo_mod (fv 6) (fv 3)) fa_nil))))))))))
      (pss_one (ps_ret (fv 4)))))))), ?_⟩
  ((try dsimp only [sp_is_whole, sp_is_among, sp_rounded, sp_weights, sp_shared, sp_at, sp_mixed]); try simp only [rdAll, rdI, V.int.injEq, V.ref.injEq, eqQ_int, eqQ_bl, eqQ_str, eqQ_ref, eqQ_nn, eqQ_ni, eqQ_in, eqQ_is, eqQ_si, L2.start, List.map_cons, List.map_nil, List.cons_append, List.nil_append, List.append_nil, List.length_cons, List.length_nil, List.replicate, List.getElem?_cons_zero, List.getElem?_cons_succ, List.set_cons_zero, List.set_cons_succ, Nat.reduceSub, Nat.reduceAdd, Int.reduceLT, Int.reduceLE, Int.reducePow, Int.reduceNeg, Nat.reducePow, List.cons.injEq, exists_eq_left', exists_eq_left, eq_self, if_false, if_true, ↓reduceIte, ite_not, forall_const, Option.join, Option.bind_some, id_eq])
  have three : 3 ≤ sizeLine := by rw [sizeLine_eq]; decide
  have m3 := MX_nn ns 3
  generalize MX ns 3 = m3' at m3
  generalize MX ns 4 = m4
  refine ⟨hN, hS, hN, by omega, fun p hp => pick_ints (ns := [1 + m3' % 5, 1 + m3' / 5 % 60]) (Int.emod_nonneg _ (by decide)) (Int.emod_lt_of_pos _ (by decide)) ?_⟩
  obtain ⟨many, em, l1, l60⟩ : ∃ many : Nat, ([1 + m3' % 5, 1 + m3' / 5 % 60] : List Int).getD (m3' / 300 % 2).toNat 0 = many ∧ 1 ≤ many ∧ many ≤ 60 := by
    have hc : m3' / 300 % 2 = 0 ∨ m3' / 300 % 2 = 1 := by omega
    rcases hc with e | e <;> rw [e]
    · exact ⟨(1 + m3' % 5).toNat, by show 1 + m3' % 5 = _; omega, by omega, by omega⟩
    · exact ⟨(1 + m3' / 5 % 60).toNat, by show 1 + m3' / 5 % 60 = _; omega, by omega, by omega⟩
  rw [em]
  refine ⟨hN, by decide, three, fun p2 hp2 => ⟨noT_upd hN rfl, hS.same (same_upd _ hp2), pick_ints (ns := [4, 1001, 10 ^ Int.toNat 9 + 1]) (Int.emod_nonneg _ (by decide)) (Int.emod_lt_of_pos _ (by decide)) ?_⟩⟩
  obtain ⟨most, es, s0, s1⟩ : ∃ most : Int, ([4, 1001, 10 ^ Int.toNat 9 + 1] : List Int).getD (m4 % 3).toNat 0 = most ∧ 0 < most ∧ most ≤ 1000000001 := by
    have hc : m4 % 3 = 0 ∨ m4 % 3 = 1 ∨ m4 % 3 = 2 := by omega
    rcases hc with e | e | e <;> rw [e]
    · exact ⟨4, rfl, by decide, by decide⟩
    · exact ⟨1001, rfl, by decide, by decide⟩
    · exact ⟨1000000001, rfl, by decide, by decide⟩
  rw [es]
  refine ⟨Nat.zero_le _, fun D hD => ?_⟩
  refine ⟨many, rfl, by omega, by omega, ?_⟩
  refine for_range (lo := 0) (n := many) (fun i σ' H' => ∃ ws : List Int, ws.length = i ∧ (∀ w ∈ ws, 0 ≤ w ∧ w ≤ 1000000000) ∧ Same H H' ∧ NoT H' ∧ H' D = some (.lst (ws.map V.int)) ∧
    ∃ y5 y6, σ' = [some (.ref pS), some (.int m3'), some (.int many), some (.int most), some (.ref D), y5, y6]) ⟨[], rfl, by simp, same_upd _ hD, noT_upd hN rfl, upd_same, _, _, rfl⟩ ?_ ?_
  · rintro i σ' H' lt ⟨ws, el, wb, sm, nT, hW, y5, y6, rfl⟩
    have hS' := hS.same sm
    have fin : ∀ d y5 : Int, ∃ ws' : List Int, ws'.length = i + 1 ∧ (∀ w ∈ ws', 0 ≤ w ∧ w ≤ 1000000000) ∧ Same H (upd H' D (.lst (ws.map V.int ++ [.int (d % most)]))) ∧ NoT (upd H' D (.lst (ws.map V.int ++ [.int (d % most)]))) ∧ upd H' D (.lst (ws.map V.int ++ [.int (d % most)])) D = some (.lst (ws'.map V.int)) := fun d _ => by
      have b0 := Int.emod_nonneg d (Int.ne_of_gt s0)
      have b1 := Int.emod_lt_of_pos d s0
      refine ⟨ws ++ [d % most], by simp [el], fun w m => ?_, fun c o q => (upd_ne (fun z => by rw [z, hD] at q; cases q)).trans (sm _ _ q), noT_upd nT rfl, by rw [upd_same, List.map_append]; rfl⟩
      rcases List.mem_append.mp m with m | m
      · exact wb w m
      · rw [List.mem_singleton.mp m]; omega
    have lw : (ws.map V.int).length < sizeLine := by rw [List.length_map, sizeLine_eq]; omega
    ((try dsimp only [sp_is_whole, sp_is_among, sp_rounded, sp_weights, sp_shared, sp_at, sp_mixed]); try simp only [rdAll, rdI, V.int.injEq, V.ref.injEq, eqQ_int, eqQ_bl, eqQ_str, eqQ_ref, eqQ_nn, eqQ_ni, eqQ_in, eqQ_is, eqQ_si, L2.start, List.map_cons, List.map_nil, List.cons_append, List.nil_append, List.append_nil, List.length_cons, List.length_nil, List.replicate, List.getElem?_cons_zero, List.getElem?_cons_succ, List.set_cons_zero, List.set_cons_succ, Nat.reduceSub, Nat.reduceAdd, Int.reduceLT, Int.reduceLE, Int.reducePow, Int.reduceNeg, Nat.reducePow, List.cons.injEq, exists_eq_left', exists_eq_left, eq_self, if_false, if_true, ↓reduceIte, ite_not, forall_const, Option.join, Option.bind_some, id_eq])
    repeat' first
      | exact nT
      | exact hS'
      | exact (fun ⟨ws', a1, a2, a3, a4, a5⟩ => ⟨.inl ⟨_, .inl (.inl hW)⟩, s0, _, _, _, rfl, rfl, hW, lw, ws', a1, a2, a3, a4, a5, _, _, rfl, rfl⟩) (fin _ 0)
      | apply And.intro
      | split
      | omega
  · rintro σ' H' ⟨ws, el, wb, sm, nT, hW, y5, y6, rfl⟩
    ((try dsimp only [sp_is_whole, sp_is_among, sp_rounded, sp_weights, sp_shared, sp_at, sp_mixed]); try simp only [rdAll, rdI, V.int.injEq, V.ref.injEq, eqQ_int, eqQ_bl, eqQ_str, eqQ_ref, eqQ_nn, eqQ_ni, eqQ_in, eqQ_is, eqQ_si, L2.start, List.map_cons, List.map_nil, List.cons_append, List.nil_append, List.append_nil, List.length_cons, List.length_nil, List.replicate, List.getElem?_cons_zero, List.getElem?_cons_succ, List.set_cons_zero, List.set_cons_succ, Nat.reduceSub, Nat.reduceAdd, Int.reduceLT, Int.reduceLE, Int.reducePow, Int.reduceNeg, Nat.reducePow, List.cons.injEq, exists_eq_left', exists_eq_left, eq_self, if_false, if_true, ↓reduceIte, ite_not, forall_const, Option.join, Option.bind_some, id_eq])
    exact ⟨_, Gc.one sm hD hW rfl, k ws ⟨by omega, by omega, wb⟩ D hD⟩
end
end K5
set_option Elab.async false
set_option linter.all false
set_option maxRecDepth 100000
set_option maxHeartbeats 4000000
namespace K5
open PySem L2
seal L2.PE L2.PT L2.PW L2.PA L2.PS L2.PSs L2.PI L2.PG L2.PGs L2.PO
section
variable {pS : Addr} {ns : List Int} {P : Program} {w : World} {K : PySem.W.Frag} {mg : Str → Option Value} {base : Heap} {a : Adr}
theorem ok__law_is_good (T : Txt K mg a) : FnOk P w K mg base (XE P w) 3 a.f__law_is_good a.fd__law_is_good ["_law_weights_here"] sp_weights := by
  refine T.F__law_is_good.okG sc__law_is_good (fun vs H Q E h => sp1.len h) (fun cdv A outer s H vs Q E hr h => ?_)
  obtain ⟨x0, rfl, h⟩ := sp1.inv h
  have ND := sc__law_is_good.nd
  have PX : Passes' (XE P w) (cxOf (XE P w) P w K mg base ["_law_weights_here", "_law_one"] "_law_is_good" (defScope s__law_is_good) a.f__law_is_good cdv A outer s H (gcE H E)) (fun _ => (gcE H E)) := passB
  have RX : Raises (cxOf (XE P w) P w K mg base ["_law_weights_here", "_law_one"] "_law_is_good" (defScope s__law_is_good) a.f__law_is_good cdv A outer s H (gcE H E)) (fun _ => (gcE H E)) := raisesB
  have HU : (cxOf (XE P w) P w K mg base ["_law_weights_here", "_law_one"] "_law_is_good" (defScope s__law_is_good) a.f__law_is_good cdv A outer s H (gcE H E)).A.units + 100 < cLine := units100 hr
  have PW : PassesOwn (model P w) (cxOf (XE P w) P w K mg base ["_law_weights_here", "_law_one"] "_law_is_good" (defScope s__law_is_good) a.f__law_is_good cdv A outer s H (gcE H E)).A (cxOf (XE P w) P w K mg base ["_law_weights_here", "_law_one"] "_law_is_good" (defScope s__law_is_good) a.f__law_is_good cdv A outer s H (gcE H E)).env (cxOf (XE P w) P w K mg base ["_law_weights_here", "_law_one"] "_law_is_good" (defScope s__law_is_good) a.f__law_is_good cdv A outer s H (gcE H E)).xe := by passes_own
  obtain ⟨hN, h1⟩ := h
  have G__law_whole := ok__law_whole (P := P) (w := w) (base := base) T
  have b__law_whole := bn__law_whole T.F__law_whole
  refine ⟨hN, _, (pss_cons (ps_if (L2.PW.pt (pw_or (pt_not (ft_val (pe_callB (fc_isiK K) rfl T.z_isinstance bb_isinstance (FA.pa (fa_cons (fv 0) (fa_cons (pe_bltn (v := .ty "list") rfl T.z_list bb_list rfl) fa_nil)))))) (pw_or1 (pt_not (ft_chain fo_le fo_le pe_int (pe_callB (fc_lenK K) rfl T.z_len bb_len (FA.pa (fa_cons (fv 0) fa_nil))) pe_int))))) (pss_one (ps_ret pe_bl)) pss_nil)
      (pss_cons (ps_for PW rfl (fi_listK K (fv 0)) (pg_name (i := 1) ND rfl (Or.inl rfl)) (pss_one (ps_if (L2.PW.pt (pw_or (pt_not (ft_val (pe_callX G__law_whole (hr.mono (by decide)) rfl T.m__law_whole T.F__law_whole.kp b__law_whole .nil PX (FA.pa (fa_cons (fv 1) fa_nil))))) (pw_or1 (pt_not (ft_chain fo_le fo_le pe_int (fv 1) (pe_op fo_pow pe_int pe_int)))))) (pss_one (ps_ret pe_bl)) pss_nil)))
      (pss_one (ps_ret (pe_cmpR fo_gt (pe_callB (fc_sumA K rfl) rfl T.z_sum bb_sum (FA.pa (fa_cons (fv 0) fa_nil))) pe_int (nomark _)))))), ?_⟩
  ((try dsimp only [sp_is_whole, sp_is_among, sp_rounded, sp_weights, sp_shared, sp_at, sp_mixed, sp_number, sp_lweights]); try simp only [rdAll, rdI, V.int.injEq, V.ref.injEq, eqQ_int, eqQ_bl, eqQ_str, eqQ_ref, eqQ_nn, eqQ_ni, eqQ_in, eqQ_is, eqQ_si, L2.start, List.map_cons, List.map_nil, List.cons_append, List.nil_append, List.append_nil, List.length_cons, List.length_nil, List.replicate, List.getElem?_cons_zero, List.getElem?_cons_succ, List.set_cons_zero, List.set_cons_succ, Nat.reduceSub, Nat.reduceAdd, Int.reduceLT, Int.reduceLE, Int.reducePow, Int.reduceNeg, Nat.reducePow, List.cons.injEq, exists_eq_left', exists_eq_left, eq_self, if_false, if_true, ↓reduceIte, ite_not, forall_const, Option.join, Option.bind_some, id_eq])
  rcases h1 with ⟨p, xs, rfl, hp, hz, hk, k⟩ | ⟨t, ht, hl, k⟩
  · have ht : kindV H (.ref p) = some "list" := by simp [kindV, hp]
    simp only [ht]
    rw [if_neg (by decide)]
    refine ⟨xs, .inl (.inl (.inl hp)), ?_⟩
    ((try dsimp only [sp_is_whole, sp_is_among, sp_rounded, sp_weights, sp_shared, sp_at, sp_mixed, sp_number, sp_lweights]); try simp only [rdAll, rdI, V.int.injEq, V.ref.injEq, eqQ_int, eqQ_bl, eqQ_str, eqQ_ref, eqQ_nn, eqQ_ni, eqQ_in, eqQ_is, eqQ_si, L2.start, List.map_cons, List.map_nil, List.cons_append, List.nil_append, List.append_nil, List.length_cons, List.length_nil, List.replicate, List.getElem?_cons_zero, List.getElem?_cons_succ, List.set_cons_zero, List.set_cons_succ, Nat.reduceSub, Nat.reduceAdd, Int.reduceLT, Int.reduceLE, Int.reducePow, Int.reduceNeg, Nat.reducePow, List.cons.injEq, exists_eq_left', exists_eq_left, eq_self, if_false, if_true, ↓reduceIte, ite_not, forall_const, Option.join, Option.bind_some, id_eq])
    have no : (decide (1 ≤ xs.length) && decide (xs.length ≤ 60)) = false → Q (.bl false) H := fun z => by unfold wOk at k; rw [z] at k; exact k
    split
    · rename_i c1
      split
      · rename_i c2
        have el : (decide (1 ≤ xs.length) && decide (xs.length ≤ 60)) = true := by simp; omega
        unfold wOk at k
        rw [el, Bool.true_and] at k
        refine for_lstC (K := K) (a := p) (xs := xs) (.inl (.inl hp)) ⟨fun i m σ' H' => i ≤ xs.length ∧ m = xs.length - i ∧ H' = H ∧ (xs.take i).all (fun x => amg x 0 1000000000) = true ∧ ∃ y, σ' = [some (.ref p), y], ⟨_, Nat.zero_le _, rfl, rfl, rfl, _, rfl⟩, ?_⟩
        rintro i m σ' H' ⟨hi, rfl, rfl, ha, y, rfl⟩
        by_cases lt : i < xs.length
        · refine .inr ⟨⟨_, xs[i], .inl (.inl hp), by simp [lt]⟩, fun σ2 H2 => H2 = H' ∧ (xs.take (i + 1)).all (fun x => amg x 0 1000000000) = true ∧ ∃ y, σ2 = [some (.ref p), y], fun σ2 H2 q => ⟨xs.length - (i + 1), by omega, by omega, rfl, q⟩, fun x H2 hy => ?_⟩
          obtain ⟨rfl, hy⟩ := hy
          have ex : x = xs[i] := by
            have := hy _ (.inl (.inl hp))
            simp [lt] at this
            exact this.symm
          subst ex
          have tk : xs.take (i + 1) = xs.take i ++ [xs[i]] := by rw [List.take_succ, List.getElem?_eq_getElem lt]; rfl
          have mx : xs[i] ∈ xs := List.getElem_mem lt
          obtain ⟨t, ht'⟩ := hk _ mx
          have bad : amg xs[i] 0 1000000000 = false → Q (.bl false) H2 := fun z => by
            have : xs.all (fun x => amg x 0 1000000000) = false := List.all_eq_false.mpr ⟨_, mx, by rw [z]; decide⟩
            rw [this, Bool.false_and] at k; exact k
          have good : amg xs[i] 0 1000000000 = true → (xs.take (i + 1)).all (fun x => amg x 0 1000000000) = true := fun z => by
            rw [tk, List.all_append, ha, List.all_cons, z]; rfl
          generalize xs[i] = x at ht' bad good
          ((try dsimp only [sp_is_whole, sp_is_among, sp_rounded, sp_weights, sp_shared, sp_at, sp_mixed, sp_number, sp_lweights]); try simp only [rdAll, rdI, V.int.injEq, V.ref.injEq, eqQ_int, eqQ_bl, eqQ_str, eqQ_ref, eqQ_nn, eqQ_ni, eqQ_in, eqQ_is, eqQ_si, L2.start, List.map_cons, List.map_nil, List.cons_append, List.nil_append, List.append_nil, List.length_cons, List.length_nil, List.replicate, List.getElem?_cons_zero, List.getElem?_cons_succ, List.set_cons_zero, List.set_cons_succ, Nat.reduceSub, Nat.reduceAdd, Int.reduceLT, Int.reduceLE, Int.reducePow, Int.reduceNeg, Nat.reducePow, List.cons.injEq, exists_eq_left', exists_eq_left, eq_self, if_false, if_true, ↓reduceIte, ite_not, forall_const, Option.join, Option.bind_some, id_eq])
          refine ⟨hN, asK.of ht' ?_⟩
          cases e : isI x with
          | false => exact ite00 (bad (amg_not e))
          | true =>
            cases x with
            | int z =>
              refine ite10 ?_
              ((try dsimp only [sp_is_whole, sp_is_among, sp_rounded, sp_weights, sp_shared, sp_at, sp_mixed, sp_number, sp_lweights]); try simp only [rdAll, rdI, V.int.injEq, V.ref.injEq, eqQ_int, eqQ_bl, eqQ_str, eqQ_ref, eqQ_nn, eqQ_ni, eqQ_in, eqQ_is, eqQ_si, L2.start, List.map_cons, List.map_nil, List.cons_append, List.nil_append, List.append_nil, List.length_cons, List.length_nil, List.replicate, List.getElem?_cons_zero, List.getElem?_cons_succ, List.set_cons_zero, List.set_cons_succ, Nat.reduceSub, Nat.reduceAdd, Int.reduceLT, Int.reduceLE, Int.reducePow, Int.reduceNeg, Nat.reducePow, List.cons.injEq, exists_eq_left', exists_eq_left, eq_self, if_false, if_true, ↓reduceIte, ite_not, forall_const, Option.join, Option.bind_some, id_eq])
              have am : amg (.int z) 0 1000000000 = (decide (0 ≤ z) && decide (z ≤ 1000000000)) := rfl
              rw [am] at bad good
              split
              · rename_i d1
                refine ⟨by decide, ?_⟩
                split
                · rename_i d2
                  have d2 : z ≤ 1000000000 := d2
                  exact ⟨good (by simp [d1, d2]), _, rfl⟩
                · rename_i d2
                  have d2 : ¬ z ≤ 1000000000 := d2
                  exact bad (by simp [d2])
              · rename_i d1
                exact bad (by simp [d1])
            | _ => cases e
        · have e : i = xs.length := by omega
          subst e
          rw [List.take_of_length_le (Nat.le_refl _)] at ha
          obtain ⟨ws, rfl, _⟩ := amg_int ha
          rw [ha, Bool.true_and, sum_int] at k
          refine .inl ⟨⟨_, .inl (.inl hp), Nat.le_refl _⟩, ?_⟩
          ((try dsimp only [sp_is_whole, sp_is_among, sp_rounded, sp_weights, sp_shared, sp_at, sp_mixed, sp_number, sp_lweights]); try simp only [rdAll, rdI, V.int.injEq, V.ref.injEq, eqQ_int, eqQ_bl, eqQ_str, eqQ_ref, eqQ_nn, eqQ_ni, eqQ_in, eqQ_is, eqQ_si, L2.start, List.map_cons, List.map_nil, List.cons_append, List.nil_append, List.append_nil, List.length_cons, List.length_nil, List.replicate, List.getElem?_cons_zero, List.getElem?_cons_succ, List.set_cons_zero, List.set_cons_succ, Nat.reduceSub, Nat.reduceAdd, Int.reduceLT, Int.reduceLE, Int.reducePow, Int.reduceNeg, Nat.reducePow, List.cons.injEq, exists_eq_left', exists_eq_left, eq_self, if_false, if_true, ↓reduceIte, ite_not, forall_const, Option.join, Option.bind_some, id_eq])
          exact ⟨ws, .inl (.inl (.inl hp)), k⟩
      · rename_i c2
        exact no (by simp; omega)
    · rename_i c1
      exact no (by simp; omega)
  · simp only [ht, hl]
    exact k
def sp_told (c : Addr) : Sp := sp2 fun x y H Q E => NoT H ∧ asI x fun am => (-(10 : Int) ^ 31 < am ∧ am < 10 ^ 31) ∧ ((∃ p xs, y = .ref p ∧ H p = some (.lst xs) ∧ xs.length ≤ 4000 ∧ (∀ z ∈ xs, ∃ t, kindV H z = some t) ∧
    (if wOk xs = true then ∀ ws, xs = ws.map V.int → ∀ q, H q = none → Q (.ref q) (upd H q (.lst ((share am ws).map V.int))) else Q (L2.T [114, 101, 102, 117, 115, 101, 100]) H)) ∨ (∃ t, kindV H y = some t ∧ isiT t "list" = false ∧ Q (L2.T [114, 101, 102, 117, 115, 101, 100]) H))
theorem ok__law_told (T : Txt K mg a) : FnOk P w K mg base (XE P w) 5 a.f__law_told a.fd__law_told ["_law_number_here", "_law_weights_here"] (sp_told a.c_BadShare) := by
  refine T.F__law_told.okG sc__law_told (fun vs H Q E h => sp2.len h) (fun cdv A outer s H vs Q E hr h => ?_)
  obtain ⟨x0, x1, rfl, h⟩ := sp2.inv h
  have ND := sc__law_told.nd
  have PX : Passes' (XE P w) (cxOf (XE P w) P w K mg base ["_law_number_here", "_law_weights_here", "e", "_law_good"] "_law_told" (defScope s__law_told) a.f__law_told cdv A outer s H (gcE H E)) (fun _ => (gcE H E)) := passB
  have RX : Raises (cxOf (XE P w) P w K mg base ["_law_number_here", "_law_weights_here", "e", "_law_good"] "_law_told" (defScope s__law_told) a.f__law_told cdv A outer s H (gcE H E)) (fun _ => (gcE H E)) := raisesB
  have HU : (cxOf (XE P w) P w K mg base ["_law_number_here", "_law_weights_here", "e", "_law_good"] "_law_told" (defScope s__law_told) a.f__law_told cdv A outer s H (gcE H E)).A.units + 100 < cLine := units100 hr
  obtain ⟨hN, h1⟩ := h
  obtain ⟨am, rfl, ⟨am0, am1⟩, h2⟩ := asI.inv h1
  have G_shared := ok_shared (P := P) (w := w) (base := base) T
  have b_shared := bn_shared T.F_shared
  refine ⟨hN, _, (pss_cons (ps_try (i := 2) ND rfl rfl rfl T.m_HouseError rfl rfl rfl (fun pn Ee Ex PX => (pss_one (ps_ret (pe_callX G_shared (hr.mono (by decide)) rfl T.m_shared T.F_shared.kp b_shared .nil PX (FA.pa (fa_cons (fv 0) (fa_cons (fv 1) fa_nil))))))) (fun e => (pss_cons (ps_set (i := 3) ND rfl (Or.inl rfl) (fe_and (pe_callB (fc_isiK K) rfl T.z_isinstance bb_isinstance (FA.pa (fa_cons (fv 2) (fa_cons (pe_glob (v := .ref a.c_BadShare) rfl T.m_BadShare rfl) fa_nil)))) (pe_one (pe_callB (fc_isiK K) rfl T.z_isinstance bb_isinstance (FA.pa (fa_cons (fv 2) (fa_cons (pe_bltn (v := .ty "ValueError") rfl T.z_ValueError bb_ValueError rfl) fa_nil)))))))
      (pss_one (ps_if (L2.PW.pt (pw_and (ft_val (fv 3)) (pw_and (pt_not (ft_val (pe_callB (fc_isiK K) rfl T.z_isinstance bb_isinstance (FA.pa (fa_cons (fv 2) (fa_cons (pe_glob (v := .ref a.c_BadAmount) rfl T.m_BadAmount rfl) fa_nil)))))) (pw_and1 (pt_not (ft_val (pe_callB (fc_isiK K) rfl T.z_isinstance bb_isinstance (FA.pa (fa_cons (fv 2) (fa_cons (pe_glob (v := .ref a.c_BadCount) rfl T.m_BadCount rfl) fa_nil)))))))))) (pss_one (ps_ret (pe_strT [114, 101, 102, 117, 115, 101, 100]))) pss_nil)))))
      (pss_one (ps_ret (pe_strT [111, 116, 104, 101, 114, 119, 105, 115, 101])))), ?_⟩
  ((try dsimp only [sp_is_whole, sp_is_among, sp_rounded, sp_weights, sp_shared, sp_at, sp_mixed, sp_number, sp_lweights]); try simp only [rdAll, rdI, V.int.injEq, V.ref.injEq, eqQ_int, eqQ_bl, eqQ_str, eqQ_ref, eqQ_nn, eqQ_ni, eqQ_in, eqQ_is, eqQ_si, L2.start, List.map_cons, List.map_nil, List.cons_append, List.nil_append, List.append_nil, List.length_cons, List.length_nil, List.replicate, List.getElem?_cons_zero, List.getElem?_cons_succ, List.set_cons_zero, List.set_cons_succ, Nat.reduceSub, Nat.reduceAdd, Int.reduceLT, Int.reduceLE, Int.reducePow, Int.reduceNeg, Nat.reducePow, List.cons.injEq, exists_eq_left', exists_eq_left, eq_self, if_false, if_true, ↓reduceIte, ite_not, forall_const, Option.join, Option.bind_some, id_eq])
  refine ⟨hN, ⟨am0, am1⟩, ?_⟩
  rcases h2 with ⟨p, xs, rfl, hp, hz, hk, k⟩ | ⟨t, ht, hl, k⟩
  · refine .inl ⟨p, xs, rfl, hp, hz, hk, ?_⟩
    split
    · rename_i c
      rw [if_pos c] at k
      exact fun ws e q hq => ⟨_, Gc.one (same_upd _ hq) hq upd_same rfl, k ws e q hq⟩
    · rename_i c
      rw [if_neg c] at k
      refine ⟨_, rfl, T.t_BadShare_HouseError, fun e he => ⟨_, _, upd_same, T.x_BadShare, T.s_BadShare_BadShare, iteT ?_⟩⟩
      simp only [kind_exc]
      exact ⟨e, _, _, rfl, upd_same, T.x_BadShare, T.s_BadShare_ValueError, iteT ⟨_, _, upd_same, T.x_BadShare, T.s_BadShare_BadAmount, ite00 ⟨_, _, upd_same, T.x_BadShare, T.s_BadShare_BadCount, ite00 ⟨H, Gc.none (same_upd _ he), k⟩⟩⟩⟩
  · refine .inr ⟨t, ht, hl, _, rfl, T.t_BadShare_HouseError, fun e he => ⟨_, _, upd_same, T.x_BadShare, T.s_BadShare_BadShare, iteT ?_⟩⟩
    simp only [kind_exc]
    exact ⟨e, _, _, rfl, upd_same, T.x_BadShare, T.s_BadShare_ValueError, iteT ⟨_, _, upd_same, T.x_BadShare, T.s_BadShare_BadAmount, ite00 ⟨_, _, upd_same, T.x_BadShare, T.s_BadShare_BadCount, ite00 ⟨H, Gc.none (same_upd _ he), k⟩⟩⟩⟩
theorem rnd_off (n b : Int) (h : 0 < b) : (-b < 2 * n - 2 * b * rnd n b ∧ 2 * n - 2 * b * rnd n b < b) ∨ ((2 * n - 2 * b * rnd n b = b ∨ 2 * n - 2 * b * rnd n b = -b) ∧ rnd n b % 2 = 0) := by
  have e := Int.mul_ediv_add_emod n b
  have r0 := Int.emod_nonneg n (Int.ne_of_gt h)
  have r1 := Int.emod_lt_of_pos n h
  unfold rnd
  rw [Int.mul_comm (n / b) b]
  generalize n % b = r at *
  generalize hd : n / b = d at *
  split
  · rename_i c
    rw [Int.mul_assoc, Int.mul_add, Int.mul_one]
    generalize b * d = M at *
    rcases c with c | ⟨c, c2⟩
    · left; omega
    · right; omega
  · rename_i c
    rw [Int.mul_assoc]
    generalize b * d = M at *
    by_cases c3 : 2 * (n - M) = b
    · right
      have : ¬ d % 2 = 1 := fun z => c (.inr ⟨c3, z⟩)
      omega
    · left
      have : ¬ 2 * (n - M) > b := fun z => c (.inl z)
      omega
def sp_is_rounded : Sp := sp2 fun x y H Q _ => NoT H ∧ asI x fun n => asI y fun b => (0 < b ∧ b < 10 ^ 60 ∧ ((-18446744073709551616 < n / b ∧ n / b < 18446744073709551615) ∨ b < 9223372036854775808)) ∧ Q (.bl true) H
theorem ok__law_is_rounded (T : Txt K mg a) : FnOk P w K mg base (XE P w) 2 a.f__law_is_rounded a.fd__law_is_rounded ["_law_number_here", "_law_by"] sp_is_rounded := by
  refine T.F__law_is_rounded.okG sc__law_is_rounded (fun vs H Q E h => sp2.len h) (fun cdv A outer s H vs Q E hr h => ?_)
  obtain ⟨x0, x1, rfl, h⟩ := sp2.inv h
  have ND := sc__law_is_rounded.nd
  have PX : Passes' (XE P w) (cxOf (XE P w) P w K mg base ["_law_number_here", "_law_by", "_law_found", "_law_off"] "_law_is_rounded" (defScope s__law_is_rounded) a.f__law_is_rounded cdv A outer s H (gcE H E)) (fun _ => (gcE H E)) := passB
  have RX : Raises (cxOf (XE P w) P w K mg base ["_law_number_here", "_law_by", "_law_found", "_law_off"] "_law_is_rounded" (defScope s__law_is_rounded) a.f__law_is_rounded cdv A outer s H (gcE H E)) (fun _ => (gcE H E)) := raisesB
  have HU : (cxOf (XE P w) P w K mg base ["_law_number_here", "_law_by", "_law_found", "_law_off"] "_law_is_rounded" (defScope s__law_is_rounded) a.f__law_is_rounded cdv A outer s H (gcE H E)).A.units + 100 < cLine := units100 hr
  obtain ⟨hN, h1⟩ := h
  obtain ⟨n, rfl, h2⟩ := asI.inv h1
  obtain ⟨b, rfl, ⟨b0, b1, b2⟩, k⟩ := asI.inv h2
  have G__law_whole := ok__law_whole (P := P) (w := w) (base := base) T
  have b__law_whole := bn__law_whole T.F__law_whole
  have G_rounded := ok_rounded (P := P) (w := w) (base := base) T
  have b_rounded := bn_rounded T.F_rounded
  refine ⟨hN, _, (pss_cons (ps_set (i := 2) ND rfl (Or.inl rfl) (pe_callX G_rounded (hr.mono (by decide)) rfl T.m_rounded T.F_rounded.kp b_rounded .nil PX (FA.pa (fa_cons (fv 0) (fa_cons (fv 1) fa_nil)))))
      (pss_cons (ps_if (pt_not (ft_val (pe_callX G__law_whole (hr.mono (by decide)) rfl T.m__law_whole T.F__law_whole.kp b__law_whole .nil PX (FA.pa (fa_cons (fv 2) fa_nil))))) (pss_one (ps_ret pe_bl)) pss_nil)
      (pss_cons (ps_set (i := 3) ND rfl (Or.inl rfl) (pe_callB fc_abs rfl T.z_abs bb_abs (FA.pa (fa_cons (pe_op fo_sub (pe_op fo_mul pe_int (fv 0)) (pe_op fo_mul (pe_op fo_mul pe_int (fv 1)) (fv 2))) fa_nil))))
      (pss_one (ps_ret (fe_or (pe_cmpR fo_lt (fv 3) (fv 1) (nomark _)) (pe_one (fe_and (pe_cmpR (fo_eqQ K HU) (fv 3) (fv 1) (nomark _)) (pe_one (pe_cmpR (fo_eqQ K HU) (pe_op fo_mod (fv 2) pe_int) pe_int (nomark _))))))))))), ?_⟩
  ((try dsimp only [sp_is_whole, sp_is_among, sp_rounded, sp_weights, sp_shared, sp_at, sp_mixed, sp_number, sp_lweights, sp_told]); try simp only [rdAll, rdI, V.int.injEq, V.ref.injEq, eqQ_int, eqQ_bl, eqQ_str, eqQ_ref, eqQ_nn, eqQ_ni, eqQ_in, eqQ_is, eqQ_si, L2.start, List.map_cons, List.map_nil, List.cons_append, List.nil_append, List.append_nil, List.length_cons, List.length_nil, List.replicate, List.getElem?_cons_zero, List.getElem?_cons_succ, List.set_cons_zero, List.set_cons_succ, Nat.reduceSub, Nat.reduceAdd, Int.reduceLT, Int.reduceLE, Int.reducePow, Int.reduceNeg, Nat.reducePow, List.cons.injEq, exists_eq_left', exists_eq_left, eq_self, if_false, if_true, ↓reduceIte, ite_not, forall_const, Option.join, Option.bind_some, id_eq])
  have ro := rnd_off n b b0
  have rb : n / b ≤ rnd n b ∧ rnd n b ≤ n / b + 1 := by unfold rnd; split <;> omega
  refine ⟨hN, ⟨b0, b1, by omega⟩, hN, by omega, ?_⟩
  generalize 2 * n - 2 * b * rnd n b = o at ro
  repeat' split
  all_goals first
    | exact k
    | (exfalso; omega)
    | (rw [decide_eq_true (by omega)]; exact k)
theorem getD_mem' {ws : List Int} (h : ∀ w ∈ ws, 0 ≤ w ∧ w ≤ 1000000000) {i : Nat} (l : i < ws.length) : 0 ≤ ws.getD i 0 ∧ ws.getD i 0 ≤ 1000000000 := by
  have : ws.getD i 0 = ws[i] := by simp [l]
  rw [this]; exact h _ (List.getElem_mem l)
def svd (am : Int) (ws : List Int) (j : Nat) : Prop := rk (K5.cod am ws) ws.length j < (wn am ws).toNat
theorem share_at {am : Int} {ws : List Int} {j : Nat} (h : j < ws.length) : ((share am ws).map V.int)[j]? = some (.int (pt am ws.sum (ws.getD j 0) + if rk (K5.cod am ws) ws.length j < (wn am ws).toNat then 1 else 0)) := by
  unfold share; simp [h]
def Side (am : Int) (ws : List Int) (p : Nat → Prop) (es : List Pr) : Prop := ∀ e ∈ es, ∃ j, j < ws.length ∧ p j ∧ e.2 = (rs am ws.sum (ws.getD j 0), -(j : Int))
theorem Side.more {am : Int} {ws : List Int} {p : Nat → Prop} {es : List Pr} (h : Side am ws p es) {j : Nat} {b : Addr} (l : j < ws.length) (hp : p j) : Side am ws p (es ++ [((b, rs am ws.sum (ws.getD j 0), -(j : Int)) : Pr)]) := fun e m => by
  rcases List.mem_append.mp m with m | m
  · exact h e m
  · rw [List.mem_singleton.mp m]; exact ⟨j, l, hp, rfl⟩
def sp_is_shared : Sp := sp3 fun x y z H Q _ => NoT H ∧ asI y fun am => (-(10 : Int) ^ 31 < am ∧ am < 10 ^ 31) ∧ ∃ p q ws, x = .ref p ∧ z = .ref q ∧ p ≠ q ∧ H p = some (.lst ((share am ws).map V.int)) ∧ H q = some (.lst (ws.map V.int)) ∧ wOk (ws.map V.int) = true ∧ Q (.bl true) H
theorem ok__law_is_shared (T : Txt K mg a) : FnOk P w K mg base (XE P w) 2 a.f__law_is_shared a.fd__law_is_shared ["_law_found", "_law_number_here", "_law_weights_here"] sp_is_shared := by
  refine T.F__law_is_shared.okG sc__law_is_shared (fun vs H Q E h => sp3.len h) (fun cdv A outer s H vs Q E hr h => ?_)
  obtain ⟨x0, x1, x2, rfl, h⟩ := sp3.inv h
  have ND := sc__law_is_shared.nd
  have PX : Passes' (XE P w) (cxOf (XE P w) P w K mg base ["_law_found", "_law_number_here", "_law_weights_here", "_law_whole_here", "_law_more", "_law_less", "_law_k", "_law_rest"] "_law_is_shared" (defScope s__law_is_shared) a.f__law_is_shared cdv A outer s H (gcE H E)) (fun _ => (gcE H E)) := passB
  have RX : Raises (cxOf (XE P w) P w K mg base ["_law_found", "_law_number_here", "_law_weights_here", "_law_whole_here", "_law_more", "_law_less", "_law_k", "_law_rest"] "_law_is_shared" (defScope s__law_is_shared) a.f__law_is_shared cdv A outer s H (gcE H E)) (fun _ => (gcE H E)) := raisesB
  have HU : (cxOf (XE P w) P w K mg base ["_law_found", "_law_number_here", "_law_weights_here", "_law_whole_here", "_law_more", "_law_less", "_law_k", "_law_rest"] "_law_is_shared" (defScope s__law_is_shared) a.f__law_is_shared cdv A outer s H (gcE H E)).A.units + 100 < cLine := units100 hr
  have PW : PassesOwn (model P w) (cxOf (XE P w) P w K mg base ["_law_found", "_law_number_here", "_law_weights_here", "_law_whole_here", "_law_more", "_law_less", "_law_k", "_law_rest"] "_law_is_shared" (defScope s__law_is_shared) a.f__law_is_shared cdv A outer s H (gcE H E)).A (cxOf (XE P w) P w K mg base ["_law_found", "_law_number_here", "_law_weights_here", "_law_whole_here", "_law_more", "_law_less", "_law_k", "_law_rest"] "_law_is_shared" (defScope s__law_is_shared) a.f__law_is_shared cdv A outer s H (gcE H E)).env (cxOf (XE P w) P w K mg base ["_law_found", "_law_number_here", "_law_weights_here", "_law_whole_here", "_law_more", "_law_less", "_law_k", "_law_rest"] "_law_is_shared" (defScope s__law_is_shared) a.f__law_is_shared cdv A outer s H (gcE H E)).xe := by passes_own
  obtain ⟨hN, h1⟩ := h
  obtain ⟨am, rfl, ⟨am0, am1⟩, p, q, ws, rfl, rfl, npq, hp, hq, ok, k⟩ := asI.inv h1
  have G__law_whole := ok__law_whole (P := P) (w := w) (base := base) T
  have b__law_whole := bn__law_whole T.F__law_whole
  refine ⟨hN, _, (pss_cons (ps_if (pt_gc (L2.PW.pt (pw_or (pt_not (ft_val (pe_callB (fc_isiK K) rfl T.z_isinstance bb_isinstance (FA.pa (fa_cons (fv 0) (fa_cons (pe_bltn (v := .ty "list") rfl T.z_list bb_list rfl) fa_nil)))))) (pw_or (ft_cmp (fo_neQ K HU) (pe_callB (fc_lenK K) rfl T.z_len bb_len (FA.pa (fa_cons (fv 0) fa_nil))) (pe_callB (fc_lenK K) rfl T.z_len bb_len (FA.pa (fa_cons (fv 2) fa_nil))) (nomark _)) (pw_or1 (pt_not (ft_val (pe_callB (fc_allK K rfl) rfl T.z_all bb_all (FA.pa (fa_cons (pe_comp rfl (cl := _) (fr := []) (ks := []) (by exact ⟨rfl, by decide +kernel, rfl, by decide +kernel, rfl, keys_of rfl, rfl, kinds_of rfl, kinds_of (k := fun y => List.lookup y _) rfl, only_of rfl⟩) rfl (by decide) (fi_listK K (fv 0)) (fun _ _ _ _ _ => pts_nil) (fun _ _ _ _ _ => (pe_callX G__law_whole (hr.mono (by decide)) rfl T.m__law_whole T.F__law_whole.kp b__law_whole .nil passF (FA.pa (fa_cons (fv 0) fa_nil))))) fa_nil)))))))))) (pss_one (ps_ret pe_bl)) pss_nil)
      (pss_cons (ps_set (i := 3) ND rfl (Or.inl rfl) (pe_callB (fc_sumA K rfl) rfl T.z_sum bb_sum (FA.pa (fa_cons (fv 2) fa_nil))))
      (pss_cons (ps_if (ft_cmp (fo_neQ K HU) (pe_callB (fc_sumA K rfl) rfl T.z_sum bb_sum (FA.pa (fa_cons (fv 0) fa_nil))) (fv 1) (nomark _)) (pss_one (ps_ret pe_bl)) pss_nil)
      (pss_cons (ps_set (i := 4) ND rfl (Or.inl rfl) (pe_lst (FA.pa fa_nil)))
      (pss_cons (ps_set (i := 5) ND rfl (Or.inl rfl) (pe_lst (FA.pa fa_nil)))
      (pss_cons (ps_for PW rfl (pi_range1 rfl T.z_range (FA.pa (fa_cons (pe_callB (fc_lenK K) rfl T.z_len bb_len (FA.pa (fa_cons (fv 2) fa_nil))) fa_nil))) (pg_name (i := 6) ND rfl (Or.inl rfl)) (pss_cons (ps_set (i := 7) ND rfl (Or.inl rfl) (pe_op fo_sub (pe_op fo_mul (fv 1) (pe_ix (fx_seqK K) (fv 2) (fv 6) (fun _ _ => rfl))) (pe_op fo_mul (pe_ix (fx_seqK K) (fv 0) (fv 6) (fun _ _ => rfl)) (fv 3))))
      (pss_cons (ps_if (ft_cmp fo_lt (fv 7) pe_int (nomark _)) (pss_one (ps_expr (pe_bmK K PySem.F.plainAttrs_list PySem.F.slot_list_append PySem.F.type_list_append mt_append (fv 4) (FA.pa (fa_cons (pe_tup (FA.pa (fa_cons (pe_op fo_add (fv 7) (fv 3)) (fa_cons (pe_un fu_neg (fv 6)) fa_nil)))) fa_nil))))) (pss_one (ps_expr (pe_bmK K PySem.F.plainAttrs_list PySem.F.slot_list_append PySem.F.type_list_append mt_append (fv 5) (FA.pa (fa_cons (pe_tup (FA.pa (fa_cons (fv 7) (fa_cons (pe_un fu_neg (fv 6)) fa_nil)))) fa_nil))))))
      (pss_one (ps_if (pt_not (ft_chain fo_le fo_lt (pe_un fu_neg (fv 3)) (fv 7) (fv 3))) (pss_one (ps_ret pe_bl)) pss_nil)))))
      (pss_one (ps_ret (fe_or (pe_cmpR (fo_eqQ K HU) (fv 4) (pe_lst (FA.pa fa_nil)) (nomark _)) (fe_or (pe_cmpR (fo_eqQ K HU) (fv 5) (pe_lst (FA.pa fa_nil)) (nomark _)) (pe_one (pe_cmpR (fo_gtP K HU) (pe_callB (fc_minP K rfl HU) rfl T.z_min bb_min (FA.pa (fa_cons (fv 4) fa_nil))) (pe_callB (fc_maxP K rfl HU) rfl T.z_max bb_max (FA.pa (fa_cons (fv 5) fa_nil))) (nomark _))))))))))))), ?_⟩
  ((try dsimp only [sp_is_whole, sp_is_among, sp_rounded, sp_weights, sp_shared, sp_at, sp_mixed, sp_number, sp_lweights, sp_told, sp_is_rounded]); try simp only [rdAll, rdI, V.int.injEq, V.ref.injEq, eqQ_int, eqQ_bl, eqQ_str, eqQ_ref, eqQ_nn, eqQ_ni, eqQ_in, eqQ_is, eqQ_si, L2.start, List.map_cons, List.map_nil, List.cons_append, List.nil_append, List.append_nil, List.length_cons, List.length_nil, List.replicate, List.getElem?_cons_zero, List.getElem?_cons_succ, List.set_cons_zero, List.set_cons_succ, Nat.reduceSub, Nat.reduceAdd, Int.reduceLT, Int.reduceLE, Int.reducePow, Int.reduceNeg, Nat.reducePow, List.cons.injEq, exists_eq_left', exists_eq_left, eq_self, if_false, if_true, ↓reduceIte, ite_not, forall_const, Option.join, Option.bind_some, id_eq])
  have ht : kindV H (.ref p) = some "list" := by simp [kindV, hp]
  obtain ⟨ws', ew, wb, w1, w60, wS⟩ := wOk_inv ok
  obtain rfl : ws = ws' := by
    have := congrArg (List.map prI) ew
    simpa [List.map_map, Function.comp_def, prI] using this
  have wL := sum_le wb
  have sz : ((share am ws).map V.int).length ≤ sizeLine := by rw [List.length_map, share_len, sizeLine_eq]; omega
  refine ⟨hN, ?_⟩
  simp only [ht]
  rw [if_neg (by decide)]
  refine ⟨_, .inl (.inl (.inl hp)), _, .inl (.inl (.inl hq)), ?_⟩
  rw [if_pos (by simp [share_len])]
  refine comp_lst p ((share am ws).map V.int) (fun H2 => Same H H2 ∧ NoT H2) (fun D ys hD => ⟨same_upd _ hD, noT_upd hN rfl⟩) (fun H2 c => .inl (.inl (c.1 _ _ hp))) (fun _ => true) (fun _ => .bl true) (fun R r => r) (.inl (.inl hp)) sz (fun x _ H2 R _ r => r) (fun x hx _ H2 R c r => ?_) (fun D hD => ?_)
  · obtain ⟨i, _, rfl⟩ := List.mem_map.mp hx
    ((try dsimp only [sp_is_whole, sp_is_among, sp_rounded, sp_weights, sp_shared, sp_at, sp_mixed, sp_number, sp_lweights, sp_told, sp_is_rounded]); try simp only [rdAll, rdI, V.int.injEq, V.ref.injEq, eqQ_int, eqQ_bl, eqQ_str, eqQ_ref, eqQ_nn, eqQ_ni, eqQ_in, eqQ_is, eqQ_si, L2.start, List.map_cons, List.map_nil, List.cons_append, List.nil_append, List.append_nil, List.length_cons, List.length_nil, List.replicate, List.getElem?_cons_zero, List.getElem?_cons_succ, List.set_cons_zero, List.set_cons_succ, Nat.reduceSub, Nat.reduceAdd, Int.reduceLT, Int.reduceLE, Int.reducePow, Int.reduceNeg, Nat.reducePow, List.cons.injEq, exists_eq_left', exists_eq_left, eq_self, if_false, if_true, ↓reduceIte, ite_not, forall_const, Option.join, Option.bind_some, id_eq])
    exact ⟨c.2, r⟩
  refine ⟨(share am ws).map fun _ => true, .inl (.inl (by rw [upd_same, List.filter_eq_self.mpr (fun _ _ => rfl), List.map_map, List.map_map]; rfl)), ?_⟩
  have ea : ((share am ws).map fun _ => true).all id = true := by simp
  rw [ea]
  refine ⟨H, Gc.none (same_upd _ hD), ?_⟩
  rw [if_neg (by decide)]
  refine ⟨ws, .inl (.inl (.inl hq)), share am ws, .inl (.inl (.inl hp)), ?_⟩
  rw [if_pos (share_sum am ws wS w60)]
  refine ⟨Nat.zero_le _, fun M hM => ⟨Nat.zero_le _, fun L hL => ?_⟩⟩
  have nLM : L ≠ M := fun z => by rw [z, upd_same] at hL; cases hL
  rw [upd_ne nLM] at hL
  have hq1 : SqL K (upd (upd H M (.lst [])) L (.lst [])) q (ws.map V.int) := .inl (.inl (by rw [upd_ne (fun z => by rw [← z, hq] at hL; cases hL), upd_ne (fun z => by rw [← z, hq] at hM; cases hM)]; exact hq))
  refine ⟨_, .inl hq1, ws.length, by rw [List.length_map], by omega, by omega, ?_⟩
  refine for_range (lo := 0) (n := ws.length) (fun i σ' H' => ∃ ms ls : List Pr, Side am ws (svd am ws) ms ∧ Side am ws (fun j => ¬ svd am ws j) ls ∧ ms.length ≤ i ∧ ls.length ≤ i ∧ Same H H' ∧ H' M = some (.lst (ms.map fun e => .ref e.1)) ∧ H' L = some (.lst (ls.map fun e => .ref e.1)) ∧
    (∀ e ∈ ms ++ ls, H' e.1 = some (.tup [.int e.2.1, .int e.2.2])) ∧ ∃ y6 y7, σ' = [some (V.ref p), some (V.int am), some (V.ref q), some (V.int ws.sum), some (V.ref M), some (V.ref L), y6, y7]) ?_ ?_ ?_
  · refine ⟨[], [], (fun _ m => nomatch m), (fun _ m => nomatch m), Nat.le_refl _, Nat.le_refl _, fun c o e => ?_, ?_, upd_same, (fun _ m => nomatch m), _, _, rfl⟩
    · rw [upd_ne (fun z => by rw [z, hL] at e; cases e), upd_ne (fun z => by rw [z, hM] at e; cases e)]; exact e
    · rw [upd_ne (Ne.symm nLM)]; exact upd_same
  · rintro i σ' H' lt ⟨ms, ls, sM, sL, lM, lL, sm, eM, eL, tp, y6, y7, rfl⟩
    have hp' := sm _ _ hp
    have hq' := sm _ _ hq
    have gw := getD_mem' wb lt
    have e1 : am * ws.getD i 0 = ws.sum * pt am ws.sum (ws.getD i 0) + rs am ws.sum (ws.getD i 0) := (Int.mul_ediv_add_emod _ _).symm
    have r0 : 0 ≤ rs am ws.sum (ws.getD i 0) := Int.emod_nonneg _ (Int.ne_of_gt wS)
    have r1 : rs am ws.sum (ws.getD i 0) < ws.sum := Int.emod_lt_of_pos _ wS
    have two : 2 ≤ sizeLine := by rw [sizeLine_eq]; decide
    have i0 : (0 : Int) + (i : Nat) = (i : Nat) := by omega
    ((try dsimp only [sp_is_whole, sp_is_among, sp_rounded, sp_weights, sp_shared, sp_at, sp_mixed, sp_number, sp_lweights, sp_told, sp_is_rounded]); try simp only [rdAll, rdI, V.int.injEq, V.ref.injEq, eqQ_int, eqQ_bl, eqQ_str, eqQ_ref, eqQ_nn, eqQ_ni, eqQ_in, eqQ_is, eqQ_si, L2.start, List.map_cons, List.map_nil, List.cons_append, List.nil_append, List.append_nil, List.length_cons, List.length_nil, List.replicate, List.getElem?_cons_zero, List.getElem?_cons_succ, List.set_cons_zero, List.set_cons_succ, Nat.reduceSub, Nat.reduceAdd, Int.reduceLT, Int.reduceLE, Int.reducePow, Int.reduceNeg, Nat.reducePow, List.cons.injEq, exists_eq_left', exists_eq_left, eq_self, if_false, if_true, ↓reduceIte, ite_not, forall_const, Option.join, Option.bind_some, id_eq])
    rw [i0]
    refine ⟨_, .int (ws.getD i 0), .inl (.inl (.inl hq')), atI_nat (by simp [lt]), .inr ⟨by omega, by omega⟩, _, _, .inl (.inl (.inl hp')), atI_nat (share_at lt), .inr ⟨by omega, by omega⟩, ?_⟩
    by_cases sv : rk (K5.cod am ws) ws.length i < (wn am ws).toNat
    · rw [if_pos sv]
      have er : am * ws.getD i 0 - (pt am ws.sum (ws.getD i 0) + 1) * ws.sum = rs am ws.sum (ws.getD i 0) - ws.sum := by
        rw [e1, Int.add_mul, Int.one_mul, Int.mul_comm ws.sum]; omega
      ((try dsimp only [sp_is_whole, sp_is_among, sp_rounded, sp_weights, sp_shared, sp_at, sp_mixed, sp_number, sp_lweights, sp_told, sp_is_rounded]); try simp only [rdAll, rdI, V.int.injEq, V.ref.injEq, eqQ_int, eqQ_bl, eqQ_str, eqQ_ref, eqQ_nn, eqQ_ni, eqQ_in, eqQ_is, eqQ_si, L2.start, List.map_cons, List.map_nil, List.cons_append, List.nil_append, List.append_nil, List.length_cons, List.length_nil, List.replicate, List.getElem?_cons_zero, List.getElem?_cons_succ, List.set_cons_zero, List.set_cons_succ, Nat.reduceSub, Nat.reduceAdd, Int.reduceLT, Int.reduceLE, Int.reducePow, Int.reduceNeg, Nat.reducePow, List.cons.injEq, exists_eq_left', exists_eq_left, eq_self, if_false, if_true, ↓reduceIte, ite_not, forall_const, Option.join, Option.bind_some, id_eq])
      rw [er]
      rw [if_pos (by omega)]
      refine ⟨.inl ⟨_, .inl (.inl eM)⟩, two, fun b hb => ?_⟩
      rw [Int.sub_add_cancel]
      have nb1 : M ≠ b := fun z => by rw [← z, eM] at hb; cases hb
      have nb2 : L ≠ b := fun z => by rw [← z, eL] at hb; cases hb
      refine ⟨M, _, _, rfl, rfl, (upd_ne nb1).trans eM, by rw [List.length_map, sizeLine_eq]; omega, ?_⟩
      rw [if_pos (by omega), if_pos (by omega)]
      have old : ∀ c o, H' c = some o → c ≠ M → upd (upd H' b (.tup [.int (rs am ws.sum (ws.getD i 0)), .int (-(i : Int))])) M (.lst (ms.map (fun e => V.ref e.1) ++ [.ref b])) c = some o := fun c o e n => by
        rw [upd_ne n, upd_ne (fun z => by rw [z, hb] at e; cases e)]; exact e
      have tn : ∀ e ∈ ms ++ ls, e.1 ≠ M := fun e m z => by have := tp e m; rw [z, eM] at this; cases this
      refine ⟨ms ++ [((b, rs am ws.sum (ws.getD i 0), -(i : Int)) : Pr)], ls, sM.more lt sv, sL, by (try simp); omega, by (try simp); omega, fun c o e => old _ _ (sm _ _ e) (fun z => by rw [z, hM] at e; cases e), by rw [upd_same]; simp, old _ _ eL nLM, fun e m => ?_, _, _, rfl, rfl⟩
      have m' : e ∈ ms ++ ls ∨ e = ((b, rs am ws.sum (ws.getD i 0), -(i : Int)) : Pr) := by
        simp only [List.mem_append, List.mem_singleton] at m ⊢
        rcases m with (m | m) | m
        · exact .inl (.inl m)
        · exact .inr m
        · exact .inl (.inr m)
      rcases m' with m' | rfl
      · exact old _ _ (tp e m') (tn e m')
      · rw [upd_ne (Ne.symm nb1)]; exact upd_same
    · rw [if_neg sv]
      have er : am * ws.getD i 0 - (pt am ws.sum (ws.getD i 0) + 0) * ws.sum = rs am ws.sum (ws.getD i 0) := by
        rw [e1, Int.add_zero, Int.mul_comm ws.sum]; omega
      ((try dsimp only [sp_is_whole, sp_is_among, sp_rounded, sp_weights, sp_shared, sp_at, sp_mixed, sp_number, sp_lweights, sp_told, sp_is_rounded]); try simp only [rdAll, rdI, V.int.injEq, V.ref.injEq, eqQ_int, eqQ_bl, eqQ_str, eqQ_ref, eqQ_nn, eqQ_ni, eqQ_in, eqQ_is, eqQ_si, L2.start, List.map_cons, List.map_nil, List.cons_append, List.nil_append, List.append_nil, List.length_cons, List.length_nil, List.replicate, List.getElem?_cons_zero, List.getElem?_cons_succ, List.set_cons_zero, List.set_cons_succ, Nat.reduceSub, Nat.reduceAdd, Int.reduceLT, Int.reduceLE, Int.reducePow, Int.reduceNeg, Nat.reducePow, List.cons.injEq, exists_eq_left', exists_eq_left, eq_self, if_false, if_true, ↓reduceIte, ite_not, forall_const, Option.join, Option.bind_some, id_eq])
      rw [er]
      rw [if_neg (by omega)]
      refine ⟨.inl ⟨_, .inl (.inl eL)⟩, two, fun b hb => ?_⟩
      have nb1 : L ≠ b := fun z => by rw [← z, eL] at hb; cases hb
      have nb2 : M ≠ b := fun z => by rw [← z, eM] at hb; cases hb
      refine ⟨L, _, _, rfl, rfl, (upd_ne nb1).trans eL, by rw [List.length_map, sizeLine_eq]; omega, ?_⟩
      rw [if_pos (by omega), if_pos (by omega)]
      have old : ∀ c o, H' c = some o → c ≠ L → upd (upd H' b (.tup [.int (rs am ws.sum (ws.getD i 0)), .int (-(i : Int))])) L (.lst (ls.map (fun e => V.ref e.1) ++ [.ref b])) c = some o := fun c o e n => by
        rw [upd_ne n, upd_ne (fun z => by rw [z, hb] at e; cases e)]; exact e
      have tn : ∀ e ∈ ms ++ ls, e.1 ≠ L := fun e m z => by have := tp e m; rw [z, eL] at this; cases this
      refine ⟨ms, ls ++ [((b, rs am ws.sum (ws.getD i 0), -(i : Int)) : Pr)], sM, sL.more lt sv, by (try simp); omega, by (try simp); omega, fun c o e => old _ _ (sm _ _ e) (fun z => by rw [z, hL] at e; cases e), old _ _ eM (Ne.symm nLM), by rw [upd_same]; simp, fun e m => ?_, _, _, rfl, rfl⟩
      have m' : e ∈ ms ++ ls ∨ e = ((b, rs am ws.sum (ws.getD i 0), -(i : Int)) : Pr) := by
        simp only [List.mem_append, List.mem_singleton] at m ⊢
        rcases m with m | (m | m)
        · exact .inl (.inl m)
        · exact .inl (.inr m)
        · exact .inr m
      rcases m' with m' | rfl
      · exact old _ _ (tp e m') (tn e m')
      · rw [upd_ne (Ne.symm nb1)]; exact upd_same
  · rintro σ' H' ⟨ms, ls, sM, sL, lM, lL, sm, eM, eL, tp, y6, y7, rfl⟩
    ((try dsimp only [sp_is_whole, sp_is_among, sp_rounded, sp_weights, sp_shared, sp_at, sp_mixed, sp_number, sp_lweights, sp_told, sp_is_rounded]); try simp only [rdAll, rdI, V.int.injEq, V.ref.injEq, eqQ_int, eqQ_bl, eqQ_str, eqQ_ref, eqQ_nn, eqQ_ni, eqQ_in, eqQ_is, eqQ_si, L2.start, List.map_cons, List.map_nil, List.cons_append, List.nil_append, List.append_nil, List.length_cons, List.length_nil, List.replicate, List.getElem?_cons_zero, List.getElem?_cons_succ, List.set_cons_zero, List.set_cons_succ, Nat.reduceSub, Nat.reduceAdd, Int.reduceLT, Int.reduceLE, Int.reducePow, Int.reduceNeg, Nat.reducePow, List.cons.injEq, exists_eq_left', exists_eq_left, eq_self, if_false, if_true, ↓reduceIte, ite_not, forall_const, Option.join, Option.bind_some, id_eq])
    have fin : ∀ {H2 : Hp}, Same H' H2 → ∃ G, Gc H G H2 ∧ Q (.bl true) G := fun s2 => ⟨H, Gc.none (fun c o e => s2 _ _ (sm _ _ e)), k⟩
    refine ⟨Nat.zero_le _, fun p3 hp3 => ?_⟩
    have s3 := same_upd (.lst []) hp3
    by_cases cM : ms = []
    · subst cM
      refine ⟨true, .lst (xs := []) (ys := []) (e := fun _ => true) (.inl (.inl (s3 _ _ eM))) (.inl (.inl upd_same)) rfl (fun j x y z => by simp at z), ?_⟩
      rw [if_pos rfl]
      exact fin s3
    refine ⟨false, .len (.inl (.inl (s3 _ _ eM))) (.inl (.inl upd_same)) (by simpa using cM), ?_⟩
    rw [if_neg (by decide)]
    refine ⟨Nat.zero_le _, fun p4 hp4 => ?_⟩
    have s4 := same_upd (.lst []) hp4
    by_cases cL : ls = []
    · subst cL
      refine ⟨true, .lst (xs := []) (ys := []) (e := fun _ => true) (.inl (.inl (s4 _ _ (s3 _ _ eL)))) (.inl (.inl upd_same)) rfl (fun j x y z => by simp at z), ?_⟩
      rw [if_pos rfl]
      exact fin fun c o e => s4 _ _ (s3 _ _ e)
    refine ⟨false, .len (.inl (.inl (s4 _ _ (s3 _ _ eL)))) (.inl (.inl upd_same)) (by simpa using cL), ?_⟩
    rw [if_neg (by decide)]
    have s5 : Same H' (upd (upd H' p3 (.lst [])) p4 (.lst [])) := fun c o e => s4 _ _ (s3 _ _ e)
    generalize upd (upd H' p3 (.lst [])) p4 (.lst []) = H2 at s5
    have bn : ∀ {pr : Nat → Prop} {es : List Pr}, Side am ws pr es → ∀ e ∈ es, -63 ≤ e.2.2 ∧ e.2.2 < -63 + 64 := fun sd e m => by
      obtain ⟨j, hj, _, e2⟩ := sd e m
      rw [e2]; constructor
      · show (-63 : Int) ≤ -(j : Int); omega
      · show -(j : Int) < -63 + 64; omega
    refine ⟨ms, -63, .inl (.inl (s5 _ _ eM)), fun e m => .inl (.inl (s5 _ _ (tp e (List.mem_append_left _ m)))), cM, bn sM, fun e1 m1 _ => ?_⟩
    refine ⟨ls, -63, .inl (.inl (s5 _ _ eL)), fun e m => .inl (.inl (s5 _ _ (tp e (List.mem_append_right _ m)))), cL, bn sL, fun e2 m2 _ => ?_⟩
    obtain ⟨i, hi, si, ei⟩ := sM e1 m1
    obtain ⟨j, hj, sj, ej⟩ := sL e2 m2
    have t1 := s5 _ _ (tp e1 (List.mem_append_left _ m1))
    have t2 := s5 _ _ (tp e2 (List.mem_append_right _ m2))
    rw [ei] at t1
    rw [ej] at t2
    refine ⟨_, _, _, _, .inl (.inl t1), .inl (.inl t2), ?_⟩
    have lt := ahead si sj
    unfold K5.cod at lt
    rw [decide_eq_true (by show rs am ws.sum (ws.getD i 0) > rs am ws.sum (ws.getD j 0) ∨ rs am ws.sum (ws.getD i 0) = rs am ws.sum (ws.getD j 0) ∧ -(i : Int) > -(j : Int); omega)]
    exact fin s5
end
end K5
set_option Elab.async false
set_option linter.all false
set_option maxRecDepth 100000
set_option maxHeartbeats 4000000
namespace K5
open PySem L2
seal L2.PE L2.PT L2.PW L2.PA L2.PS L2.PSs L2.PI L2.PG L2.PGs L2.PO
section
variable {pS : Addr} {ns : List Int} {P : Program} {w : World} {K : PySem.W.Frag} {mg : Str → Option Value} {base : Heap} {a : Adr}
def SpoK (G : Hp) (x : V) : Prop :=
  (∃ p xs, x = .ref p ∧ G p = some (.lst xs) ∧ xs.length ≤ 4000 ∧ ∀ y ∈ xs, ∃ t, kindV G y = some t) ∨ x = .non ∨ (∃ i, x = .int i) ∨ (∃ l, x = L2.T l) ∨
  (∃ p, ∃ ys : List Int, x = .ref p ∧ G p = some (.tup (ys.map V.int)) ∧ ys.length ≤ 60) ∨ ∃ p k u, x = .ref p ∧ G p = some (.dK [(k, u)])
def New (H G : Hp) : Prop := Same H G ∧ NoT G ∧ ∀ p o, G p = some o → H p = some o ∨ plainO o = true
def flP : V → Prop
  | .int _ => True
  | .bl _ => True
  | .non => True
  | .str _ => True
  | _ => False
theorem flat_kind {x : V} (h : flP x) (H : Hp) : ∃ t, kindV H x = some t := by
  cases x with
  | int _ => exact ⟨_, rfl⟩
  | bl _ => exact ⟨_, rfl⟩
  | non => exact ⟨_, rfl⟩
  | str _ => exact ⟨_, rfl⟩
  | _ => exact h.elim
theorem atI_pos {xs : List V} {i : Int} (h0 : 0 ≤ i) (h1 : i < xs.length) : ∃ v, v ∈ xs ∧ atI xs i = some v := by
  obtain ⟨n, rfl⟩ := Int.eq_ofNat_of_zero_le h0
  have hn : n < xs.length := by omega
  exact ⟨xs[n], List.getElem_mem hn, atI_nat (List.getElem?_eq_getElem hn)⟩
theorem pick_or {xs : List V} {H H1 : Hp} {Q : VK} {i : Int} (h0 : 0 ≤ i) (h1 : i < xs.length) (h : ∀ v ∈ xs, (flP v ∧ Q v H) ∨ (∃ p o, v = .ref p ∧ H p = none ∧ H1 p = some o ∧ plainO o = true ∧ Q (.ref p) (upd H p o))) : kPick xs H H1 Q (.int i) := by
  obtain ⟨v, hv, e⟩ := atI_pos h0 h1
  rcases h v hv with ⟨f, q⟩ | ⟨p, o, rfl, hp, ho, pl, r⟩
  · unfold kPick
    dsimp only
    rw [e]
    cases v with
    | int _ => exact q
    | bl _ => exact q
    | non => exact q
    | str _ => exact q
    | _ => exact f.elim
  · exact pick_ref e hp ho pl r
theorem New.refl {H : Hp} (h : NoT H) : New H H := ⟨Same.refl _, h, fun _ _ e => .inl e⟩
theorem New.up {H G : Hp} {q : Addr} {o : HO} (n : New H G) (hq : G q = none) (pl : plainO o = true) (d : dTfree o = true) : New H (upd G q o) :=
  ⟨fun c u e => same_upd _ hq _ _ (n.1 _ _ e), noT_upd n.2.1 d, fun c u e => by
    by_cases z : c = q
    · rw [z, upd_same] at e; cases e; exact .inr pl
    · rw [upd_ne z] at e; exact n.2.2 _ _ e⟩
theorem New.al {H G : Hp} {q : Addr} {o : HO} (n : New H G) (hq : G q = none) (pl : plainO o = true) (d : dTfree o = true) : ∃ G', upd G q o = G' ∧ New H G' ∧ Same G G' ∧ G' q = some o := ⟨_, rfl, n.up hq pl d, same_upd _ hq, upd_same⟩
theorem New.gc {H G : Hp} (n : New H G) : Gc H G G := ⟨n.1, Same.refl _, n.2.2⟩
theorem cut_sub (xs : List V) (lo hi : Option Int) : (cutV xs lo hi).length ≤ xs.length ∧ ∀ y ∈ cutV xs lo hi, y ∈ xs := by
  unfold cutV
  refine ⟨?_, fun y m => ?_⟩
  · rw [List.length_take, List.length_drop]; omega
  · exact List.mem_of_mem_drop (List.mem_of_mem_take m)
theorem pick_odd {xs : List V} {H H1 : Hp} {Q : VK} {i : Int} (hN : NoT H) (h0 : 0 ≤ i) (h1 : i < xs.length) (h : ∀ v ∈ xs, flP v ∨ (∃ p o, v = .ref p ∧ H p = none ∧ H1 p = some o ∧ plainO o = true ∧ dTfree o = true ∧ ∃ t, kindV (upd H p o) (.ref p) = some t))
    (k : ∀ v G, New H G → (∃ t, kindV G v = some t) → Q v G) : kPick xs H H1 Q (.int i) :=
  pick_or h0 h1 fun v m => by
    rcases h v m with f | ⟨p, o, rfl, hp, ho, pl, d, t⟩
    · exact .inl ⟨f, k _ _ (New.refl hN) (flat_kind f _)⟩
    · exact .inr ⟨p, o, rfl, hp, ho, pl, k _ _ ((New.refl hN).up hp pl d) t⟩
theorem rep_int (n : Nat) (i : Int) : (List.replicate n [V.int i]).flatten = (List.replicate n i).map V.int := by
  induction n with
  | zero => rfl
  | succ n ih => rw [List.replicate_succ, List.flatten_cons, ih, List.replicate_succ]; rfl
theorem rep_len (n : Nat) (xs : List V) : (List.replicate n xs).flatten.length = n * xs.length := by
  induction n with
  | zero => simp
  | succ n ih => rw [List.replicate_succ, List.flatten_cons, List.length_append, ih, Nat.succ_mul]; omega
theorem upd2 {G : Hp} {q : Addr} {o u : HO} : upd (upd G q o) q u = upd G q u := by
  funext b
  by_cases h : b = q
  · rw [h, upd_same, upd_same]
  · rw [upd_ne h, upd_ne h, upd_ne h]
theorem spo_ints {G : Hp} {q : Addr} {zs : List Int} (h : G q = some (.lst (zs.map V.int))) (l : zs.length ≤ 4000) : SpoK G (.ref q) := .inl ⟨q, _, rfl, h, by rw [List.length_map]; exact l, fun y m => by obtain ⟨i, _, rfl⟩ := List.mem_map.mp m; exact ⟨_, rfl⟩⟩
theorem kind_int' (G : Hp) {ws : List Int} {y : V} (m : y ∈ ws.map V.int) : ∃ t, kindV G y = some t := by
  obtain ⟨i, _, rfl⟩ := List.mem_map.mp m
  exact ⟨_, rfl⟩
def sp_spoilt : Sp := sp2 fun x y H Q _ => NoT H ∧ asR x fun p => asI y fun c => ∃ ws, H p = some (.lst (ws.map V.int)) ∧ WSok ws ∧ ∀ z G, New H G → SpoK G z → Q z G
theorem ok__law_spoilt (T : Txt K mg a) : FnOk P w K mg base (XE P w) 1 a.f__law_spoilt a.fd__law_spoilt ["_law_weights_here", "_law_cell"] sp_spoilt := by
  refine T.F__law_spoilt.okG sc__law_spoilt (fun vs H Q E h => sp2.len h) (fun cdv A outer s H vs Q E hr h => ?_)
  obtain ⟨x0, x1, rfl, h⟩ := sp2.inv h
  have ND := sc__law_spoilt.nd
  have PX : Passes' (XE P w) (cxOf (XE P w) P w K mg base ["_law_weights_here", "_law_cell", "_law_at_here", "_law_odd", "_law_way"] "_law_spoilt" (defScope s__law_spoilt) a.f__law_spoilt cdv A outer s H (gcE H E)) (fun _ => (gcE H E)) := passB
  have RX : Raises (cxOf (XE P w) P w K mg base ["_law_weights_here", "_law_cell", "_law_at_here", "_law_odd", "_law_way"] "_law_spoilt" (defScope s__law_spoilt) a.f__law_spoilt cdv A outer s H (gcE H E)) (fun _ => (gcE H E)) := raisesB
  have HU : (cxOf (XE P w) P w K mg base ["_law_weights_here", "_law_cell", "_law_at_here", "_law_odd", "_law_way"] "_law_spoilt" (defScope s__law_spoilt) a.f__law_spoilt cdv A outer s H (gcE H E)).A.units + 100 < cLine := units100 hr
  obtain ⟨hN, h1⟩ := h
  obtain ⟨p, rfl, h2⟩ := asR.inv h1
  obtain ⟨c, rfl, ws, hp, ok, k⟩ := asI.inv h2
  refine ⟨hN, _, (pss_cons (ps_set (i := 2) ND rfl (Or.inl rfl) (pe_op fo_mod (pe_op fo_fdiv (fv 1) pe_int) (pe_callB (fc_lenK K) rfl T.z_len bb_len (FA.pa (fa_cons (fv 0) fa_nil)))))
      (pss_cons (ps_set (i := 3) ND rfl (Or.inl rfl) (fe_pickL (FA.pa (fa_cons (pe_un fu_neg pe_int) (fa_cons (pe_op fo_add (pe_op fo_pow pe_int pe_int) pe_int) (fa_cons pe_bl (fa_cons pe_bl (fa_cons pe_non (fa_cons (pe_strT [49]) (fa_cons (pe_lst (FA.pa (fa_cons pe_int fa_nil))) (fa_cons (pe_tup (FA.pa (fa_cons pe_int fa_nil))) (fa_cons fe_dnew (fa_cons (pe_un fu_neg (pe_op fo_pow pe_int pe_int)) fa_nil))))))))))) (pe_op fo_mod (pe_op fo_fdiv (fv 1) pe_int) pe_int) (fun _ _ => rfl)))
      (pss_cons (ps_set (i := 4) ND rfl (Or.inl rfl) (pe_op fo_mod (pe_op fo_fdiv (fv 1) pe_int) pe_int))
      (pss_cons (ps_if (ft_cmp (fo_eqQ K HU) (fv 4) pe_int (nomark _)) (pss_one (ps_ret (pe_op fo_cat (pe_op fo_cat (pe_slice (fs_listK K) (fv 0) po_none (po_some (fv 2))) (pe_lst (FA.pa (fa_cons (fv 3) fa_nil)))) (pe_slice (fs_listK K) (fv 0) (po_some (pe_op fo_add (fv 2) pe_int)) po_none)))) pss_nil)
      (pss_cons (ps_if (ft_cmp (fo_eqQ K HU) (fv 4) pe_int (nomark _)) (pss_one (ps_ret (fe_pickL (FA.pa (fa_cons (pe_lst (FA.pa fa_nil)) (fa_cons (pe_op fo_rep (pe_lst (FA.pa (fa_cons pe_int fa_nil))) (pe_callB (fc_lenK K) rfl T.z_len bb_len (FA.pa (fa_cons (fv 0) fa_nil)))) (fa_cons (pe_op fo_rep (pe_lst (FA.pa (fa_cons pe_int fa_nil))) pe_int) (fa_cons (pe_callTy (fc_tuple K) rfl T.z_tuple bb_tuple (FA.pa (fa_cons (fv 0) fa_nil))) (fa_cons pe_non (fa_cons pe_int (fa_cons (pe_strT [49]) (fa_cons (pe_disp (pps_cons pe_int pe_int pps_nil) rfl rfl (by simp) (by decide)) fa_nil))))))))) (pe_op fo_mod (pe_op fo_fdiv (fv 1) pe_int) pe_int) (fun _ _ => rfl)))) pss_nil)
      (pss_one (ps_ret (pe_op fo_cat (pe_slice (fs_listK K) (pe_op fo_rep (fv 0) pe_int) po_none (po_some pe_int)) (fe_pickL (FA.pa (fa_cons (pe_lst (FA.pa (fa_cons pe_int fa_nil))) (fa_cons (pe_lst (FA.pa (fa_cons pe_int fa_nil))) (fa_cons (pe_lst (FA.pa (fa_cons pe_int (fa_cons pe_int fa_nil)))) (fa_cons (pe_lst (FA.pa (fa_cons (fv 3) fa_nil))) fa_nil))))) (pe_op fo_mod (pe_op fo_fdiv (fv 1) pe_int) pe_int) (fun _ _ => rfl)))))))))), ?_⟩
  ((try dsimp only [sp_is_whole, sp_is_among, sp_rounded, sp_weights, sp_shared, sp_at, sp_mixed, sp_number, sp_lweights, sp_told, sp_is_rounded, sp_is_shared]); try simp only [rdAll, rdI, V.int.injEq, V.ref.injEq, eqQ_int, eqQ_bl, eqQ_str, eqQ_ref, eqQ_nn, eqQ_ni, eqQ_in, eqQ_is, eqQ_si, L2.start, List.map_cons, List.map_nil, List.cons_append, List.nil_append, List.append_nil, List.length_cons, List.length_nil, List.replicate, List.getElem?_cons_zero, List.getElem?_cons_succ, List.set_cons_zero, List.set_cons_succ, Nat.reduceSub, Nat.reduceAdd, Int.reduceLT, Int.reduceLE, Int.reducePow, Int.reduceNeg, Nat.reducePow, List.cons.injEq, exists_eq_left', exists_eq_left, eq_self, if_false, if_true, ↓reduceIte, ite_not, forall_const, Option.join, Option.bind_some, id_eq])
  obtain ⟨l1, l60, wb⟩ := ok
  have sz : 10000 ≤ sizeLine := by rw [sizeLine_eq]; decide
  have lm : (ws.map V.int).length = ws.length := List.length_map ..
  refine ⟨ws.map V.int, .inl (.inl (.inl hp)), by rw [lm]; omega, hN, by decide, by omega, fun p1 h1 => ⟨by omega, fun p2 h2 p3 h3 => ⟨by decide, ?_, by omega, fun p4 h4 => ?_⟩⟩⟩
  · exact ((same_upd _ h1).trans (same_upd _ h2)).trans (same_upd _ h3)
  have n21 : p2 ≠ p1 := fun z => by rw [z, upd_same] at h2; cases h2
  have n32 : p3 ≠ p2 := fun z => by rw [z, upd_same] at h3; cases h3
  have n31 : p3 ≠ p1 := fun z => by rw [z, upd_ne (Ne.symm n21), upd_same] at h3; cases h3
  have q2 : H p2 = none := by rw [upd_ne n21] at h2; exact h2
  have q3 : H p3 = none := by rw [upd_ne n32, upd_ne n31] at h3; exact h3
  refine pick_odd hN (Int.emod_nonneg _ (by decide)) (Int.emod_lt_of_pos _ (by decide)) (fun v m => ?_) (fun x H1 N1 kx => ?_)
  · simp only [List.mem_cons, List.not_mem_nil, or_false] at m
    rcases m with rfl | rfl | rfl | rfl | rfl | rfl | rfl | rfl | rfl | rfl
    · exact .inl trivial
    · exact .inl trivial
    · exact .inl trivial
    · exact .inl trivial
    · exact .inl trivial
    · exact .inl trivial
    · exact .inr ⟨p1, _, rfl, h1, by rw [upd_ne (Ne.symm n31), upd_ne (Ne.symm n21)]; exact upd_same, rfl, rfl, "list", by simp [kindV, upd_same]⟩
    · exact .inr ⟨p2, _, rfl, q2, by rw [upd_ne (Ne.symm n32)]; exact upd_same, rfl, rfl, "tuple", by simp [kindV, upd_same]⟩
    · exact .inr ⟨p3, _, rfl, q3, upd_same, rfl, rfl, "dict", by simp [kindV, upd_same]⟩
    · exact .inl trivial
  clear h1 h2 h3 h4 n21 n32 n31 q2 q3
  have hp1 := N1.1 _ _ hp
  have kx' : ∀ {G : Hp}, Same H1 G → ∃ t, kindV G x = some t := fun s => let ⟨t, h⟩ := kx; ⟨t, kind_same s h⟩
  split
  · obtain ⟨c1, c2⟩ := cut_sub (ws.map V.int) none (some (c / 4 % (ws.map V.int).length))
    obtain ⟨d1, d2⟩ := cut_sub (ws.map V.int) (some (c / 4 % (ws.map V.int).length + 1)) none
    refine ⟨p, _, rfl, .inl (.inl hp1), fun s1 g1 => ?_⟩
    generalize cutV (ws.map V.int) none (some (c / 4 % (ws.map V.int).length)) = u1 at c1 c2 ⊢
    obtain ⟨G2, E2, N2, S2, A2⟩ := N1.al (o := .lst u1) g1 rfl rfl
    rw [E2]
    refine ⟨by omega, fun p5 g5 => ?_⟩
    obtain ⟨G3, E3, N3, S3, A3⟩ := N2.al (o := .lst [x]) g5 rfl rfl
    rw [E3]
    refine ⟨_, _, S3 _ _ A2, A3, by simp; omega, fun q1 h1 => ?_⟩
    obtain ⟨G4, E4, N4, S4, A4⟩ := N3.al (o := .lst (u1 ++ [x])) h1 rfl rfl
    rw [E4]
    refine ⟨p, _, rfl, .inl (.inl (S4 _ _ (S3 _ _ (S2 _ _ hp1)))), fun s2 g2 => ?_⟩
    generalize cutV (ws.map V.int) (some (c / 4 % (ws.map V.int).length + 1)) none = u2 at d1 d2 ⊢
    obtain ⟨G5, E5, N5, S5, A5⟩ := N4.al (o := .lst u2) g2 rfl rfl
    rw [E5]
    refine ⟨_, _, S5 _ _ A4, A5, by simp; omega, fun q2 h2 => ?_⟩
    obtain ⟨G6, E6, N6, S6, A6⟩ := N5.al (o := .lst (u1 ++ [x] ++ u2)) h2 rfl rfl
    rw [E6]
    refine ⟨G6, N6.gc, k _ _ N6 (.inl ⟨q2, _, rfl, A6, by simp; omega, fun y m => ?_⟩)⟩
    simp only [List.mem_append, List.mem_singleton] at m
    rcases m with (m | rfl) | m
    · exact kind_int' _ (c2 y m)
    · exact kx' fun c o e => S6 _ _ (S5 _ _ (S4 _ _ (S3 _ _ (S2 _ _ e))))
    · exact kind_int' _ (d2 y m)
  split
  · refine ⟨N1.2.1, Nat.zero_le _, fun a1 g1 => ?_⟩
    obtain ⟨G2, E2, N2, S2, A2⟩ := N1.al (o := .lst []) g1 rfl rfl
    rw [E2]
    refine ⟨by omega, fun a2 g2 => ?_⟩
    obtain ⟨G3, E3, N3, S3, A3⟩ := N2.al (o := .lst [.int 0]) g2 rfl rfl
    rw [E3]
    have hp3 := S3 _ _ (S2 _ _ hp1)
    refine ⟨_, .inl (.inl (.inl hp3)), _, A3, by omega, by omega, by simp; omega, fun a3 g3 => ?_⟩
    rw [rep_int]
    obtain ⟨G4, E4, N4, S4, A4⟩ := N3.al (o := .lst ((List.replicate (((ws.map V.int).length : Nat) : Int).toNat 0).map V.int)) g3 rfl rfl
    rw [E4]
    refine ⟨by omega, fun a4 g4 => ?_⟩
    obtain ⟨G5, E5, N5, S5, A5⟩ := N4.al (o := .lst [.int 1]) g4 rfl rfl
    rw [E5]
    refine ⟨_, A5, by simp; omega, fun a5 g5 => ?_⟩
    rw [rep_int]
    obtain ⟨G6, E6, N6, S6, A6⟩ := N5.al (o := .lst ((List.replicate (Int.toNat 61) 1).map V.int)) g5 rfl rfl
    rw [E6]
    have S16 : Same H1 G6 := fun c o e => S6 _ _ (S5 _ _ (S4 _ _ (S3 _ _ (S2 _ _ e))))
    refine ⟨_, .inl ⟨.inl (.inl (S16 _ _ hp1)), fun a6 g6 => ?_⟩⟩
    obtain ⟨G7, E7, N7, S7, A7⟩ := N6.al (o := .tup (ws.map V.int)) g6 rfl rfl
    rw [E7]
    intro a7 g7
    have S8 := same_upd (.dK []) g7
    refine ⟨upd_same, [(.inl 1, .int 1)], rfl, by decide, ?_⟩
    have em : mergeK [] [((.inl 1 : Key), V.int 1)] = [(.inl 1, .int 1)] := rfl
    rw [upd2, em]
    obtain ⟨G8, E8, N8, S8', A8⟩ := N7.al (o := .dK [(.inl 1, .int 1)]) g7 rfl rfl
    rw [E8]
    have T7 : Same G6 G8 := fun c o e => S8' _ _ (S7 _ _ e)
    have S18 : Same H1 G8 := fun c o e => T7 _ _ (S16 _ _ e)
    refine ⟨S18, by omega, fun a9 g9 => pick_or (Int.emod_nonneg _ (by decide)) (Int.emod_lt_of_pos _ (by decide)) fun v m => ?_⟩
    have fr : ∀ {b : Addr} {G : Hp}, Same H1 G → G b = none → H1 b = none := fun s e => s.free e
    have S13 : Same H1 G3 := fun c o e => S3 _ _ (S2 _ _ e)
    have S15 : Same H1 G5 := fun c o e => S5 _ _ (S4 _ _ (S13 _ _ e))
    have S17 : Same H1 G7 := fun c o e => S7 _ _ (S16 _ _ e)
    simp only [List.mem_cons, List.not_mem_nil, or_false] at m
    rcases m with rfl | rfl | rfl | rfl | rfl | rfl | rfl | rfl
    · exact .inr ⟨a1, _, rfl, g1, T7 _ _ (S6 _ _ (S5 _ _ (S4 _ _ (S3 _ _ A2)))), rfl, _, (N1.up g1 rfl rfl).gc, k _ _ (N1.up g1 rfl rfl) (spo_ints (zs := []) upd_same (by simp))⟩
    · exact .inr ⟨a3, _, rfl, fr S13 g3, T7 _ _ (S6 _ _ (S5 _ _ A4)), rfl, _, (N1.up (fr S13 g3) rfl rfl).gc, k _ _ (N1.up (fr S13 g3) rfl rfl) (spo_ints upd_same (by simp; omega))⟩
    · exact .inr ⟨a5, _, rfl, fr S15 g5, T7 _ _ A6, rfl, _, (N1.up (fr S15 g5) rfl rfl).gc, k _ _ (N1.up (fr S15 g5) rfl rfl) (spo_ints upd_same (by simp))⟩
    · exact .inr ⟨a6, _, rfl, fr S16 g6, S8' _ _ A7, rfl, _, (N1.up (fr S16 g6) rfl rfl).gc, k _ _ (N1.up (fr S16 g6) rfl rfl) (.inr (.inr (.inr (.inr (.inl ⟨a6, ws, rfl, upd_same, l60⟩)))))⟩
    · exact .inl ⟨trivial, _, N1.gc, k _ _ N1 (.inr (.inl rfl))⟩
    · exact .inl ⟨trivial, _, N1.gc, k _ _ N1 (.inr (.inr (.inl ⟨_, rfl⟩)))⟩
    · exact .inl ⟨trivial, _, N1.gc, k _ _ N1 (.inr (.inr (.inr (.inl ⟨_, rfl⟩))))⟩
    · exact .inr ⟨a7, _, rfl, fr S17 g7, A8, rfl, _, (N1.up (fr S17 g7) rfl rfl).gc, k _ _ (N1.up (fr S17 g7) rfl rfl) (.inr (.inr (.inr (.inr (.inr ⟨a7, _, _, rfl, upd_same⟩)))))⟩
  · refine ⟨_, hp1, by rw [lm]; simp; omega, fun a1 g1 => ?_⟩
    have rm : ∀ y ∈ (List.replicate (Int.toNat 60) (ws.map V.int)).flatten, y ∈ ws.map V.int := fun y m => by
      obtain ⟨l, m1, m2⟩ := List.mem_flatten.mp m
      rwa [List.eq_of_mem_replicate m1] at m2
    have rl : (List.replicate (Int.toNat 60) (ws.map V.int)).flatten.length ≤ 3600 := by rw [rep_len, lm]; show 60 * ws.length ≤ 3600; omega
    generalize (List.replicate (Int.toNat 60) (ws.map V.int)).flatten = rp at rm rl ⊢
    obtain ⟨G2, E2, N2, S2, A2⟩ := N1.al (o := .lst rp) g1 rfl rfl
    rw [E2]
    obtain ⟨c1, c2⟩ := cut_sub rp none (some 60)
    refine ⟨a1, _, rfl, .inl (.inl A2), fun s1 g2 => ?_⟩
    generalize cutV rp none (some 60) = u at c1 c2 ⊢
    obtain ⟨G3, E3, N3, S3, A3⟩ := N2.al (o := .lst u) g2 rfl rfl
    rw [E3]
    have S13 : Same H1 G3 := fun c o e => S3 _ _ (S2 _ _ e)
    have fin : ∀ (b : Addr) (zs : List V), G3 b = none → zs.length ≤ 2 → (∀ y ∈ zs, ∃ t, kindV G3 y = some t) → gCat (.ref s1) (.ref b) (upd G3 b (.lst zs)) fun v H' => ∃ G, Gc H G H' ∧ Q v G := fun b zs hb lz kz => by
      obtain ⟨G4, E4, N4, S4, A4⟩ := N3.al (o := .lst zs) hb rfl rfl
      rw [E4]
      refine ⟨_, _, S4 _ _ A3, A4, by omega, fun q hq => ?_⟩
      obtain ⟨G5, E5, N5, S5, A5⟩ := N4.al (o := .lst (u ++ zs)) hq rfl rfl
      rw [E5]
      refine ⟨G5, N5.gc, k _ _ N5 (.inl ⟨q, _, rfl, A5, by rw [List.length_append]; omega, fun y m => ?_⟩)⟩
      rcases List.mem_append.mp m with m | m
      · exact kind_int' _ (rm y (c2 y m))
      · obtain ⟨t, h⟩ := kz y m
        exact ⟨t, kind_same (fun c o e => S5 _ _ (S4 _ _ e)) h⟩
    refine ⟨N3.2.1, by omega, fun b1 f1 => ?_⟩
    obtain ⟨G4, E4, N4, S4, A4⟩ := N3.al (o := .lst [.int 1]) f1 rfl rfl
    rw [E4]
    refine ⟨by omega, fun b2 f2 => ?_⟩
    obtain ⟨G5, E5, N5, S5, A5⟩ := N4.al (o := .lst [.int 0]) f2 rfl rfl
    rw [E5]
    refine ⟨by omega, fun b3 f3 => ?_⟩
    obtain ⟨G6, E6, N6, S6, A6⟩ := N5.al (o := .lst [.int 1, .int 2]) f3 rfl rfl
    rw [E6]
    refine ⟨by omega, fun b4 f4 => ?_⟩
    obtain ⟨G7, E7, N7, S7, A7⟩ := N6.al (o := .lst [x]) f4 rfl rfl
    rw [E7]
    have T5 : Same G3 G5 := fun c o e => S5 _ _ (S4 _ _ e)
    have T6 : Same G3 G6 := fun c o e => S6 _ _ (T5 _ _ e)
    have T7 : Same G3 G7 := fun c o e => S7 _ _ (T6 _ _ e)
    refine ⟨T7, by omega, fun b5 f5 => pick_or (Int.emod_nonneg _ (by decide)) (Int.emod_lt_of_pos _ (by decide)) fun v m => ?_⟩
    simp only [List.mem_cons, List.not_mem_nil, or_false] at m
    rcases m with rfl | rfl | rfl | rfl
    · exact .inr ⟨b1, _, rfl, f1, S7 _ _ (S6 _ _ (S5 _ _ A4)), rfl, fin b1 _ f1 (by simp) (fun y m => by rw [List.mem_singleton.mp m]; exact ⟨_, rfl⟩)⟩
    · exact .inr ⟨b2, _, rfl, S4.free f2, S7 _ _ (S6 _ _ A5), rfl, fin b2 _ (S4.free f2) (by simp) (fun y m => by rw [List.mem_singleton.mp m]; exact ⟨_, rfl⟩)⟩
    · exact .inr ⟨b3, _, rfl, T5.free f3, S7 _ _ A6, rfl, fin b3 _ (T5.free f3) (by simp) (fun y m => by simp at m; rcases m with rfl | rfl <;> exact ⟨_, rfl⟩)⟩
    · exact .inr ⟨b4, _, rfl, T6.free f4, A7, rfl, fin b4 _ (T6.free f4) (by simp) (fun y m => by rw [List.mem_singleton.mp m]; exact kx' S13)⟩
end
end K5
set_option Elab.async false
set_option linter.all false
set_option maxRecDepth 100000
set_option maxHeartbeats 4000000
namespace K5
open PySem L2
seal L2.PE L2.PT L2.PW L2.PA L2.PS L2.PSs L2.PI L2.PG L2.PGs L2.PO
section
variable {pS : Addr} {ns : List Int} {P : Program} {w : World} {K : PySem.W.Frag} {mg : Str → Option Value} {base : Heap} {a : Adr}
theorem eqH_self {K : PySem.W.Frag} {H : Hp} {n : Nat} {x : V} {t : String} (h : kindV H x = some t) : EqH K H n x x true := by
  cases x with
  | ref p => exact .same
  | int i => exact (show eqV (.int i) (.int i) = true by simp [eqV]) ▸ EqH.flat rfl rfl
  | bl i => exact (show eqV (.bl i) (.bl i) = true by simp [eqV]) ▸ EqH.flat rfl rfl
  | str i => exact (show eqV (.str i) (.str i) = true by simp [eqV]) ▸ EqH.flat rfl rfl
  | non => exact (show eqV .non .non = true by simp [eqV]) ▸ EqH.flat rfl rfl
  | _ => cases h
theorem eqR_self {K : PySem.W.Frag} {H : Hp} {p q : Addr} {xs : List V} (hx : SqL K H p xs) (hy : SqL K H q xs) (hk : ∀ y ∈ xs, ∃ t, kindV H y = some t) : EqR K H p q true := by
  have h : EqR K H p q ((List.range xs.length).all fun _ => true) := .lst hx hy rfl fun j x y ex ey => by
    rw [ex] at ey; cases ey
    obtain ⟨t, ht⟩ := hk x (List.mem_of_getElem? ex)
    exact eqH_self ht
  rw [List.all_eq_true.mpr (fun _ _ => rfl)] at h
  exact h
theorem eqR_tup {K : PySem.W.Frag} {H : Hp} {p q : Addr} {xs : List V} (hx : SqT K H p xs) (hy : SqT K H q xs) (hk : ∀ y ∈ xs, ∃ t, kindV H y = some t) : EqR K H p q true := by
  have h : EqR K H p q ((List.range (min xs.length xs.length)).all (fun _ => true) && xs.length == xs.length) := .tup hx hy fun j x y ex ey => by
    rw [ex] at ey; cases ey
    obtain ⟨t, ht⟩ := hk x (List.mem_of_getElem? ex)
    exact eqH_self ht
  rw [List.all_eq_true.mpr (fun _ _ => rfl), beq_self_eq_true] at h
  exact h
theorem ints_inj {as bs : List Int} (h : as.map V.int = bs.map V.int) : as = bs := by
  have := congrArg (List.map prI) h
  simpa [List.map_map, Function.comp_def, prI] using this
theorem div_small {n b : Int} (hb : 0 < b) (h1 : -18446744073709551615 * b ≤ n) (h2 : n < 18446744073709551615 * b) : -18446744073709551616 < n / b ∧ n / b < 18446744073709551615 :=
  ⟨Int.lt_of_lt_of_le (by decide) (Int.le_ediv_of_mul_le hb h1), Int.ediv_lt_of_lt_mul hb h2⟩
def sp_law (K : PySem.W.Frag) : Sp := sp1 fun x H Q _ => asR x fun p => NoT H ∧ ∃ ns : List Int, SqL K H p (ns.map V.int) ∧ Q (.bl true) H
theorem ok_law (T : Txt K mg a) : FnOk P w K mg base (XE P w) 8 a.f_law a.fd_law ["_law_script"] (sp_law K) := by
  refine T.F_law.okG sc_law (fun vs H Q E h => sp1.len h) (fun cdv A outer s H vs Q E hr h => ?_)
  obtain ⟨x0, rfl, h⟩ := sp1.inv h
  have ND := sc_law.nd
  have PX : Passes' (XE P w) (cxOf (XE P w) P w K mg base ["_law_script", "_law_number_here", "_law_by", "_law_weights_here", "_law_is_list", "_law_handed", "_law_found", "_law_kept"] "law" (defScope s_law) a.f_law cdv A outer s H (gcE H E)) (fun _ => (gcE H E)) := passB
  have RX : Raises (cxOf (XE P w) P w K mg base ["_law_script", "_law_number_here", "_law_by", "_law_weights_here", "_law_is_list", "_law_handed", "_law_found", "_law_kept"] "law" (defScope s_law) a.f_law cdv A outer s H (gcE H E)) (fun _ => (gcE H E)) := raisesB
  have HU : (cxOf (XE P w) P w K mg base ["_law_script", "_law_number_here", "_law_by", "_law_weights_here", "_law_is_list", "_law_handed", "_law_found", "_law_kept"] "law" (defScope s_law) a.f_law cdv A outer s H (gcE H E)).A.units + 100 < cLine := units100 hr
  obtain ⟨pS, rfl, hN, ns, hS, k⟩ := asR.inv h
  have G__law_told := ok__law_told (P := P) (w := w) (base := base) T
  have b__law_told := bn__law_told T.F__law_told
  have G__law_is_shared := ok__law_is_shared (P := P) (w := w) (base := base) T
  have b__law_is_shared := bn__law_is_shared T.F__law_is_shared
  have G__law_is_good := ok__law_is_good (P := P) (w := w) (base := base) T
  have b__law_is_good := bn__law_is_good T.F__law_is_good
  have G__law_mixed := ok__law_mixed (P := P) (w := w) (base := base) T (pS := pS) (ns := ns)
  have b__law_mixed := bn__law_mixed T.F__law_mixed
  have G__law_spoilt := ok__law_spoilt (P := P) (w := w) (base := base) T
  have b__law_spoilt := bn__law_spoilt T.F__law_spoilt
  have G__law_weights := ok__law_weights (P := P) (w := w) (base := base) T (pS := pS) (ns := ns)
  have b__law_weights := bn__law_weights T.F__law_weights
  have G__law_is_rounded := ok__law_is_rounded (P := P) (w := w) (base := base) T
  have b__law_is_rounded := bn__law_is_rounded T.F__law_is_rounded
  have G__law_at := ok__law_at (P := P) (w := w) (base := base) T (pS := pS) (ns := ns)
  have b__law_at := bn__law_at T.F__law_at
  have G__law_number := ok__law_number (P := P) (w := w) (base := base) T (pS := pS) (ns := ns)
  have b__law_number := bn__law_number T.F__law_number
  have c3 : ∃ u, PSs (cxOf (XE P w) P w K mg base ["_law_script", "_law_number_here", "_law_by", "_law_weights_here", "_law_is_list", "_law_handed", "_law_found", "_law_kept"] "law" (defScope s_law) a.f_law cdv A outer s H (gcE H E)) (List.drop 10 (defBody s_law)) u ∧ ∀ (n : Int) (by_ : V) (p h f : Addr) (ws : List Int) H1, -10 ^ 30 ≤ n ∧ n ≤ 10 ^ 30 → Same H H1 → NoT H1 → H1 p = some (.lst (ws.map V.int)) → H1 h = some (.lst (ws.map V.int)) → H1 f = some (.lst ((share n ws).map V.int)) →
      wOk (ws.map V.int) = true → f ≠ p → h ≠ p → h ≠ f → H h = none → H f = none → u { nx := fun _ H' => ∃ G, Gc H G H' ∧ Q .non G, rt := fun v H' => ∃ G, Gc H G H' ∧ Q v G } [some (.ref pS), some (.int n), some by_, some (.ref p), some (.bl true), some (.ref h), some (.ref f), none] H1 := by
    refine ⟨_, (pss_cons (ps_if (pt_not (ft_val (pe_callX G__law_is_shared (hr.mono (by decide)) rfl T.m__law_is_shared T.F__law_is_shared.kp b__law_is_shared .nil PX (FA.pa (fa_cons (fv 6) (fa_cons (fv 1) (fa_cons (fv 3) fa_nil))))))) (pss_one (ps_ret pe_bl)) pss_nil)
      (pss_cons (ps_set (i := 7) ND rfl (Or.inl rfl) (pe_callTy (fc_list K) rfl T.z_list bb_list (FA.pa (fa_cons (fv 6) fa_nil))))
      (pss_cons (ps_expr (pe_bmK K PySem.F.plainAttrs_list PySem.F.slot_list_append PySem.F.type_list_append mt_append (fv 6) (FA.pa (fa_cons pe_int fa_nil))))
      (pss_cons (ps_expr (pe_bmK K PySem.F.plainAttrs_list PySem.F.slot_list_append PySem.F.type_list_append mt_append (fv 5) (FA.pa (fa_cons pe_int fa_nil))))
      (pss_one (ps_ret (pe_cmpR (fo_eqQ K HU) (pe_callX G__law_told (hr.mono (by decide)) rfl T.m__law_told T.F__law_told.kp b__law_told .nil PX (FA.pa (fa_cons (fv 1) (fa_cons (pe_callTy (fc_list K) rfl T.z_list bb_list (FA.pa (fa_cons (fv 3) fa_nil))) fa_nil)))) (fv 7) (nomark _)))))))), fun n by_ p h f ws H1 hn sm nT hp hh hf ok nfp nhp nhf h0 f0 => ?_⟩
    ((try dsimp only [sp_is_whole, sp_is_among, sp_rounded, sp_weights, sp_shared, sp_at, sp_mixed, sp_number, sp_lweights, sp_told, sp_is_rounded, sp_is_shared, sp_spoilt]); try simp only [rdAll, rdI, V.int.injEq, V.ref.injEq, eqQ_int, eqQ_bl, eqQ_str, eqQ_ref, eqQ_nn, eqQ_ni, eqQ_in, eqQ_is, eqQ_si, L2.start, List.map_cons, List.map_nil, List.cons_append, List.nil_append, List.append_nil, List.length_cons, List.length_nil, List.replicate, List.getElem?_cons_zero, List.getElem?_cons_succ, List.set_cons_zero, List.set_cons_succ, Nat.reduceSub, Nat.reduceAdd, Int.reduceLT, Int.reduceLE, Int.reducePow, Int.reduceNeg, Nat.reducePow, List.cons.injEq, exists_eq_left', exists_eq_left, eq_self, if_false, if_true, ↓reduceIte, ite_not, forall_const, Option.join, Option.bind_some, id_eq])
    have sz : 10000 ≤ sizeLine := by rw [sizeLine_eq]; decide
    obtain ⟨ws', ew, wb, w1, w60, wS⟩ := wOk_inv ok
    obtain rfl : ws = ws' := ints_inj ew
    refine ⟨nT, ⟨by omega, by omega⟩, f, p, ws, rfl, rfl, nfp, hf, hp, ok, _, .inl (.inl (.inl hf)), fun l hl => ?_⟩
    have nfl : f ≠ l := fun z => by rw [← z, hf] at hl; cases hl
    have npl : p ≠ l := fun z => by rw [← z, hp] at hl; cases hl
    have nhl : h ≠ l := fun z => by rw [← z, hh] at hl; cases hl
    have l0 : H l = none := sm.free hl
    have ef : upd H1 l (.lst ((share n ws).map V.int)) f = some (.lst ((share n ws).map V.int)) := (upd_ne nfl).trans hf
    refine ⟨.inl ⟨_, .inl (.inl ef)⟩, f, _, _, rfl, rfl, ef, by rw [List.length_map, share_len]; omega, ?_⟩
    have eh : upd (upd H1 l (.lst ((share n ws).map V.int))) f (.lst ((share n ws).map V.int ++ [.int 0])) h = some (.lst (ws.map V.int)) := (upd_ne nhf).trans ((upd_ne nhl).trans hh)
    refine ⟨.inl ⟨_, .inl (.inl eh)⟩, h, _, _, rfl, rfl, eh, by rw [List.length_map]; omega, ?_⟩
    have ep : upd (upd (upd H1 l (.lst ((share n ws).map V.int))) f (.lst ((share n ws).map V.int ++ [.int 0]))) h (.lst (ws.map V.int ++ [.int 1])) p = some (.lst (ws.map V.int)) := (upd_ne (Ne.symm nhp)).trans ((upd_ne (Ne.symm nfp)).trans ((upd_ne npl).trans hp))
    have el : upd (upd (upd H1 l (.lst ((share n ws).map V.int))) f (.lst ((share n ws).map V.int ++ [.int 0]))) h (.lst (ws.map V.int ++ [.int 1])) l = some (.lst ((share n ws).map V.int)) := (upd_ne (Ne.symm nhl)).trans ((upd_ne (Ne.symm nfl)).trans upd_same)
    have n4 : NoT (upd (upd (upd H1 l (.lst ((share n ws).map V.int))) f (.lst ((share n ws).map V.int ++ [.int 0]))) h (.lst (ws.map V.int ++ [.int 1]))) := noT_upd (noT_upd (noT_upd nT rfl) rfl) rfl
    have s4 : Same H (upd (upd (upd H1 l (.lst ((share n ws).map V.int))) f (.lst ((share n ws).map V.int ++ [.int 0]))) h (.lst (ws.map V.int ++ [.int 1]))) := fun c o e => by
      rw [upd_ne (fun z => by rw [z, h0] at e; cases e), upd_ne (fun z => by rw [z, f0] at e; cases e), upd_ne (fun z => by rw [z, l0] at e; cases e)]; exact sm _ _ e
    generalize upd (upd (upd H1 l (.lst ((share n ws).map V.int))) f (.lst ((share n ws).map V.int ++ [.int 0]))) h (.lst (ws.map V.int ++ [.int 1])) = H4 at ep el n4 s4
    refine ⟨_, .inl (.inl (.inl ep)), fun l3 hl3 => ?_⟩
    refine ⟨noT_upd n4 rfl, ⟨by omega, by omega⟩, .inl ⟨l3, _, rfl, upd_same, by rw [List.length_map]; omega, fun y m => kind_int' _ m, ?_⟩⟩
    rw [if_pos ok]
    intro ws2 e2 q hq
    obtain rfl : ws = ws2 := ints_inj e2
    have nl3 : l ≠ l3 := fun z => by rw [← z, el] at hl3; cases hl3
    have nlq : l ≠ q := fun z => by rw [← z, upd_ne nl3, el] at hq; cases hq
    refine ⟨true, eqR_self (xs := (share n ws).map V.int) (.inl (.inl upd_same)) (.inl (.inl ((upd_ne nlq).trans ((upd_ne nl3).trans el)))) (fun y m => kind_int' _ m), ?_⟩
    exact ⟨H, Gc.none (fun c o e => same_upd _ hq _ _ (same_upd _ hl3 _ _ (s4 _ _ e))), k⟩
  obtain ⟨u3, hu3, k3⟩ := c3
  have c2 : ∃ u, PSs (cxOf (XE P w) P w K mg base ["_law_script", "_law_number_here", "_law_by", "_law_weights_here", "_law_is_list", "_law_handed", "_law_found", "_law_kept"] "law" (defScope s_law) a.f_law cdv A outer s H (gcE H E)) (List.drop 5 (defBody s_law)) u ∧ ∀ (n : Int) (x by_ : V) H1, -10 ^ 30 ≤ n ∧ n ≤ 10 ^ 30 → Same H H1 → NoT H1 → SpoK H1 x → u { nx := fun _ H' => ∃ G, Gc H G H' ∧ Q .non G, rt := fun v H' => ∃ G, Gc H G H' ∧ Q v G } [some (.ref pS), some (.int n), some by_, some x, none, none, none, none] H1 := by
    refine ⟨_, (pss_cons (ps_set (i := 4) ND rfl (Or.inl rfl) (pe_callB (fc_isiK K) rfl T.z_isinstance bb_isinstance (FA.pa (fa_cons (fv 3) (fa_cons (pe_bltn (v := .ty "list") rfl T.z_list bb_list rfl) fa_nil)))))
      (pss_cons (ps_set (i := 5) ND rfl (Or.inl rfl) (pe_ifExp (ft_val (fv 4)) (pe_callTy (fc_list K) rfl T.z_list bb_list (FA.pa (fa_cons (fv 3) fa_nil))) (fv 3)))
      (pss_cons (ps_set (i := 6) ND rfl (Or.inl rfl) (pe_callX G__law_told (hr.mono (by decide)) rfl T.m__law_told T.F__law_told.kp b__law_told .nil PX (FA.pa (fa_cons (fv 1) (fa_cons (fv 5) fa_nil)))))
      (pss_cons (ps_if (ft_cmp (fo_neD K HU) (fv 5) (fv 3) (nomark _)) (pss_one (ps_ret pe_bl)) pss_nil)
      (pss_cons (ps_if (pt_not (ft_val (pe_callX G__law_is_good (hr.mono (by decide)) rfl T.m__law_is_good T.F__law_is_good.kp b__law_is_good .nil PX (FA.pa (fa_cons (fv 3) fa_nil))))) (pss_one (ps_ret (fe_and (pe_callB (fc_isiK K) rfl T.z_isinstance bb_isinstance (FA.pa (fa_cons (fv 6) (fa_cons (pe_bltn (v := .ty "str") rfl T.z_str bb_str rfl) fa_nil)))) (pe_one (pe_cmpR (fo_eqQ K HU) (fv 6) (pe_strT [114, 101, 102, 117, 115, 101, 100]) (nomark _)))))) pss_nil)
      hu3))))), fun n x by_ H1 hn sm nT sx => ?_⟩
    ((try dsimp only [sp_is_whole, sp_is_among, sp_rounded, sp_weights, sp_shared, sp_at, sp_mixed, sp_number, sp_lweights, sp_told, sp_is_rounded, sp_is_shared, sp_spoilt]); try simp only [rdAll, rdI, V.int.injEq, V.ref.injEq, eqQ_int, eqQ_bl, eqQ_str, eqQ_ref, eqQ_nn, eqQ_ni, eqQ_in, eqQ_is, eqQ_si, L2.start, List.map_cons, List.map_nil, List.cons_append, List.nil_append, List.append_nil, List.length_cons, List.length_nil, List.replicate, List.getElem?_cons_zero, List.getElem?_cons_succ, List.set_cons_zero, List.set_cons_succ, Nat.reduceSub, Nat.reduceAdd, Int.reduceLT, Int.reduceLE, Int.reducePow, Int.reduceNeg, Nat.reducePow, List.cons.injEq, exists_eq_left', exists_eq_left, eq_self, if_false, if_true, ↓reduceIte, ite_not, forall_const, Option.join, Option.bind_some, id_eq])
    have fin : ∀ {H2 : Hp}, Same H1 H2 → ∃ G, Gc H G H2 ∧ Q (.bl (decide True)) G := fun s => ⟨H, Gc.none (fun c o e => s _ _ (sm _ _ e)), k⟩
    rcases sx with ⟨p, xs, rfl, hp, lx, kx⟩ | sx
    · have ht : kindV H1 (.ref p) = some "list" := by simp [kindV, hp]
      simp only [ht]
      rw [if_pos (by decide)]
      refine ⟨xs, .inl (.inl (.inl hp)), fun h hh => ?_⟩
      have h0 : H h = none := sm.free hh
      have nhp : h ≠ p := fun z => by rw [z, hp] at hh; cases hh
      have sg := same_upd (.lst xs) hh
      have ag : upd H1 h (.lst xs) h = some (.lst xs) := upd_same
      have ng : NoT (upd H1 h (.lst xs)) := noT_upd nT rfl
      generalize upd H1 h (.lst xs) = G at sg ag ng
      dsimp only
      have hpg := sg _ _ hp
      have kg : ∀ y ∈ xs, ∃ t, kindV G y = some t := fun y m => let ⟨t, z⟩ := kx y m; ⟨t, kind_same sg z⟩
      refine ⟨ng, ⟨by omega, by omega⟩, .inl ⟨h, xs, rfl, ag, lx, kg, ?_⟩⟩
      split
      · rename_i ok
        intro ws e f hf
        subst e
        have nfp : f ≠ p := fun z => by rw [z, hpg] at hf; cases hf
        have nhf : h ≠ f := fun z => by rw [← z, ag] at hf; cases hf
        have f0 : H f = none := sm.free (sg.free hf)
        have sf := same_upd (.lst ((share n ws).map V.int)) hf
        have af : upd G f (.lst ((share n ws).map V.int)) f = some (.lst ((share n ws).map V.int)) := upd_same
        have nf : NoT (upd G f (.lst ((share n ws).map V.int))) := noT_upd ng rfl
        generalize upd G f (.lst ((share n ws).map V.int)) = G2 at sf af nf
        have kf : ∀ y ∈ ws.map V.int, ∃ t, kindV G2 y = some t := fun y m => kind_int' _ m
        refine .inl ⟨true, eqR_self (.inl (.inl (sf _ _ ag))) (.inl (.inl (sf _ _ hpg))) kf, nf, .inl ⟨p, _, rfl, sf _ _ hpg, lx, kf, ?_⟩⟩
        rw [if_neg (by rw [ok]; decide)]
        exact k3 n by_ p h f ws G2 hn (fun c o e => sf _ _ (sg _ _ (sm _ _ e))) nf (sf _ _ hpg) (sf _ _ ag) af ok nfp nhp nhf h0 f0
      · rename_i ok
        refine .inl ⟨true, eqR_self (.inl (.inl ag)) (.inl (.inl hpg)) kg, ng, .inl ⟨p, _, rfl, hpg, lx, kg, ?_⟩⟩
        rw [if_pos (Bool.eq_false_iff.mpr ok)]
        exact fin sg
    · have hx : ∃ t, kindV H1 x = some t ∧ isiT t "list" = false := by
        rcases sx with rfl | ⟨i, rfl⟩ | ⟨l, rfl⟩ | ⟨p, ys, rfl, hp, ly⟩ | ⟨p, kk, u, rfl, hp⟩
        · exact ⟨"NoneType", rfl, by decide⟩
        · exact ⟨"int", rfl, by decide⟩
        · exact ⟨"str", rfl, by decide⟩
        · exact ⟨"tuple", by simp [kindV, hp], by decide⟩
        · exact ⟨"dict", by simp [kindV, hp], by decide⟩
      obtain ⟨t, ht, hl⟩ := hx
      simp only [ht]
      rw [if_neg (by rw [hl]; decide)]
      refine ⟨nT, ⟨by omega, by omega⟩, .inr ⟨t, rfl, hl, ?_⟩⟩
      rcases sx with rfl | ⟨i, rfl⟩ | ⟨l, rfl⟩ | ⟨p, ys, rfl, hp, ly⟩ | ⟨p, kk, u, rfl, hp⟩
      · exact .inl ⟨nT, .inr ⟨t, ht, hl, fin (Same.refl _)⟩⟩
      · refine .inl ?_
        unfold gEqQ
        rw [show eqS (.int i) (.int i) = some true by simp [eqS]]
        exact ⟨nT, .inr ⟨t, ht, hl, fin (Same.refl _)⟩⟩
      · refine .inl ?_
        unfold gEqQ
        rw [show eqS (L2.T l) (L2.T l) = some true by simp [eqS, L2.T]]
        exact ⟨nT, .inr ⟨t, ht, hl, fin (Same.refl _)⟩⟩
      · exact .inl ⟨true, eqR_tup (.inl (.inl hp)) (.inl (.inl hp)) (fun y m => kind_int' _ m), nT, .inr ⟨t, ht, hl, fin (Same.refl _)⟩⟩
      · exact .inr ⟨p, kk, u, rfl, rfl, hp, nT, .inr ⟨t, ht, hl, fin (Same.refl _)⟩⟩
  obtain ⟨u2, hu2, k2⟩ := c2
  refine ⟨hN, _, (pss_cons (ps_set (i := 1) ND rfl (Or.inl rfl) (pe_callX G__law_number (hr.mono (by decide)) rfl T.m__law_number T.F__law_number.kp b__law_number .nil PX (FA.pa (fa_cons (fv 0) fa_nil))))
      (pss_cons (ps_set (i := 2) ND rfl (Or.inl rfl) (pe_op fo_add pe_int (pe_op fo_mod (pe_callX G__law_at (hr.mono (by decide)) rfl T.m__law_at T.F__law_at.kp b__law_at .nil PX (FA.pa (fa_cons (fv 0) (fa_cons pe_int fa_nil)))) (fe_pickL (FA.pa (fa_cons pe_int (fa_cons (pe_op fo_pow pe_int pe_int) (fa_cons (pe_op fo_pow pe_int pe_int) fa_nil)))) (pe_op fo_mod (pe_op fo_fdiv (pe_callX G__law_at (hr.mono (by decide)) rfl T.m__law_at T.F__law_at.kp b__law_at .nil PX (FA.pa (fa_cons (fv 0) (fa_cons pe_int fa_nil)))) pe_int) pe_int) (fun _ _ => rfl)))))
      (pss_cons (ps_if (L2.PW.pt (pw_or (pt_not (ft_val (pe_callX G__law_is_rounded (hr.mono (by decide)) rfl T.m__law_is_rounded T.F__law_is_rounded.kp b__law_is_rounded .nil PX (FA.pa (fa_cons (fv 1) (fa_cons (fv 2) fa_nil)))))) (pw_or1 (pt_not (ft_val (pe_callX G__law_is_rounded (hr.mono (by decide)) rfl T.m__law_is_rounded T.F__law_is_rounded.kp b__law_is_rounded .nil PX (FA.pa (fa_cons (pe_op fo_mul (pe_op fo_sub (pe_op fo_mul pe_int (pe_op fo_mod (fv 1) pe_int)) pe_int) (fv 2)) (fa_cons (pe_op fo_mul pe_int (fv 2)) fa_nil))))))))) (pss_one (ps_ret pe_bl)) pss_nil)
      (pss_cons (ps_set (i := 3) ND rfl (Or.inl rfl) (pe_callX G__law_weights (hr.mono (by decide)) rfl T.m__law_weights T.F__law_weights.kp b__law_weights .nil PX (FA.pa (fa_cons (fv 0) fa_nil))))
      (pss_cons (ps_if (ft_cmp fo_gt (pe_op fo_mod (pe_callX G__law_mixed (hr.mono (by decide)) rfl T.m__law_mixed T.F__law_mixed.kp b__law_mixed .nil PX (FA.pa (fa_cons (fv 0) (fa_cons pe_int fa_nil)))) pe_int) pe_int (nomark _)) (pss_one (ps_set (i := 3) ND rfl (Or.inl rfl) (pe_callX G__law_spoilt (hr.mono (by decide)) rfl T.m__law_spoilt T.F__law_spoilt.kp b__law_spoilt .nil PX (FA.pa (fa_cons (fv 3) (fa_cons (pe_callX G__law_mixed (hr.mono (by decide)) rfl T.m__law_mixed T.F__law_mixed.kp b__law_mixed .nil PX (FA.pa (fa_cons (fv 0) (fa_cons pe_int fa_nil)))) fa_nil)))))) pss_nil)
      hu2))))), ?_⟩
  ((try dsimp only [sp_is_whole, sp_is_among, sp_rounded, sp_weights, sp_shared, sp_at, sp_mixed, sp_number, sp_lweights, sp_told, sp_is_rounded, sp_is_shared, sp_spoilt]); try simp only [rdAll, rdI, V.int.injEq, V.ref.injEq, eqQ_int, eqQ_bl, eqQ_str, eqQ_ref, eqQ_nn, eqQ_ni, eqQ_in, eqQ_is, eqQ_si, L2.start, List.map_cons, List.map_nil, List.cons_append, List.nil_append, List.append_nil, List.length_cons, List.length_nil, List.replicate, List.getElem?_cons_zero, List.getElem?_cons_succ, List.set_cons_zero, List.set_cons_succ, Nat.reduceSub, Nat.reduceAdd, Int.reduceLT, Int.reduceLE, Int.reducePow, Int.reduceNeg, Nat.reducePow, List.cons.injEq, exists_eq_left', exists_eq_left, eq_self, if_false, if_true, ↓reduceIte, ite_not, forall_const, Option.join, Option.bind_some, id_eq])
  have three : 3 ≤ sizeLine := by rw [sizeLine_eq]; decide
  refine ⟨hN, hS, fun n hn => ⟨hN, hS, hN, by decide, by decide, three, fun p hp => ⟨noT_upd hN rfl, hS.same (same_upd _ hp), pick_ints (ns := [12, 10 ^ Int.toNat 20, 10 ^ Int.toNat 9]) (Int.emod_nonneg _ (by decide)) (Int.emod_lt_of_pos _ (by decide)) ?_⟩⟩⟩
  obtain ⟨most, es, s0, s1⟩ : ∃ most : Int, ([12, 10 ^ Int.toNat 20, 10 ^ Int.toNat 9] : List Int).getD (ns.getD (Int.toNat 1) 0 / 3 % 3).toNat 0 = most ∧ 0 < most ∧ most ≤ 100000000000000000000 := by
    have hc : ns.getD (Int.toNat 1) 0 / 3 % 3 = 0 ∨ ns.getD (Int.toNat 1) 0 / 3 % 3 = 1 ∨ ns.getD (Int.toNat 1) 0 / 3 % 3 = 2 := by omega
    rcases hc with e | e | e <;> rw [e]
    · exact ⟨12, rfl, by decide, by decide⟩
    · exact ⟨100000000000000000000, rfl, by decide, by decide⟩
    · exact ⟨1000000000, rfl, by decide, by decide⟩
  rw [es]
  have b0 := Int.emod_nonneg (ns.getD (Int.toNat 2) 0) (Int.ne_of_gt s0)
  have b1 := Int.emod_lt_of_pos (ns.getD (Int.toNat 2) 0) s0
  ((try dsimp only [sp_is_whole, sp_is_among, sp_rounded, sp_weights, sp_shared, sp_at, sp_mixed, sp_number, sp_lweights, sp_told, sp_is_rounded, sp_is_shared, sp_spoilt]); try simp only [rdAll, rdI, V.int.injEq, V.ref.injEq, eqQ_int, eqQ_bl, eqQ_str, eqQ_ref, eqQ_nn, eqQ_ni, eqQ_in, eqQ_is, eqQ_si, L2.start, List.map_cons, List.map_nil, List.cons_append, List.nil_append, List.append_nil, List.length_cons, List.length_nil, List.replicate, List.getElem?_cons_zero, List.getElem?_cons_succ, List.set_cons_zero, List.set_cons_succ, Nat.reduceSub, Nat.reduceAdd, Int.reduceLT, Int.reduceLE, Int.reducePow, Int.reduceNeg, Nat.reducePow, List.cons.injEq, exists_eq_left', exists_eq_left, eq_self, if_false, if_true, ↓reduceIte, ite_not, forall_const, Option.join, Option.bind_some, id_eq])
  generalize ns.getD (Int.toNat 2) 0 % most = d at b0 b1
  have c0 := Int.emod_nonneg n (show (1000003 : Int) ≠ 0 by decide)
  have c1 := Int.emod_lt_of_pos n (show (0 : Int) < 1000003 by decide)
  have m1 : -1000003 * (1 + d) ≤ (2 * (n % 1000003) - 1000003) * (1 + d) := Int.mul_le_mul_of_nonneg_right (by omega) (by omega)
  have m2 : (2 * (n % 1000003) - 1000003) * (1 + d) ≤ 1000003 * (1 + d) := Int.mul_le_mul_of_nonneg_right (by omega) (by omega)
  refine ⟨s0, hN, ⟨by omega, by omega, ?_⟩, .inl ⟨by omega, by omega⟩, hN, ⟨by omega, by omega, .inl (div_small (by omega) ?_ ?_)⟩, hN, hS, fun ws ok q hq => ?_⟩
  · by_cases c : 1 + d < 9223372036854775808
    · exact .inr c
    · exact .inl (div_small (by omega) (by omega) (by omega))
  · generalize (2 * (n % 1000003) - 1000003) * (1 + d) = z at m1 m2
    omega
  · generalize (2 * (n % 1000003) - 1000003) * (1 + d) = z at m1 m2
    omega
  · have sq := same_upd (.lst (ws.map V.int)) hq
    have nq : NoT (upd H q (.lst (ws.map V.int))) := noT_upd hN rfl
    have aq : upd H q (.lst (ws.map V.int)) q = some (.lst (ws.map V.int)) := upd_same
    generalize upd H q (.lst (ws.map V.int)) = H1 at sq nq aq
    have hS1 := hS.same sq
    refine ⟨nq, hS1, ?_⟩
    split
    · exact ⟨nq, hS1, nq, ws, aq, ok, fun z G N sz => k2 n z _ G hn (fun c o e => N.1 _ _ (sq _ _ e)) N.2.1 sz⟩
    · exact k2 n _ _ H1 hn sq nq (spo_ints aq (by have := ok.2.1; omega))
theorem law_starts {H : Hp} {p : Addr} {n : Nat} (hO : Only H) (hS : SqL K H p (ns.map V.int)) (_ : ns.length ≤ n) : sp_law K [.ref p] H (fun v _ => v = .bl true) fun _ _ _ => False := ⟨noT_only hO, ns, hS, rfl⟩
end
end K5
set_option Elab.async false
set_option linter.all false
set_option maxRecDepth 100000
set_option maxHeartbeats 4000000
namespace K5
open PySem L2
theorem all_mk {l : PySem.W.OpenLaw} {w : World} {K : PySem.W.Frag} {h : Heap} {mg : Str → Option Value} {fa : Addr} (X : K.In h) (G : h.Ns mainGlobals mg) (hfa : mg "law" = some (.ref fa))
    {C3 : Addr}
    {C2 : Addr}
    {C1 : Addr}
    {C0 : Addr}
    {f0 : Addr} {od0 an0 : Option Addr} {sl0 : Array (Option Value)} {oc0 kV0 dc0 pm0 cd0 ct0 : Value}
    {f1 : Addr} {od1 an1 : Option Addr} {sl1 : Array (Option Value)} {oc1 kV1 dc1 pm1 cd1 ct1 : Value}
    {f2 : Addr} {od2 an2 : Option Addr} {sl2 : Array (Option Value)} {oc2 kV2 dc2 pm2 cd2 ct2 : Value}
    {f3 : Addr} {od3 an3 : Option Addr} {sl3 : Array (Option Value)} {oc3 kV3 dc3 pm3 cd3 ct3 : Value}
    {f4 : Addr} {od4 an4 : Option Addr} {sl4 : Array (Option Value)} {oc4 kV4 dc4 pm4 cd4 ct4 : Value}
    {f5 : Addr} {od5 an5 : Option Addr} {sl5 : Array (Option Value)} {oc5 kV5 dc5 pm5 cd5 ct5 : Value}
    {f6 : Addr} {od6 an6 : Option Addr} {sl6 : Array (Option Value)} {oc6 kV6 dc6 pm6 cd6 ct6 : Value}
    {f7 : Addr} {od7 an7 : Option Addr} {sl7 : Array (Option Value)} {oc7 kV7 dc7 pm7 cd7 ct7 : Value}
    {f8 : Addr} {od8 an8 : Option Addr} {sl8 : Array (Option Value)} {oc8 kV8 dc8 pm8 cd8 ct8 : Value}
    {f9 : Addr} {od9 an9 : Option Addr} {sl9 : Array (Option Value)} {oc9 kV9 dc9 pm9 cd9 ct9 : Value}
    {f10 : Addr} {od10 an10 : Option Addr} {sl10 : Array (Option Value)} {oc10 kV10 dc10 pm10 cd10 ct10 : Value}
    {f11 : Addr} {od11 an11 : Option Addr} {sl11 : Array (Option Value)} {oc11 kV11 dc11 pm11 cd11 ct11 : Value}
    {f12 : Addr} {od12 an12 : Option Addr} {sl12 : Array (Option Value)} {oc12 kV12 dc12 pm12 cd12 ct12 : Value}
    {f13 : Addr} {od13 an13 : Option Addr} {sl13 : Array (Option Value)} {oc13 kV13 dc13 pm13 cd13 ct13 : Value}
    {f14 : Addr} {od14 an14 : Option Addr} {sl14 : Array (Option Value)} {oc14 kV14 dc14 pm14 cd14 ct14 : Value}
    {f15 : Addr} {od15 an15 : Option Addr} {sl15 : Array (Option Value)} {oc15 kV15 dc15 pm15 cd15 ct15 : Value}
    {f16 : Addr} {od16 an16 : Option Addr} {sl16 : Array (Option Value)} {oc16 kV16 dc16 pm16 cd16 ct16 : Value}
    {cl0 : ClassData}
    {cl1 : ClassData}
    {cl2 : ClassData}
    {cl3 : ClassData}
    (a0 : PySem.W.nsIn K mainGlobals "_wall" = some (some (.ref f0)))
    (l0 : K.lookup f0 = some ⟨oc0, od0, .func (PySem.W.fnOf "_wall" "_wall" (defArgs s__wall) (defBody s__wall) (defScope s__wall) .none kV0 dc0 pm0 an0 cd0 ct0), sl0⟩)
    (c0 : PySem.W.codeIn K cd0 "_wall" = true) (k0 : PySem.W.keepIn K (.ref f0) = true)
    (a1 : PySem.W.nsIn K mainGlobals "is_whole" = some (some (.ref f1)))
    (l1 : K.lookup f1 = some ⟨oc1, od1, .func (PySem.W.fnOf "is_whole" "is_whole" (defArgs s_is_whole) (defBody s_is_whole) (defScope s_is_whole) .none kV1 dc1 pm1 an1 cd1 ct1), sl1⟩)
    (c1 : PySem.W.codeIn K cd1 "is_whole" = true) (k1 : PySem.W.keepIn K (.ref f1) = true)
    (a2 : PySem.W.nsIn K mainGlobals "is_among" = some (some (.ref f2)))
    (l2 : K.lookup f2 = some ⟨oc2, od2, .func (PySem.W.fnOf "is_among" "is_among" (defArgs s_is_among) (defBody s_is_among) (defScope s_is_among) .none kV2 dc2 pm2 an2 cd2 ct2), sl2⟩)
    (c2 : PySem.W.codeIn K cd2 "is_among" = true) (k2 : PySem.W.keepIn K (.ref f2) = true)
    (a3 : PySem.W.nsIn K mainGlobals "rounded" = some (some (.ref f3)))
    (l3 : K.lookup f3 = some ⟨oc3, od3, .func (PySem.W.fnOf "rounded" "rounded" (defArgs s_rounded) (defBody s_rounded) (defScope s_rounded) .none kV3 dc3 pm3 an3 cd3 ct3), sl3⟩)
    (c3 : PySem.W.codeIn K cd3 "rounded" = true) (k3 : PySem.W.keepIn K (.ref f3) = true)
    (a4 : PySem.W.nsIn K mainGlobals "are_weights" = some (some (.ref f4)))
    (l4 : K.lookup f4 = some ⟨oc4, od4, .func (PySem.W.fnOf "are_weights" "are_weights" (defArgs s_are_weights) (defBody s_are_weights) (defScope s_are_weights) .none kV4 dc4 pm4 an4 cd4 ct4), sl4⟩)
    (c4 : PySem.W.codeIn K cd4 "are_weights" = true) (k4 : PySem.W.keepIn K (.ref f4) = true)
    (a5 : PySem.W.nsIn K mainGlobals "shared" = some (some (.ref f5)))
    (l5 : K.lookup f5 = some ⟨oc5, od5, .func (PySem.W.fnOf "shared" "shared" (defArgs s_shared) (defBody s_shared) (defScope s_shared) .none kV5 dc5 pm5 an5 cd5 ct5), sl5⟩)
    (c5 : PySem.W.codeIn K cd5 "shared" = true) (k5 : PySem.W.keepIn K (.ref f5) = true)
    (a6 : PySem.W.nsIn K mainGlobals "_law_at" = some (some (.ref f6)))
    (l6 : K.lookup f6 = some ⟨oc6, od6, .func (PySem.W.fnOf "_law_at" "_law_at" (defArgs s__law_at) (defBody s__law_at) (defScope s__law_at) .none kV6 dc6 pm6 an6 cd6 ct6), sl6⟩)
    (c6 : PySem.W.codeIn K cd6 "_law_at" = true) (k6 : PySem.W.keepIn K (.ref f6) = true)
    (a7 : PySem.W.nsIn K mainGlobals "_law_mixed" = some (some (.ref f7)))
    (l7 : K.lookup f7 = some ⟨oc7, od7, .func (PySem.W.fnOf "_law_mixed" "_law_mixed" (defArgs s__law_mixed) (defBody s__law_mixed) (defScope s__law_mixed) .none kV7 dc7 pm7 an7 cd7 ct7), sl7⟩)
    (c7 : PySem.W.codeIn K cd7 "_law_mixed" = true) (k7 : PySem.W.keepIn K (.ref f7) = true)
    (a8 : PySem.W.nsIn K mainGlobals "_law_whole" = some (some (.ref f8)))
    (l8 : K.lookup f8 = some ⟨oc8, od8, .func (PySem.W.fnOf "_law_whole" "_law_whole" (defArgs s__law_whole) (defBody s__law_whole) (defScope s__law_whole) .none kV8 dc8 pm8 an8 cd8 ct8), sl8⟩)
    (c8 : PySem.W.codeIn K cd8 "_law_whole" = true) (k8 : PySem.W.keepIn K (.ref f8) = true)
    (a9 : PySem.W.nsIn K mainGlobals "_law_number" = some (some (.ref f9)))
    (l9 : K.lookup f9 = some ⟨oc9, od9, .func (PySem.W.fnOf "_law_number" "_law_number" (defArgs s__law_number) (defBody s__law_number) (defScope s__law_number) .none kV9 dc9 pm9 an9 cd9 ct9), sl9⟩)
    (c9 : PySem.W.codeIn K cd9 "_law_number" = true) (k9 : PySem.W.keepIn K (.ref f9) = true)
    (a10 : PySem.W.nsIn K mainGlobals "_law_weights" = some (some (.ref f10)))
    (l10 : K.lookup f10 = some ⟨oc10, od10, .func (PySem.W.fnOf "_law_weights" "_law_weights" (defArgs s__law_weights) (defBody s__law_weights) (defScope s__law_weights) .none kV10 dc10 pm10 an10 cd10 ct10), sl10⟩)
    (c10 : PySem.W.codeIn K cd10 "_law_weights" = true) (k10 : PySem.W.keepIn K (.ref f10) = true)
    (a11 : PySem.W.nsIn K mainGlobals "_law_spoilt" = some (some (.ref f11)))
    (l11 : K.lookup f11 = some ⟨oc11, od11, .func (PySem.W.fnOf "_law_spoilt" "_law_spoilt" (defArgs s__law_spoilt) (defBody s__law_spoilt) (defScope s__law_spoilt) .none kV11 dc11 pm11 an11 cd11 ct11), sl11⟩)
    (c11 : PySem.W.codeIn K cd11 "_law_spoilt" = true) (k11 : PySem.W.keepIn K (.ref f11) = true)
    (a12 : PySem.W.nsIn K mainGlobals "_law_is_good" = some (some (.ref f12)))
    (l12 : K.lookup f12 = some ⟨oc12, od12, .func (PySem.W.fnOf "_law_is_good" "_law_is_good" (defArgs s__law_is_good) (defBody s__law_is_good) (defScope s__law_is_good) .none kV12 dc12 pm12 an12 cd12 ct12), sl12⟩)
    (c12 : PySem.W.codeIn K cd12 "_law_is_good" = true) (k12 : PySem.W.keepIn K (.ref f12) = true)
    (a13 : PySem.W.nsIn K mainGlobals "_law_told" = some (some (.ref f13)))
    (l13 : K.lookup f13 = some ⟨oc13, od13, .func (PySem.W.fnOf "_law_told" "_law_told" (defArgs s__law_told) (defBody s__law_told) (defScope s__law_told) .none kV13 dc13 pm13 an13 cd13 ct13), sl13⟩)
    (c13 : PySem.W.codeIn K cd13 "_law_told" = true) (k13 : PySem.W.keepIn K (.ref f13) = true)
    (a14 : PySem.W.nsIn K mainGlobals "_law_is_shared" = some (some (.ref f14)))
    (l14 : K.lookup f14 = some ⟨oc14, od14, .func (PySem.W.fnOf "_law_is_shared" "_law_is_shared" (defArgs s__law_is_shared) (defBody s__law_is_shared) (defScope s__law_is_shared) .none kV14 dc14 pm14 an14 cd14 ct14), sl14⟩)
    (c14 : PySem.W.codeIn K cd14 "_law_is_shared" = true) (k14 : PySem.W.keepIn K (.ref f14) = true)
    (a15 : PySem.W.nsIn K mainGlobals "_law_is_rounded" = some (some (.ref f15)))
    (l15 : K.lookup f15 = some ⟨oc15, od15, .func (PySem.W.fnOf "_law_is_rounded" "_law_is_rounded" (defArgs s__law_is_rounded) (defBody s__law_is_rounded) (defScope s__law_is_rounded) .none kV15 dc15 pm15 an15 cd15 ct15), sl15⟩)
    (c15 : PySem.W.codeIn K cd15 "_law_is_rounded" = true) (k15 : PySem.W.keepIn K (.ref f15) = true)
    (a16 : PySem.W.nsIn K mainGlobals "law" = some (some (.ref f16)))
    (l16 : K.lookup f16 = some ⟨oc16, od16, .func (PySem.W.fnOf "law" "law" (defArgs s_law) (defBody s_law) (defScope s_law) .none kV16 dc16 pm16 an16 cd16 ct16), sl16⟩)
    (c16 : PySem.W.codeIn K cd16 "law" = true) (k16 : PySem.W.keepIn K (.ref f16) = true)
    (p0 : PySem.W.nsIn K mainGlobals "HouseError" = some (some (.ref C0)))
    (p1 : PySem.W.nsIn K mainGlobals "BadCount" = some (some (.ref C1)))
    (p2 : PySem.W.nsIn K mainGlobals "BadAmount" = some (some (.ref C2)))
    (p3 : PySem.W.nsIn K mainGlobals "BadShare" = some (some (.ref C3)))
    (o0 : PySem.W.clsIn K C0 = some cl0)
    (r0 : PySem.W.typeIn K (.ref C0) = some (.type "type"))
    (b0 : PySem.W.mroIn K C0 (.type "BaseException") = some true)
    (o1 : PySem.W.clsIn K C1 = some cl1)
    (r1 : PySem.W.typeIn K (.ref C1) = some (.type "type"))
    (b1 : PySem.W.mroIn K C1 (.type "BaseException") = some true)
    (o2 : PySem.W.clsIn K C2 = some cl2)
    (r2 : PySem.W.typeIn K (.ref C2) = some (.type "type"))
    (b2 : PySem.W.mroIn K C2 (.type "BaseException") = some true)
    (o3 : PySem.W.clsIn K C3 = some cl3)
    (r3 : PySem.W.typeIn K (.ref C3) = some (.type "type"))
    (b3 : PySem.W.mroIn K C3 (.type "BaseException") = some true)
    (q3 : PySem.W.excIn K C3 [.type "ValueError", .type "Exception", .type "BaseException", .type "object"] "ValueError.__new__" = true)
    (g3 : PySem.W.mroIn K C3 (.type "object") = some true)
    (v3 : PySem.W.mroIn K C3 (.type "ValueError") = some true)
    (u3 : PySem.W.findIn K (.ref C3) "__getattribute__" = some (some (.builtin "BaseException.__getattribute__")))
    (w3 : PySem.W.findIn K (.ref C3) "__getattr__" = some none)
    (y3 : PySem.W.findIn K (.ref C3) "__class__" = some (some (.builtin "object.__class__")))
    (s3_0 : PySem.W.mroIn K C3 (.ref C0) = some true)
    (s3_1 : PySem.W.mroIn K C3 (.ref C1) = some false)
    (s3_2 : PySem.W.mroIn K C3 (.ref C2) = some false)
    (s3_3 : PySem.W.mroIn K C3 (.ref C3) = some true)
    (z0 : PySem.W.nsIn K mainGlobals "ValueError" = some none)
    (z1 : PySem.W.nsIn K mainGlobals "abs" = some none)
    (z2 : PySem.W.nsIn K mainGlobals "all" = some none)
    (z3 : PySem.W.nsIn K mainGlobals "bool" = some none)
    (z4 : PySem.W.nsIn K mainGlobals "enumerate" = some none)
    (z5 : PySem.W.nsIn K mainGlobals "int" = some none)
    (z6 : PySem.W.nsIn K mainGlobals "isinstance" = some none)
    (z7 : PySem.W.nsIn K mainGlobals "len" = some none)
    (z8 : PySem.W.nsIn K mainGlobals "list" = some none)
    (z9 : PySem.W.nsIn K mainGlobals "max" = some none)
    (z10 : PySem.W.nsIn K mainGlobals "min" = some none)
    (z11 : PySem.W.nsIn K mainGlobals "range" = some none)
    (z12 : PySem.W.nsIn K mainGlobals "sorted" = some none)
    (z13 : PySem.W.nsIn K mainGlobals "str" = some none)
    (z14 : PySem.W.nsIn K mainGlobals "sum" = some none)
    (z15 : PySem.W.nsIn K mainGlobals "tuple" = some none)
    : ∃ fd : FuncData, (∀ (s : Shared) (v : Value), BindsTo s fd ⟨[v], []⟩ [("_law_script", v)]) ∧ ∀ base : Heap, K.In base → base.Ns mainGlobals mg → FnOk l.prog w K mg base (XE l.prog w) 8 fa fd ["_law_script"] (sp_law K) := by
  have e := hfa.symm.trans (PySem.W.mg_of X G a16)
  cases e
  have T : Txt K mg ⟨f0, PySem.W.fnOf "_wall" "_wall" (defArgs s__wall) (defBody s__wall) (defScope s__wall) .none kV0 dc0 pm0 an0 cd0 ct0, f1, PySem.W.fnOf "is_whole" "is_whole" (defArgs s_is_whole) (defBody s_is_whole) (defScope s_is_whole) .none kV1 dc1 pm1 an1 cd1 ct1, f2, PySem.W.fnOf "is_among" "is_among" (defArgs s_is_among) (defBody s_is_among) (defScope s_is_among) .none kV2 dc2 pm2 an2 cd2 ct2, f3, PySem.W.fnOf "rounded" "rounded" (defArgs s_rounded) (defBody s_rounded) (defScope s_rounded) .none kV3 dc3 pm3 an3 cd3 ct3, f4, PySem.W.fnOf "are_weights" "are_weights" (defArgs s_are_weights) (defBody s_are_weights) (defScope s_are_weights) .none kV4 dc4 pm4 an4 cd4 ct4, f5, PySem.W.fnOf "shared" "shared" (defArgs s_shared) (defBody s_shared) (defScope s_shared) .none kV5 dc5 pm5 an5 cd5 ct5, f6, PySem.W.fnOf "_law_at" "_law_at" (defArgs s__law_at) (defBody s__law_at) (defScope s__law_at) .none kV6 dc6 pm6 an6 cd6 ct6, f7, PySem.W.fnOf "_law_mixed" "_law_mixed" (defArgs s__law_mixed) (defBody s__law_mixed) (defScope s__law_mixed) .none kV7 dc7 pm7 an7 cd7 ct7, f8, PySem.W.fnOf "_law_whole" "_law_whole" (defArgs s__law_whole) (defBody s__law_whole) (defScope s__law_whole) .none kV8 dc8 pm8 an8 cd8 ct8, f9, PySem.W.fnOf "_law_number" "_law_number" (defArgs s__law_number) (defBody s__law_number) (defScope s__law_number) .none kV9 dc9 pm9 an9 cd9 ct9, f10, PySem.W.fnOf "_law_weights" "_law_weights" (defArgs s__law_weights) (defBody s__law_weights) (defScope s__law_weights) .none kV10 dc10 pm10 an10 cd10 ct10, f11, PySem.W.fnOf "_law_spoilt" "_law_spoilt" (defArgs s__law_spoilt) (defBody s__law_spoilt) (defScope s__law_spoilt) .none kV11 dc11 pm11 an11 cd11 ct11, f12, PySem.W.fnOf "_law_is_good" "_law_is_good" (defArgs s__law_is_good) (defBody s__law_is_good) (defScope s__law_is_good) .none kV12 dc12 pm12 an12 cd12 ct12, f13, PySem.W.fnOf "_law_told" "_law_told" (defArgs s__law_told) (defBody s__law_told) (defScope s__law_told) .none kV13 dc13 pm13 an13 cd13 ct13, f14, PySem.W.fnOf "_law_is_shared" "_law_is_shared" (defArgs s__law_is_shared) (defBody s__law_is_shared) (defScope s__law_is_shared) .none kV14 dc14 pm14 an14 cd14 ct14, f15, PySem.W.fnOf "_law_is_rounded" "_law_is_rounded" (defArgs s__law_is_rounded) (defBody s__law_is_rounded) (defScope s__law_is_rounded) .none kV15 dc15 pm15 an15 cd15 ct15, fa, PySem.W.fnOf "law" "law" (defArgs s_law) (defBody s_law) (defScope s_law) .none kV16 dc16 pm16 an16 cd16 ct16, C0, C1, C2, C3⟩ := ⟨fun_mk (st := s__wall) l0 c0 k0, PySem.W.mg_of X G a0, fun_mk (st := s_is_whole) l1 c1 k1, PySem.W.mg_of X G a1, fun_mk (st := s_is_among) l2 c2 k2, PySem.W.mg_of X G a2, fun_mk (st := s_rounded) l3 c3 k3, PySem.W.mg_of X G a3, fun_mk (st := s_are_weights) l4 c4 k4, PySem.W.mg_of X G a4, fun_mk (st := s_shared) l5 c5 k5, PySem.W.mg_of X G a5, fun_mk (st := s__law_at) l6 c6 k6, PySem.W.mg_of X G a6, fun_mk (st := s__law_mixed) l7 c7 k7, PySem.W.mg_of X G a7, fun_mk (st := s__law_whole) l8 c8 k8, PySem.W.mg_of X G a8, fun_mk (st := s__law_number) l9 c9 k9, PySem.W.mg_of X G a9, fun_mk (st := s__law_weights) l10 c10 k10, PySem.W.mg_of X G a10, fun_mk (st := s__law_spoilt) l11 c11 k11, PySem.W.mg_of X G a11, fun_mk (st := s__law_is_good) l12 c12 k12, PySem.W.mg_of X G a12, fun_mk (st := s__law_told) l13 c13 k13, PySem.W.mg_of X G a13, fun_mk (st := s__law_is_shared) l14 c14 k14, PySem.W.mg_of X G a14, fun_mk (st := s__law_is_rounded) l15 c15 k15, PySem.W.mg_of X G a15, fun_mk (st := s_law) l16 c16 k16, PySem.W.mg_of X G a16, PySem.W.mg_of X G p0, PySem.W.mg_of X G p1, PySem.W.mg_of X G p2, PySem.W.mg_of X G p3, q3, ⟨u3, w3, y3, (by rw [o3]; rfl), g3, b3⟩, exmOne_of o0 r0 b0 s3_0, kitOne_of o2 r2 s3_3 s3_2, kitOne_of o1 r1 s3_3 s3_1, kitOne_of o3 r3 s3_3 s3_3, kitOne_VE v3, PySem.W.mg_none_of X G z0, PySem.W.mg_none_of X G z1, PySem.W.mg_none_of X G z2, PySem.W.mg_none_of X G z3, PySem.W.mg_none_of X G z4, PySem.W.mg_none_of X G z5, PySem.W.mg_none_of X G z6, PySem.W.mg_none_of X G z7, PySem.W.mg_none_of X G z8, PySem.W.mg_none_of X G z9, PySem.W.mg_none_of X G z10, PySem.W.mg_none_of X G z11, PySem.W.mg_none_of X G z12, PySem.W.mg_none_of X G z13, PySem.W.mg_none_of X G z14, PySem.W.mg_none_of X G z15⟩
  exact ⟨PySem.W.fnOf "law" "law" (defArgs s_law) (defBody s_law) (defScope s_law) .none kV16 dc16 pm16 an16 cd16 ct16, fun s v => .of_eq rfl, fun base _ _ => ok_law T⟩
end K5
open PySem PySem.W PyProof.Rows
set_option maxRecDepth 100000 in
set_option maxHeartbeats 0 in
theorem PySem.Challenge.cw_evenhall_k05_shared_out_holds : PySem.Challenge.rw_evenhall_k05_shared_out.Holds := by
  w_on; o_law
  refine PySem.W.holds_open (q := K5.vw) (loose := []) (Xt := fun s => PySem.W.xlAt K5.vw [] s && PySem.W.recOk (PySem.W.RowW.records (PySem.W.OpenRow.toRowW (PySem.W.OpenLaw.row PySem.Challenge.rw_evenhall_k05_shared_out))) s) (XP := PySem.W.XL K5.vw []) (Yf := PySem.W.Hook.obs (PySem.W.kHook K5.frag K5.adrs K5.adrs_eq)) (Ya := PySem.W.Hook.val (PySem.W.kHook K5.frag K5.adrs K5.adrs_eq)) (YP := PySem.W.Hook.says (PySem.W.kHook K5.frag K5.adrs K5.adrs_eq)) (N := 3060) K5.left (PySem.W.Hook.of (PySem.W.kHook K5.frag K5.adrs K5.adrs_eq)) (PySem.W.Hook.keeps (PySem.W.kHook K5.frag K5.adrs K5.adrs_eq))
    (fun s e => PySem.W.xl_of s (Bool.and_eq_true_iff.mp e).1) PySem.W.XL.keeps (by rfl) (by rfl) (by rfl) (fun s e => PySem.W.recFacts_of (Bool.and_eq_true_iff.mp e).2) (by rfl) (by assumption) (by decide +kernel) ⟨rfl, rfl, rfl, rfl, rfl, by decide +kernel⟩ ?hw ?hc
  (case hw => w_witness2)
  k_fill
  refine L2.walk_ofX (l := PySem.Challenge.rw_evenhall_k05_shared_out) (n := 63) (k := 8) (x := "_law_script") (sp := K5.sp_law) rfl (by decide) rfl ⟨rfl, by decide, by decide⟩ (fun w h Y => PySem.W.kIn_of Y) ?F ?S
  case F =>
    intro w mg fa h KX G hmg
    refine' K5.all_mk KX G hmg ?a0 ?l0 ?c0 ?k0 ?a1 ?l1 ?c1 ?k1 ?a2 ?l2 ?c2 ?k2 ?a3 ?l3 ?c3 ?k3 ?a4 ?l4 ?c4 ?k4 ?a5 ?l5 ?c5 ?k5 ?a6 ?l6 ?c6 ?k6 ?a7 ?l7 ?c7 ?k7 ?a8 ?l8 ?c8 ?k8 ?a9 ?l9 ?c9 ?k9 ?a10 ?l10 ?c10 ?k10 ?a11 ?l11 ?c11 ?k11 ?a12 ?l12 ?c12 ?k12 ?a13 ?l13 ?c13 ?k13 ?a14 ?l14 ?c14 ?k14 ?a15 ?l15 ?c15 ?k15 ?a16 ?l16 ?c16 ?k16 ?p0 ?p1 ?p2 ?p3 ?o0 ?r0 ?b0 ?o1 ?r1 ?b1 ?o2 ?r2 ?b2 ?o3 ?r3 ?b3 ?q3 ?g3 ?v3 ?u3 ?w3 ?y3 ?s3_0 ?s3_1 ?s3_2 ?s3_3 ?z0 ?z1 ?z2 ?z3 ?z4 ?z5 ?z6 ?z7 ?z8 ?z9 ?z10 ?z11 ?z12 ?z13 ?z14 ?z15
    (case p0 => k_is)
    (case p1 => k_is)
    (case p2 => k_is)
    (case p3 => k_is)
    (case a0 => k_is)
    (case l0 => k_is)
    (case c0 => k_is)
    (case k0 => k_is)
    (case a1 => k_is)
    (case l1 => k_is)
    (case c1 => k_is)
    (case k1 => k_is)
    (case a2 => k_is)
    (case l2 => k_is)
    (case c2 => k_is)
    (case k2 => k_is)
    (case a3 => k_is)
    (case l3 => k_is)
    (case c3 => k_is)
    (case k3 => k_is)
    (case a4 => k_is)
    (case l4 => k_is)
    (case c4 => k_is)
    (case k4 => k_is)
    (case a5 => k_is)
    (case l5 => k_is)
    (case c5 => k_is)
    (case k5 => k_is)
    (case a6 => k_is)
    (case l6 => k_is)
    (case c6 => k_is)
    (case k6 => k_is)
    (case a7 => k_is)
    (case l7 => k_is)
    (case c7 => k_is)
    (case k7 => k_is)
    (case a8 => k_is)
    (case l8 => k_is)
    (case c8 => k_is)
    (case k8 => k_is)
    (case a9 => k_is)
    (case l9 => k_is)
    (case c9 => k_is)
    (case k9 => k_is)
    (case a10 => k_is)
    (case l10 => k_is)
    (case c10 => k_is)
    (case k10 => k_is)
    (case a11 => k_is)
    (case l11 => k_is)
    (case c11 => k_is)
    (case k11 => k_is)
    (case a12 => k_is)
    (case l12 => k_is)
    (case c12 => k_is)
    (case k12 => k_is)
    (case a13 => k_is)
    (case l13 => k_is)
    (case c13 => k_is)
    (case k13 => k_is)
    (case a14 => k_is)
    (case l14 => k_is)
    (case c14 => k_is)
    (case k14 => k_is)
    (case a15 => k_is)
    (case l15 => k_is)
    (case c15 => k_is)
    (case k15 => k_is)
    (case a16 => k_is)
    (case l16 => k_is)
    (case c16 => k_is)
    (case k16 => k_is)
    (case o0 => k_is)
    (case r0 => k_is)
    (case b0 => k_is)
    (case o1 => k_is)
    (case r1 => k_is)
    (case b1 => k_is)
    (case o2 => k_is)
    (case r2 => k_is)
    (case b2 => k_is)
    (case o3 => k_is)
    (case r3 => k_is)
    (case b3 => k_is)
    (case q3 => k_exc)
    (case g3 => k_is)
    (case v3 => k_is)
    (case u3 => k_is)
    (case w3 => k_is)
    (case y3 => k_is)
    (case s3_0 => k_is)
    (case s3_1 => k_is)
    (case s3_2 => k_is)
    (case s3_3 => k_is)
    (case z0 => k_is)
    (case z1 => k_is)
    (case z2 => k_is)
    (case z3 => k_is)
    (case z4 => k_is)
    (case z5 => k_is)
    (case z6 => k_is)
    (case z7 => k_is)
    (case z8 => k_is)
    (case z9 => k_is)
    (case z10 => k_is)
    (case z11 => k_is)
    (case z12 => k_is)
    (case z13 => k_is)
    (case z14 => k_is)
    (case z15 => k_is)
  case S => exact fun K H a ns hl hO hS => K5.law_starts hO hS hl